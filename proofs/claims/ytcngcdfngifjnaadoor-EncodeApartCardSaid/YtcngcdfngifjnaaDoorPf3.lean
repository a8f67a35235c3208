/- A part of the proofs, joined of smaller texts: Bl, Bm, Bna, Bnb, Bnc, Bnd, Bne, Bnf, Bng, Bnh, Bni, Bo, Bp, Bq, Br, Bs, Bt, Bu. -/
import Derived.Test.YtcngcdfngifjnaaDoorPf2
import Derived.Deep.Cut

/- The reader: items. -/
namespace Go.Proofs.YtcngcdfngifjnaaDoor.Dg
open Go Go.RowKit Go.Proofs.YtcngcdfngifjnaaDoor.Ne Go.Proofs.YtcngcdfngifjnaaDoor.Kr

theorem stSl {w : World} {a : Addr} {p : Option Addr} {n c : Nat} {v : Value} (h : w.cell? a = some v) (hf : w.frozen? a = false) : (Instr.storeAt 22 (.pointer (some a)) (.slice p n c)).run Tryd.prog w = .ok () (w.setCell a (.slice p n c)) := by
  go_simp
theorem stLs {w : World} {a : Addr} {p : Option Addr} {n c : Nat} {v : Value} (h : w.cell? a = some v) (hf : w.frozen? a = false) : (Instr.storeAt 23 (.pointer (some a)) (.slice p n c)).run Tryd.prog w = .ok () (w.setCell a (.slice p n c)) := by
  go_simp
theorem infoI : (Tryd.prog.info? 25).map (·.size) = some 4 := by kernel_rfl
/-- What is kept while blocks of one's own are written. -/
def Same (F : Nat → Prop) (W W' : World) : Prop := ∀ b, F b → W'.heap[b]? = W.heap[b]?
theorem same_set {F : Nat → Prop} {W : World} {b j : Nat} {u : Value} (h : ¬ F b) : Same F W (W.setCell ⟨b, j, none⟩ u) := fun k hk => by
  have : b ≠ k := fun e => h (e ▸ hk)
  simp only [World.setCell, Array.getElem?_modify, if_neg this]
theorem same_put {F : Nat → Prop} {W : World} {b : Nat} {cs : Array Value} (h : ¬ F b) : Same F W (W.setRow b cs) := fun k hk => by
  have : k ≠ b := fun e => h (e ▸ hk)
  exact setRow_other W b k cs this
theorem Same.trans {F : Nat → Prop} {a b c : World} (h : Same F a b) (k : Same F b c) : Same F a c := fun i hi => (k i hi).trans (h i hi)
theorem Same.refl (F : Nat → Prop) (a : World) : Same F a a := fun _ _ => rfl
theorem same_gr {F : Nat → Prop} {a b : World} (g : Gr a b) (h : ∀ k, F k → k < a.heap.size) : Same F a b := fun k hk => g.block k (h k hk)
theorem out_err {r : Except Int (It × Nat)} {ps ps2 : Nat} {c : Int} {P : It → Prop} (h : r = .error c) (hc : c ≠ 0) : Out r ps ps2 c P := by
  rw [h]; exact ⟨rfl, hc⟩
theorem outL_err {r : Except Int (List It × Nat)} {ps ps2 : Nat} {c : Int} {P : List It → Prop} (h : r = .error c) (hc : c ≠ 0) : OutL r ps ps2 c P := by
  rw [h]; exact ⟨rfl, hc⟩
/-- The loop over the items. -/
def LI (w W : World) (d nn : Nat) (Z : Except Int (List It × Nat)) (l : List (BitVec 8)) (n p0 : Nat) (v : Value) (k ps : Nat) (e : Int) : Prop :=
  ∃ xs, W.ownsRow w.heap.size 25 4 v k xs ∧ ps ≤ n ∧ ((e = 0 ∧ ∃ ts m, ts.length = k ∧ Z = pref ts m (rdl (rd d) (nn - k) (l.drop ps)) ∧ ps = p0 + m ∧ Kids w W (d + 1) v xs ts) ∨ (e ≠ 0 ∧ Z = .error e))
theorem sliceI {W : World} {B k : Nat} {v : Value} {xs : List Value} (h : W.ownsRow B 25 4 v k xs) : ∃ p c, v = .slice p k c ∧ (p = none → c = 0) := by
  rcases h.2 with ⟨e1, e2⟩ | ⟨g, cap, cur, e1, _⟩
  · exact ⟨none, 0, by rw [e1, e2], fun _ => rfl⟩
  · exact ⟨_, cap, e1, fun e => by cases e⟩
theorem rowI_grow {W W' : World} {B k : Nat} {v : Value} {xs : List Value} (h : W.ownsRow B 25 4 v k xs) (g : ∀ b, v.ownBlock = some b → W'.heap[b]? = W.heap[b]?) : W'.ownsRow B 25 4 v k xs := by
  obtain ⟨h1, h2 | ⟨b, cap, cur, e1, e2, e3, e4⟩⟩ := h
  · exact ⟨h1, .inl h2⟩
  · exact ⟨h1, .inr ⟨b, cap, cur, e1, e2, by rw [g b (by rw [e1]; rfl)]; exact e3, e4⟩⟩
/-- What a call says that reads an item. -/
def ItemP (w : World) (br b off n c ps d : Nat) (l : List (BitVec 8)) (o : Ending) (w' : World) : Prop := ∃ (v0 v1 v2 v3 : Value) (ps2 : Nat) (e2 : Int), o = .returned (.agg #[v0, v1, v2, v3]) ∧ (∀ u ∈ ([v0, v1, v2, v3] : List Value), u.oneCell' = true) ∧ w'.heap[br]? = some (.cells (rdr (.slice (some ⟨b, off, none⟩) n c) (ps2 : Int) e2).toArray 60 (0, 0)) ∧ GrX br w w' ∧ ps2 ≤ n ∧ Out (rd d (l.drop ps)) ps ps2 e2 (fun t => ItV w' (d + 1) (fun b => w.heap.size ≤ b ∧ b < w'.heap.size) (.agg #[v0, v1, v2, v3]) t)
/-- What a call says that reads the items of a list. -/
def ItemsP (w : World) (br b off n c ps d : Nat) (l : List (BitVec 8)) (o : Ending) (w' : World) : Prop := ∃ (pl : Option Addr) (nl cl : Nat) (ps2 : Nat) (e2 : Int), o = .returned (.slice pl nl cl) ∧ (pl = none → cl = 0) ∧ w'.heap[br]? = some (.cells (rdr (.slice (some ⟨b, off, none⟩) n c) (ps2 : Int) e2).toArray 60 (0, 0)) ∧ GrX br w w' ∧ ps2 ≤ n ∧ OutL (rdB (rd d) (l.drop ps)) ps ps2 e2 (fun ts => nl = ts.length ∧ nl ≤ 1000 ∧ LsV w' (d + 1) (fun b => w.heap.size ≤ b ∧ b < w'.heap.size) pl ts)

theorem nb_step (a : BitVec 64) (x : BitVec 8) (h : a.toNat < 72057594037927936) : ((a <<< 8) ||| x.setWidth 64).toNat = a.toNat * 256 + x.toNat := by
  have hx := x.isLt
  rw [BitVec.toNat_or, BitVec.toNat_shiftLeft, BitVec.toNat_setWidth, Nat.shiftLeft_eq, Nat.mod_eq_of_lt (by omega), Nat.mod_eq_of_lt (show x.toNat < 2 ^ 64 by omega), Nat.mul_comm, show (2 : Nat) ^ 8 * a.toNat = 2 ^ 8 * a.toNat from rfl, ← Nat.two_pow_add_eq_or_of_lt (i := 8) (by omega)]
theorem nb4_lt {q : List (BitVec 8)} (h : q.length = 4) : (nb q).toNat < 4294967296 := by
  match q, h with
  | [x, y, z, t], _ =>
    have h0 : (0#64).toNat = 0 := rfl
    have e1 := nb_step 0#64 x (by rw [h0]; decide)
    have b1 := x.isLt
    have e2 := nb_step _ y (show ((0#64 <<< 8) ||| x.setWidth 64).toNat < _ by rw [e1, h0]; omega)
    have b2 := y.isLt
    have e3 := nb_step _ z (show ((((0#64 <<< 8) ||| x.setWidth 64) <<< 8) ||| y.setWidth 64).toNat < _ by rw [e2, e1, h0]; omega)
    have b3 := z.isLt
    have e4 := nb_step _ t (show ((((((0#64 <<< 8) ||| x.setWidth 64) <<< 8) ||| y.setWidth 64) <<< 8) ||| z.setWidth 64).toNat < _ by rw [e3, e2, e1, h0]; omega)
    have b4 := t.isLt
    show ((((((((0#64 <<< 8) ||| x.setWidth 64) <<< 8) ||| y.setWidth 64) <<< 8) ||| z.setWidth 64) <<< 8) ||| t.setWidth 64).toNat < _
    rw [e4, e3, e2, e1, h0]
    omega

theorem nb4 {q : List (BitVec 8)} (h : q.length = 4) : (nb q).toInt = ((nb q).toNat : Int) ∧ (nb q).toNat < 4294967296 := by
  have hb : (nb q).toNat < 4294967296 := nb4_lt h
  refine ⟨?_, hb⟩
  rw [BitVec.toInt_eq_toNat_cond, if_pos (by omega)]
set_option linter.unusedSimpArgs false in
set_option maxRecDepth 100000 in
set_option maxHeartbeats 16000000 in
theorem items_step {d : Nat} (ih : ∀ {w : World} {br b off n c ps : Nat} {l : List (BitVec 8)} (_ : w.heap[br]? = some (.cells (rdr (.slice (some ⟨b, off, none⟩) n c) (ps : Int) 0).toArray 60 (0, 0))) (_ : SrcB (some ⟨b, off, none⟩) l w) (_ : Off br (some ⟨b, off, none⟩)) (_ : l.length = n) (_ : n ≤ 20000) (_ : n ≤ c) (_ : ps ≤ n), Calls Tryd.prog 40 #[.pointer (some ⟨br, 0, none⟩), .int .i64 (d : Int)] w fun o w' => ItemP w br b off n c ps d l o w')
    {w : World} {br b off n c ps : Nat} {l : List (BitVec 8)} (hr : w.heap[br]? = some (.cells (rdr (.slice (some ⟨b, off, none⟩) n c) (ps : Int) 0).toArray 60 (0, 0))) (hS : SrcB (some ⟨b, off, none⟩) l w) (hO : Off br (some ⟨b, off, none⟩)) (hl : l.length = n) (hn : n ≤ 20000) (hc : n ≤ c) (hp : ps ≤ n) :
    Calls Tryd.prog 50 #[.pointer (some ⟨br, 0, none⟩), .int .i64 (d : Int)] w fun o w' => ItemsP w br b off n c ps d l o w' := by
  have HS := Lib.hid hS; have HO := Lib.hid hO; clear hS hO; obtain ⟨L, hL⟩ : ∃ z, l.drop ps = z := ⟨_, rfl⟩; have hLl : L.length = n - ps := by rw [← hL, List.length_drop, hl]
  have HL := Lib.hid hL; clear hL; have hb0 : w.heap.size ≤ w.heap.size := Nat.le_refl _
  obtain ⟨RES, hRS⟩ : ∃ z, rdB (rd d) L = z := ⟨_, rfl⟩; have HRES := Lib.hid hRS; clear hRS
  have H := OwX.start hr
  go_enter Tryd.func50, Tryd.ntmps50
  go_upto_region 0 with fail
  refine Kr.seqStartW ?_
  (refine Kr.seqQ (v := ?_) (a' := ?_) (by rfl) ?_ ?_ ?_; rotate_left 2; (focus (go_simp; first | done | rfl)); (focus ((try simp only [Kr.PT]); first | done | rfl)))
  refine Kr.seqDoneW ?_
  by_cases h4 : L.length < 4
  · have hre : RES = .error 4 := by rw [← HRES.out, rdB, if_pos h4]
    subst hre
    go_upto_region 1 with fail
    refine Kr.seqStartW ?_
    (refine Kr.seqQ (v := ?_) (a' := ?_) (by rfl) ?_ ?_ ?_; rotate_left 2; (focus (go_simp; first | done | rfl)); (focus ((try simp only [Kr.PT]); first | done | rfl)))
    refine Kr.seqR (by rfl) (fun K hK => ?_)
    go_simp
    go_at_call 48
    refine (number_end (m := 4) (H.at 0 rfl) (by omega) (hp) (by omega)).mono ?_
    rintro o9 y1 ⟨rfl, hh, hg⟩
    replace H := H.call 0 rfl hg hh; dsimp only [List.set] at H
    clear hh hg
    (refine Kr.outS hK (a' := ?_) ?_ ?_; rotate_left; (focus ((try simp only [Kr.PT]); first | done | rfl))); clear hK K
    (refine Kr.seqQ (v := ?_) (a' := ?_) (by rfl) ?_ ?_ ?_; rotate_left 2; (focus (go_simp; first | done | rfl)); (focus ((try simp only [Kr.PT]); first | done | rfl)))
    refine Kr.seqDoneW ?_
    have C1 : decide ((1000 : Int) < 0) = false := decide_eq_false (by omega)
    go_upto_region 2 with fail
    refine Kr.seqStartW ?_
    (refine Kr.seqQ (v := ?_) (a' := ?_) (by rfl) ?_ ?_ ?_; rotate_left 2; (focus (go_simp; first | done | rfl)); (focus ((try simp only [Kr.PT]); first | done | rfl)))
    (refine Kr.seqQ (v := .bool false) (a' := ?_) (by rfl) ?_ ?_ ?_; rotate_left 1; (focus (exact Kr.valOf rfl (gtrI C1))); (focus ((try simp only [Kr.PT]); first | done | rfl)))
    refine Kr.seqDoneW ?_
    go_upto_region 4 with fail
    refine Kr.seqStartW ?_
    (refine Kr.seqQ (v := ?_) (a' := ?_) (by rfl) ?_ ?_ ?_; rotate_left 2; (focus (go_simp; first | done | rfl)); (focus ((try simp only [Kr.PT]); first | done | rfl)))
    refine Kr.seqDoneW ?_
    have H2 := Lib.hid H; clear H
    go_wp2_with fail
    go_loopw [6] (fun lv wr => lv = .slice none 0 0 ∧ Hid (OwX br w wr [(br, 60, rdr (.slice (some ⟨b, off, none⟩) n c) (ps : Int) 4)])) (fun _ _ => 0)
    case atStart => exact ⟨rfl, H2⟩
    case round =>
      clear H2; obtain ⟨rfl, HH⟩ := hrel; have H := HH.out; clear HH
      have C3 : decide ((0 : Int) < 0) = false := decide_eq_false (by omega)
      go_upto_region 5 with fail
      refine Kr.seqStartW ?_
      (refine Kr.seqQ (v := ?_) (a' := ?_) (by rfl) ?_ ?_ ?_; rotate_left 2; (focus (go_simp; first | done | rfl)); (focus ((try simp only [Kr.PT]); first | done | rfl)))
      (refine Kr.seqQ (v := .int .i64 0) (a' := ?_) (by rfl) ?_ ?_ ?_; rotate_left 1; (focus (exact Kr.valOf rfl ((by go_simp)))); (focus ((try simp only [Kr.PT]); first | done | rfl)))
      (refine Kr.seqQ (v := ?_) (a' := ?_) (by rfl) ?_ ?_ ?_; rotate_left 2; (focus (go_simp; first | done | rfl)); (focus ((try simp only [Kr.PT]); first | done | rfl)))
      (refine Kr.seqQ (v := .bool false) (a' := ?_) (by rfl) ?_ ?_ ?_; rotate_left 1; (focus (exact Kr.valOf rfl (lssT C3))); (focus ((try simp only [Kr.PT]); first | done | rfl)))
      (refine Kr.seqQ (v := ?_) (a' := ?_) (by rfl) ?_ ?_ ?_; rotate_left 2; (focus (go_simp; first | done | rfl)); (focus ((try simp only [Kr.PT]); first | done | rfl)))
      (refine Kr.seqSkipQ (a' := ?_) (by rfl) ?_ ?_; rotate_left; (focus ((try simp only [Kr.PT]); first | done | rfl)))
      (refine Kr.seqSkipQ (a' := ?_) (by rfl) ?_ ?_; rotate_left; (focus ((try simp only [Kr.PT]); first | done | rfl)))
      (refine Kr.seqSkipQ (a' := ?_) (by rfl) ?_ ?_; rotate_left; (focus ((try simp only [Kr.PT]); first | done | rfl)))
      (refine Kr.seqSkipQ (a' := ?_) (by rfl) ?_ ?_; rotate_left; (focus ((try simp only [Kr.PT]); first | done | rfl)))
      (refine Kr.seqSkipQ (a' := ?_) (by rfl) ?_ ?_; rotate_left; (focus ((try simp only [Kr.PT]); first | done | rfl)))
      (refine Kr.seqQ (v := ?_) (a' := ?_) (by rfl) ?_ ?_ ?_; rotate_left 2; (focus (go_simp; first | done | rfl)); (focus ((try simp only [Kr.PT]); first | done | rfl)))
      refine Kr.seqDoneW ?_
      go_upto_region 7 with fail
      refine Kr.seqStartW ?_
      (refine Kr.seqQ (v := ?_) (a' := ?_) (by rfl) ?_ ?_ ?_; rotate_left 2; (focus (go_simp; first | done | rfl)); (focus ((try simp only [Kr.PT]); first | done | rfl)))
      (refine Kr.seqQ (v := ?_) (a' := ?_) (by rfl) ?_ ?_ ?_; rotate_left 2; (focus (go_simp; first | done | rfl)); (focus ((try simp only [Kr.PT]); first | done | rfl)))
      refine Kr.seqDoneW ?_
      have hk := trivial
      go_wp2
      refine bodyPost_ret (v := .slice none 0 0) (by simp [results, Tryd.results50, go_sem, hk]) rfl ⟨none, 0, 0, ps, 4, rfl, fun _ => rfl, H.at 0 rfl, H.g, hp, (by rw [HL.out, HRES.out]; exact ⟨rfl, by decide⟩)⟩
  have h4e : ps + 4 ≤ n := by omega
  obtain ⟨q, hq⟩ : ∃ z, L.take 4 = z := ⟨_, rfl⟩; have hqe : (l.drop ps).take 4 = q := by rw [HL.out]; exact hq
  have hqn := nb4 (show q.length = 4 by rw [← hq, List.length_take]; omega); obtain ⟨nn, hnn⟩ : ∃ z, (nb q).toNat = z := ⟨_, rfl⟩; rw [hnn] at hqn; have HQV : Hid ((nb q).toInt = (nn : Int)) := Lib.hid hqn.1; have hnnb := hqn.2; clear hqn
  have HQE := Lib.hid hqe; have HQ := Lib.hid hq; have HNN := Lib.hid hnn; clear hqe hq hnn
  by_cases hbig : 1000 < nn
  · have hre : RES = .error 3 := by rw [← HRES.out, rdB, if_neg h4, HQ.out, HNN.out, if_pos hbig]
    subst hre
    go_upto_region 1 with fail
    refine Kr.seqStartW ?_
    (refine Kr.seqQ (v := ?_) (a' := ?_) (by rfl) ?_ ?_ ?_; rotate_left 2; (focus (go_simp; first | done | rfl)); (focus ((try simp only [Kr.PT]); first | done | rfl)))
    refine Kr.seqR (by rfl) (fun K hK => ?_)
    go_simp
    go_at_call 48
    refine (number_ok (m := 4) (H.at 0 rfl) (HS.out.growX HO.out H.g) HO.out hl (by omega) hc (h4e) (by decide)).mono ?_
    rintro o9 y2 ⟨rfl, hh, hg⟩
    replace H := H.call 0 rfl hg hh; dsimp only [List.set] at H
    clear hh hg
    rw [HQE.out, HQV.out]
    (refine Kr.outS hK (a' := ?_) ?_ ?_; rotate_left; (focus ((try simp only [Kr.PT]); first | done | rfl))); clear hK K
    (refine Kr.seqQ (v := ?_) (a' := ?_) (by rfl) ?_ ?_ ?_; rotate_left 2; (focus (go_simp; first | done | rfl)); (focus ((try simp only [Kr.PT]); first | done | rfl)))
    refine Kr.seqDoneW ?_
    have C1 : decide ((1000 : Int) < (nn : Int)) = true := decide_eq_true (by omega)
    go_upto_region 2 with fail
    refine Kr.seqStartW ?_
    (refine Kr.seqQ (v := ?_) (a' := ?_) (by rfl) ?_ ?_ ?_; rotate_left 2; (focus (go_simp; first | done | rfl)); (focus ((try simp only [Kr.PT]); first | done | rfl)))
    (refine Kr.seqQ (v := .bool true) (a' := ?_) (by rfl) ?_ ?_ ?_; rotate_left 1; (focus (exact Kr.valOf rfl (gtrI C1))); (focus ((try simp only [Kr.PT]); first | done | rfl)))
    refine Kr.seqDoneW ?_
    go_upto_region 3 with fail
    refine Kr.seqStartW ?_
    (refine Kr.seqQ (v := ?_) (a' := ?_) (by rfl) ?_ ?_ ?_; rotate_left 2; (focus (go_simp; first | done | rfl)); (focus ((try simp only [Kr.PT]); first | done | rfl)))
    refine Kr.seqR (by rfl) (fun K hK => ?_)
    go_simp
    go_at_call 41
    refine (fail_set (code := 3) (H.at 0 rfl)).mono ?_
    rintro o9 y3 ⟨rfl, hh, hg⟩
    replace H := H.call 0 rfl hg hh; dsimp only [List.set] at H; clear hh hg
    (refine Kr.outS hK (a' := ?_) ?_ ?_; rotate_left; (focus ((try simp only [Kr.PT]); first | done | rfl))); clear hK K
    refine Kr.seqDoneW ?_
    go_upto_region 4 with fail
    refine Kr.seqStartW ?_
    (refine Kr.seqQ (v := ?_) (a' := ?_) (by rfl) ?_ ?_ ?_; rotate_left 2; (focus (go_simp; first | done | rfl)); (focus ((try simp only [Kr.PT]); first | done | rfl)))
    refine Kr.seqDoneW ?_
    have H2 := Lib.hid H; clear H
    go_wp2_with fail
    go_loopw [6] (fun lv wr => lv = .slice none 0 0 ∧ Hid (OwX br w wr [(br, 60, rdr (.slice (some ⟨b, off, none⟩) n c) ((ps + 4 : Nat) : Int) 3)])) (fun _ _ => 0)
    case atStart => exact ⟨rfl, H2⟩
    case round =>
      clear H2; obtain ⟨rfl, HH⟩ := hrel; have H := HH.out; clear HH
      have C3 : decide ((0 : Int) < (nn : Int)) = true := decide_eq_true (by omega)
      have C4 : decide ((3 : Int) = 0) = false := decide_eq_false (by decide)
      go_upto_region 5 with fail
      refine Kr.seqStartW ?_
      (refine Kr.seqQ (v := ?_) (a' := ?_) (by rfl) ?_ ?_ ?_; rotate_left 2; (focus (go_simp; first | done | rfl)); (focus ((try simp only [Kr.PT]); first | done | rfl)))
      (refine Kr.seqQ (v := .int .i64 0) (a' := ?_) (by rfl) ?_ ?_ ?_; rotate_left 1; (focus (exact Kr.valOf rfl ((by go_simp)))); (focus ((try simp only [Kr.PT]); first | done | rfl)))
      (refine Kr.seqQ (v := ?_) (a' := ?_) (by rfl) ?_ ?_ ?_; rotate_left 2; (focus (go_simp; first | done | rfl)); (focus ((try simp only [Kr.PT]); first | done | rfl)))
      (refine Kr.seqQ (v := .bool true) (a' := ?_) (by rfl) ?_ ?_ ?_; rotate_left 1; (focus (exact Kr.valOf rfl (lssT C3))); (focus ((try simp only [Kr.PT]); first | done | rfl)))
      (refine Kr.seqQ (v := ?_) (a' := ?_) (by rfl) ?_ ?_ ?_; rotate_left 2; (focus (go_simp; first | done | rfl)); (focus ((try simp only [Kr.PT]); first | done | rfl)))
      (refine Kr.seqQ (v := ?_) (a' := ?_) (by rfl) ?_ ?_ ?_; rotate_left 2; (focus (go_simp; first | done | rfl)); (focus ((try simp only [Kr.PT]); first | done | rfl)))
      (refine Kr.seqQ (v := ?_) (a' := ?_) (by rfl) ?_ ?_ ?_; rotate_left 2; (focus (go_simp; first | done | rfl)); (focus ((try simp only [Kr.PT]); first | done | rfl)))
      (refine Kr.seqQ (v := .pointer (some ⟨br, 2, none⟩)) (a' := ?_) (by rfl) ?_ ?_ ?_; rotate_left 1; (focus (go_simp; first | done | rfl)); (focus ((try simp only [Kr.PT]); first | done | rfl)))
      (refine Kr.seqQ (v := .int .i64 3) (a' := ?_) (by rfl) ?_ ?_ ?_; rotate_left 1; (focus (exact Kr.valOf rfl (ldErr (rowCell (j := 2) (H.at 0 rfl) rfl)))); (focus ((try simp only [Kr.PT]); first | done | rfl)))
      (refine Kr.seqQ (v := .bool false) (a' := ?_) (by rfl) ?_ ?_ ?_; rotate_left 1; (focus (exact Kr.valOf rfl (eqlI C4))); (focus ((try simp only [Kr.PT]); first | done | rfl)))
      (refine Kr.seqQ (v := ?_) (a' := ?_) (by rfl) ?_ ?_ ?_; rotate_left 2; (focus (go_simp; first | done | rfl)); (focus ((try simp only [Kr.PT]); first | done | rfl)))
      refine Kr.seqDoneW ?_
      go_upto_region 7 with fail
      refine Kr.seqStartW ?_
      (refine Kr.seqQ (v := ?_) (a' := ?_) (by rfl) ?_ ?_ ?_; rotate_left 2; (focus (go_simp; first | done | rfl)); (focus ((try simp only [Kr.PT]); first | done | rfl)))
      (refine Kr.seqQ (v := ?_) (a' := ?_) (by rfl) ?_ ?_ ?_; rotate_left 2; (focus (go_simp; first | done | rfl)); (focus ((try simp only [Kr.PT]); first | done | rfl)))
      refine Kr.seqDoneW ?_
      have hk := trivial
      go_wp2
      refine bodyPost_ret (v := .slice none 0 0) (by simp [results, Tryd.results50, go_sem, hk]) rfl ⟨none, 0, 0, ps + 4, 3, rfl, fun _ => rfl, H.at 0 rfl, H.g, h4e, (by rw [HL.out, HRES.out]; exact ⟨rfl, by decide⟩)⟩
  obtain ⟨Z, hZ⟩ : ∃ z, rdl (rd d) nn (L.drop 4) = z := ⟨_, rfl⟩; have HRZ : Hid (RES = sh4 Z) := Lib.hid (by rw [← HRES.out, rdB, if_neg h4, HQ.out, HNN.out, if_neg hbig, hZ])
  have hZ2 : Z = pref [] 0 (rdl (rd d) (nn - 0) (l.drop (ps + 4))) := by
    rw [Nat.sub_zero, ← hZ, ← HL.out, List.drop_drop]
    generalize rdl (rd d) nn (l.drop (ps + 4)) = r
    cases r with
    | error e => rfl
    | ok x => obtain ⟨xs, m⟩ := x; simp [pref]
  have HZ2 := Lib.hid hZ2; clear hZ hZ2
  go_upto_region 1 with fail
  refine Kr.seqStartW ?_
  (refine Kr.seqQ (v := ?_) (a' := ?_) (by rfl) ?_ ?_ ?_; rotate_left 2; (focus (go_simp; first | done | rfl)); (focus ((try simp only [Kr.PT]); first | done | rfl)))
  refine Kr.seqR (by rfl) (fun K hK => ?_)
  go_simp
  go_at_call 48
  refine (number_ok (m := 4) (H.at 0 rfl) (HS.out.growX HO.out H.g) HO.out hl (by omega) hc (h4e) (by decide)).mono ?_
  rintro o9 y4 ⟨rfl, hh, hg⟩
  replace H := H.call 0 rfl hg hh; dsimp only [List.set] at H
  clear hh hg
  rw [HQE.out, HQV.out]
  (refine Kr.outS hK (a' := ?_) ?_ ?_; rotate_left; (focus ((try simp only [Kr.PT]); first | done | rfl))); clear hK K
  (refine Kr.seqQ (v := ?_) (a' := ?_) (by rfl) ?_ ?_ ?_; rotate_left 2; (focus (go_simp; first | done | rfl)); (focus ((try simp only [Kr.PT]); first | done | rfl)))
  refine Kr.seqDoneW ?_
  have C1 : decide ((1000 : Int) < (nn : Int)) = false := decide_eq_false (by omega)
  go_upto_region 2 with fail
  refine Kr.seqStartW ?_
  (refine Kr.seqQ (v := ?_) (a' := ?_) (by rfl) ?_ ?_ ?_; rotate_left 2; (focus (go_simp; first | done | rfl)); (focus ((try simp only [Kr.PT]); first | done | rfl)))
  (refine Kr.seqQ (v := .bool false) (a' := ?_) (by rfl) ?_ ?_ ?_; rotate_left 1; (focus (exact Kr.valOf rfl (gtrI C1))); (focus ((try simp only [Kr.PT]); first | done | rfl)))
  refine Kr.seqDoneW ?_
  go_upto_region 4 with fail
  refine Kr.seqStartW ?_
  (refine Kr.seqQ (v := ?_) (a' := ?_) (by rfl) ?_ ?_ ?_; rotate_left 2; (focus (go_simp; first | done | rfl)); (focus ((try simp only [Kr.PT]); first | done | rfl)))
  refine Kr.seqDoneW ?_
  clear C1
  have hli : LI w y4 d nn Z l n (ps + 4) (.slice none 0 0) 0 (ps + 4) 0 := ⟨[], World.ownsRow_nil _ _ _ _, h4e, .inl ⟨rfl, [], 0, rfl, HZ2.out, rfl, fun _ => False, fun b hb => hb.elim, fun j x hx => by simp at hx⟩⟩
  have HLI0 := Lib.hid hli; clear hli
  have H2 := Lib.hid H; clear H
  go_wp2_with fail
  go_loopw [6] (fun lv wr => ∃ (k pp : Nat) (e : Int), k ≤ nn ∧ Hid (LI w wr d nn Z l n (ps + 4) lv k pp e) ∧ Hid (Apt lv [(br, 60, rdr (.slice (some ⟨b, off, none⟩) n c) (pp : Int) e)]) ∧ Hid (OwX br w wr [(br, 60, rdr (.slice (some ⟨b, off, none⟩) n c) (pp : Int) e)])) (fun lv _ => nn - lenV lv)
  case atStart => exact ⟨0, ps + 4, 0, Nat.zero_le _, HLI0, Lib.hid (Apt.nil _), H2⟩
  case round =>
    clear H2 HLI0; obtain ⟨k, pp, e, hk, HLI, HAP, HH⟩ := hrel; have H := HH.out; clear HH
    obtain ⟨xs, hrow, hpp, hcase⟩ := HLI.out; obtain ⟨pl, cl, hv, hpn⟩ := sliceI hrow; subst hv; have HROW := Lib.hid hrow; have HCASE := Lib.hid hcase; have HPN := Lib.hid hpn; clear hrow hcase hpn HLI
    by_cases hkn : k = nn
    · have C3 : decide ((k : Int) < (nn : Int)) = false := decide_eq_false (by omega)
      have HOUT : Hid (OutL RES ps pp e (fun ts => k = ts.length ∧ k ≤ 1000 ∧ LsV wr (d + 1) (fun b => w.heap.size ≤ b ∧ b < wr.heap.size) pl ts)) := Lib.hid (by
        rcases HCASE.out with ⟨rfl, ts, m, hts, hz, hm, hkids⟩ | ⟨he, hz⟩
        · rw [hkn, Nat.sub_self, rdl] at hz; rw [HRZ.out, hz]
          obtain ⟨pl2, cl2, e1, _, hls⟩ := hkids.lsv HROW.out hts
          cases e1
          refine ⟨rfl, by omega, ?_⟩
          rw [List.append_nil]
          exact ⟨hts.symm, by omega, hls⟩
        · rw [HRZ.out, hz]; exact ⟨rfl, he⟩)
      clear hkn
      go_upto_region 5 with fail
      refine Kr.seqStartW ?_
      (refine Kr.seqQ (v := ?_) (a' := ?_) (by rfl) ?_ ?_ ?_; rotate_left 2; (focus (go_simp; first | done | rfl)); (focus ((try simp only [Kr.PT]); first | done | rfl)))
      (refine Kr.seqQ (v := .int .i64 (k : Int)) (a' := ?_) (by rfl) ?_ ?_ ?_; rotate_left 1; (focus (exact Kr.valOf rfl ((by go_simp)))); (focus ((try simp only [Kr.PT]); first | done | rfl)))
      (refine Kr.seqQ (v := ?_) (a' := ?_) (by rfl) ?_ ?_ ?_; rotate_left 2; (focus (go_simp; first | done | rfl)); (focus ((try simp only [Kr.PT]); first | done | rfl)))
      (refine Kr.seqQ (v := .bool false) (a' := ?_) (by rfl) ?_ ?_ ?_; rotate_left 1; (focus (exact Kr.valOf rfl (lssT C3))); (focus ((try simp only [Kr.PT]); first | done | rfl)))
      (refine Kr.seqQ (v := ?_) (a' := ?_) (by rfl) ?_ ?_ ?_; rotate_left 2; (focus (go_simp; first | done | rfl)); (focus ((try simp only [Kr.PT]); first | done | rfl)))
      (refine Kr.seqSkipQ (a' := ?_) (by rfl) ?_ ?_; rotate_left; (focus ((try simp only [Kr.PT]); first | done | rfl)))
      (refine Kr.seqSkipQ (a' := ?_) (by rfl) ?_ ?_; rotate_left; (focus ((try simp only [Kr.PT]); first | done | rfl)))
      (refine Kr.seqSkipQ (a' := ?_) (by rfl) ?_ ?_; rotate_left; (focus ((try simp only [Kr.PT]); first | done | rfl)))
      (refine Kr.seqSkipQ (a' := ?_) (by rfl) ?_ ?_; rotate_left; (focus ((try simp only [Kr.PT]); first | done | rfl)))
      (refine Kr.seqSkipQ (a' := ?_) (by rfl) ?_ ?_; rotate_left; (focus ((try simp only [Kr.PT]); first | done | rfl)))
      (refine Kr.seqQ (v := ?_) (a' := ?_) (by rfl) ?_ ?_ ?_; rotate_left 2; (focus (go_simp; first | done | rfl)); (focus ((try simp only [Kr.PT]); first | done | rfl)))
      refine Kr.seqDoneW ?_
      go_upto_region 7 with fail
      refine Kr.seqStartW ?_
      (refine Kr.seqQ (v := ?_) (a' := ?_) (by rfl) ?_ ?_ ?_; rotate_left 2; (focus (go_simp; first | done | rfl)); (focus ((try simp only [Kr.PT]); first | done | rfl)))
      (refine Kr.seqQ (v := ?_) (a' := ?_) (by rfl) ?_ ?_ ?_; rotate_left 2; (focus (go_simp; first | done | rfl)); (focus ((try simp only [Kr.PT]); first | done | rfl)))
      refine Kr.seqDoneW ?_
      have hk := trivial
      go_wp2
      refine bodyPost_ret (v := .slice pl k cl) (by simp [results, Tryd.results50, go_sem, hk]) rfl ⟨pl, k, cl, pp, e, rfl, HPN.out, H.at 0 rfl, H.g, hpp, (by rw [HL.out, HRES.out]; exact HOUT.out)⟩
    have hkl : k < nn := by omega
    have C3 : decide ((k : Int) < (nn : Int)) = true := decide_eq_true (by omega)
    clear hkn
    by_cases he0 : e = 0
    · have C4 : decide ((0 : Int) = 0) = true := decide_eq_true (by rfl)
      subst he0; have hcs : ∃ ts m, ts.length = k ∧ Z = pref ts m (rdl (rd d) (nn - k) (l.drop pp)) ∧ pp = ps + 4 + m ∧ Kids w wr (d + 1) (.slice pl k cl) xs ts := by
        rcases HCASE.out with ⟨_, h⟩ | ⟨he, _⟩
        · exact h
        · exact absurd rfl he
      obtain ⟨ts, m, hts, hz, hm, hkids⟩ := hcs
      have HKID := Lib.hid hkids; have HZ := Lib.hid hz; clear hkids hz HCASE
      have hxl : xs.length = k * 4 := HROW.out.1
      go_upto_region 5 with fail
      refine Kr.seqStartW ?_
      (refine Kr.seqQ (v := ?_) (a' := ?_) (by rfl) ?_ ?_ ?_; rotate_left 2; (focus (go_simp; first | done | rfl)); (focus ((try simp only [Kr.PT]); first | done | rfl)))
      (refine Kr.seqQ (v := .int .i64 (k : Int)) (a' := ?_) (by rfl) ?_ ?_ ?_; rotate_left 1; (focus (exact Kr.valOf rfl ((by go_simp)))); (focus ((try simp only [Kr.PT]); first | done | rfl)))
      (refine Kr.seqQ (v := ?_) (a' := ?_) (by rfl) ?_ ?_ ?_; rotate_left 2; (focus (go_simp; first | done | rfl)); (focus ((try simp only [Kr.PT]); first | done | rfl)))
      (refine Kr.seqQ (v := .bool true) (a' := ?_) (by rfl) ?_ ?_ ?_; rotate_left 1; (focus (exact Kr.valOf rfl (lssT C3))); (focus ((try simp only [Kr.PT]); first | done | rfl)))
      (refine Kr.seqQ (v := ?_) (a' := ?_) (by rfl) ?_ ?_ ?_; rotate_left 2; (focus (go_simp; first | done | rfl)); (focus ((try simp only [Kr.PT]); first | done | rfl)))
      (refine Kr.seqQ (v := ?_) (a' := ?_) (by rfl) ?_ ?_ ?_; rotate_left 2; (focus (go_simp; first | done | rfl)); (focus ((try simp only [Kr.PT]); first | done | rfl)))
      (refine Kr.seqQ (v := ?_) (a' := ?_) (by rfl) ?_ ?_ ?_; rotate_left 2; (focus (go_simp; first | done | rfl)); (focus ((try simp only [Kr.PT]); first | done | rfl)))
      (refine Kr.seqQ (v := .pointer (some ⟨br, 2, none⟩)) (a' := ?_) (by rfl) ?_ ?_ ?_; rotate_left 1; (focus (go_simp; first | done | rfl)); (focus ((try simp only [Kr.PT]); first | done | rfl)))
      (refine Kr.seqQ (v := .int .i64 0) (a' := ?_) (by rfl) ?_ ?_ ?_; rotate_left 1; (focus (exact Kr.valOf rfl (ldErr (rowCell (j := 2) (H.at 0 rfl) rfl)))); (focus ((try simp only [Kr.PT]); first | done | rfl)))
      (refine Kr.seqQ (v := .bool true) (a' := ?_) (by rfl) ?_ ?_ ?_; rotate_left 1; (focus (exact Kr.valOf rfl (eqlI C4))); (focus ((try simp only [Kr.PT]); first | done | rfl)))
      (refine Kr.seqQ (v := ?_) (a' := ?_) (by rfl) ?_ ?_ ?_; rotate_left 2; (focus (go_simp; first | done | rfl)); (focus ((try simp only [Kr.PT]); first | done | rfl)))
      refine Kr.seqDoneW ?_
      have HR1 := Lib.hid (H.at 0 rfl); have HBRW : Hid (br < w.heap.size) := Lib.hid (lt_of_heap hr)
      go_upto_region 6 with fail
      refine Kr.seqStartW ?_
      (refine Kr.seqQ (v := ?_) (a' := ?_) (by rfl) ?_ ?_ ?_; rotate_left 2; (focus (go_simp; first | done | rfl)); (focus ((try simp only [Kr.PT]); first | done | rfl)))
      (refine Kr.seqQ (v := ?_) (a' := ?_) (by rfl) ?_ ?_ ?_; rotate_left 2; (focus (go_simp; first | done | rfl)); (focus ((try simp only [Kr.PT]); first | done | rfl)))
      (refine Kr.seqQ (v := ?_) (a' := ?_) (by rfl) ?_ ?_ ?_; rotate_left 2; (focus (go_simp; first | done | rfl)); (focus ((try simp only [Kr.PT]); first | done | rfl)))
      refine Kr.seqR (by rfl) (fun K hK => ?_)
      go_simp
      go_at_call 40
      have HG1 := Lib.hid H.g
      refine (ih (H.at 0 rfl) (HS.out.growX HO.out H.g) HO.out hl hn hc hpp).mono ?_
      rintro o9 y5 ⟨v0, v1, v2, v3, ps2, e2, rfl, hone, hh, hg, hp2, hout⟩
      replace H := H.call 0 rfl hg hh; dsimp only [List.set] at H
      have HG12 := Lib.hid hg; have HONE := Lib.hid hone; have HOUT := Lib.hid hout; clear hone hout
      clear hh hg
      (refine Kr.outS hK (a' := ?_) ?_ ?_; rotate_left; (focus ((try simp only [Kr.PT]); first | done | rfl))); clear hK K
      refine Kr.seqR (by rfl) (fun K hK => ?_)
      go_simp
      obtain ⟨y6, hy⟩ : ∃ y, y5.alloc (.cells #[v0, v1, v2, v3] 25) = y := ⟨_, rfl⟩
      obtain ⟨bone, hbn⟩ : ∃ b, y5.heap.size = b := ⟨_, rfl⟩
      rw [hy, hbn]
      have hy2 : y5.alloc (.cells ([v0, v1, v2, v3] : List Value).toArray 25) = y6 := hy
      have hg : Gr y5 y6 := hy ▸ (Gr.refl _).alloc _
      have HLIT := Lib.hid (hbn ▸ hy2 ▸ lit_src (W := y5) (T := 25) [v0, v1, v2, v3]); have HG23 := Lib.hid hg; clear hy2
      replace H := H.grow hg
      clear hg hy hbn
      (refine Kr.outS hK (a' := ?_) ?_ ?_; rotate_left; (focus ((try simp only [Kr.PT]); first | done | rfl))); clear hK K
      refine Kr.seqR (by rfl) (fun K hK => ?_)
      have hvb : ∀ b, (Value.slice pl k cl).ownBlock = some b → w.heap.size ≤ b ∧ b < wr.heap.size ∧ b ≠ br := fun b hb => by
        have h1 := World.ownsRow.lt HROW.out b hb
        refine ⟨h1.1, h1.2, fun e => ?_⟩
        exact HAP.out b hb _ (List.mem_cons_self ..) e.symm
      have hsz12 := HG12.out.size; have hsz23 := HG23.out.size; have hbr : br < wr.heap.size := lt_of_heap (HR1.out)
      have hrow3 : y6.ownsRow w.heap.size 25 4 (.slice pl k cl) k xs := rowI_grow HROW.out (fun b hb => by
        have h1 := hvb b hb
        rw [HG23.out.block b (by omega), HG12.out.block b h1.2.1 h1.2.2])
      refine wp_appI (.tmp 24) (.tmp 28) rfl (v := .slice pl k cl) (k := k) (bone := bone) (xs := xs) (v0 := v0) (v1 := v1) (v2 := v2) (v3 := v3) (rs := [(br, 60, rdr (.slice (some ⟨b, off, none⟩) n c) (ps2 : Int) e2)]) rfl rfl HLIT.out HONE.out H hrow3 (fun b hb x hx e => by
        have h1 := hvb b hb
        rcases List.mem_cons.1 hx with rfl | hx
        · exact h1.2.2 e.symm
        · cases hx) (by omega) ?_
      intro q8 y7 H4 hrow4 hap4 hg34 hub
      clear H; have H := H4; clear H4
      have HLI2 : Hid (LI w y7 d nn Z l n (ps + 4) q8 (k + 1) ps2 e2) := Lib.hid (by
        refine ⟨_, hrow4, hp2, ?_⟩
        have ho := HOUT.out
        cases hr : rd d (l.drop pp) with
        | error c9 =>
          rw [hr] at ho
          obtain ⟨rfl, hc9⟩ := ho
          refine .inr ⟨hc9, ?_⟩
          rw [HZ.out, show nn - k = (nn - (k + 1)) + 1 by omega, rdl_err hr]; rfl
        | ok r =>
          obtain ⟨x, m2⟩ := r
          rw [hr] at ho
          obtain ⟨rfl, hps2, hxv⟩ := ho
          refine .inl ⟨rfl, ts ++ [x], m + m2, by rw [List.length_append, hts]; rfl, ?_, by omega, ?_⟩
          · rw [HZ.out, show nn - k = (nn - (k + 1)) + 1 by omega, rdl_ok hr, pref_pref, List.drop_drop, hps2]
          · refine HKID.out.snoc (W2 := y5) hts hxl HG1.out.size (fun b hb => (hvb b hb).2.1) (fun b h1 h2 => HG12.out.block b h2 (by have := HBRW.out; omega)) hsz12 hxv (fun b h1 h2 => ?_) (Nat.le_trans hsz23 hg34.size) ?_
            · rw [hg34.block b (by omega) (fun e => h2 e.symm), HG23.out.block b h1]
            · rcases hub with hub | hub
              · exact .inl hub
              · exact .inr ⟨_, hub, hsz23⟩)
      have HAP2 := Lib.hid hap4; have HLV := Lib.hid (sliceI hrow4); clear hrow3 hrow4 hap4 hg34 hub HLIT
      (refine Kr.outS hK (a' := ?_) ?_ ?_; rotate_left; (focus ((try simp only [Kr.PT]); first | done | rfl))); clear hK K
      (refine Kr.seqQ (v := ?_) (a' := ?_) (by rfl) ?_ ?_ ?_; rotate_left 2; (focus (go_simp; first | done | rfl)); (focus ((try simp only [Kr.PT]); first | done | rfl)))
      refine Kr.seqDoneW ?_
      go_wp2; go_roundw
      case rel =>
        first
        | exact ⟨k + 1, ps2, e2, by omega, HLI2, HAP2, Lib.hid H⟩
        | (repeat apply Exists.intro); exact ⟨⟨k + 1, ps2, e2, by omega, HLI2, HAP2, Lib.hid H⟩, rfl⟩
        | (repeat apply Exists.intro); refine ⟨⟨k + 1, ps2, e2, by omega, HLI2, HAP2, Lib.hid H⟩, ?_⟩; refine ⟨?_, ?_⟩ <;> (repeat apply And.intro) <;> rfl
      case measure => obtain ⟨p9, c9, e9, _⟩ := HLV.out; rw [e9]; show nn - (k + 1) < nn - k; omega
    · have C4 : decide (e = 0) = false := decide_eq_false (by exact he0)
      have HOUT : Hid (OutL RES ps pp e (fun ts => k = ts.length ∧ k ≤ 1000 ∧ LsV wr (d + 1) (fun b => w.heap.size ≤ b ∧ b < wr.heap.size) pl ts)) := Lib.hid (by
        rcases HCASE.out with ⟨rfl, ts, m, hts, hz, hm, hkids⟩ | ⟨he, hz⟩
        · exact absurd rfl he0
        · rw [HRZ.out, hz]; exact ⟨rfl, he⟩)
      go_upto_region 5 with fail
      refine Kr.seqStartW ?_
      (refine Kr.seqQ (v := ?_) (a' := ?_) (by rfl) ?_ ?_ ?_; rotate_left 2; (focus (go_simp; first | done | rfl)); (focus ((try simp only [Kr.PT]); first | done | rfl)))
      (refine Kr.seqQ (v := .int .i64 (k : Int)) (a' := ?_) (by rfl) ?_ ?_ ?_; rotate_left 1; (focus (exact Kr.valOf rfl ((by go_simp)))); (focus ((try simp only [Kr.PT]); first | done | rfl)))
      (refine Kr.seqQ (v := ?_) (a' := ?_) (by rfl) ?_ ?_ ?_; rotate_left 2; (focus (go_simp; first | done | rfl)); (focus ((try simp only [Kr.PT]); first | done | rfl)))
      (refine Kr.seqQ (v := .bool true) (a' := ?_) (by rfl) ?_ ?_ ?_; rotate_left 1; (focus (exact Kr.valOf rfl (lssT C3))); (focus ((try simp only [Kr.PT]); first | done | rfl)))
      (refine Kr.seqQ (v := ?_) (a' := ?_) (by rfl) ?_ ?_ ?_; rotate_left 2; (focus (go_simp; first | done | rfl)); (focus ((try simp only [Kr.PT]); first | done | rfl)))
      (refine Kr.seqQ (v := ?_) (a' := ?_) (by rfl) ?_ ?_ ?_; rotate_left 2; (focus (go_simp; first | done | rfl)); (focus ((try simp only [Kr.PT]); first | done | rfl)))
      (refine Kr.seqQ (v := ?_) (a' := ?_) (by rfl) ?_ ?_ ?_; rotate_left 2; (focus (go_simp; first | done | rfl)); (focus ((try simp only [Kr.PT]); first | done | rfl)))
      (refine Kr.seqQ (v := .pointer (some ⟨br, 2, none⟩)) (a' := ?_) (by rfl) ?_ ?_ ?_; rotate_left 1; (focus (go_simp; first | done | rfl)); (focus ((try simp only [Kr.PT]); first | done | rfl)))
      (refine Kr.seqQ (v := .int .i64 e) (a' := ?_) (by rfl) ?_ ?_ ?_; rotate_left 1; (focus (exact Kr.valOf rfl (ldErr (rowCell (j := 2) (H.at 0 rfl) rfl)))); (focus ((try simp only [Kr.PT]); first | done | rfl)))
      (refine Kr.seqQ (v := .bool false) (a' := ?_) (by rfl) ?_ ?_ ?_; rotate_left 1; (focus (exact Kr.valOf rfl (eqlI C4))); (focus ((try simp only [Kr.PT]); first | done | rfl)))
      (refine Kr.seqQ (v := ?_) (a' := ?_) (by rfl) ?_ ?_ ?_; rotate_left 2; (focus (go_simp; first | done | rfl)); (focus ((try simp only [Kr.PT]); first | done | rfl)))
      refine Kr.seqDoneW ?_
      go_upto_region 7 with fail
      refine Kr.seqStartW ?_
      (refine Kr.seqQ (v := ?_) (a' := ?_) (by rfl) ?_ ?_ ?_; rotate_left 2; (focus (go_simp; first | done | rfl)); (focus ((try simp only [Kr.PT]); first | done | rfl)))
      (refine Kr.seqQ (v := ?_) (a' := ?_) (by rfl) ?_ ?_ ?_; rotate_left 2; (focus (go_simp; first | done | rfl)); (focus ((try simp only [Kr.PT]); first | done | rfl)))
      refine Kr.seqDoneW ?_
      have hk := trivial
      go_wp2
      refine bodyPost_ret (v := .slice pl k cl) (by simp [results, Tryd.results50, go_sem, hk]) rfl ⟨pl, k, cl, pp, e, rfl, HPN.out, H.at 0 rfl, H.g, hpp, (by rw [HL.out, HRES.out]; exact HOUT.out)⟩
end Go.Proofs.YtcngcdfngifjnaaDoor.Dg


/- The reader: item (what it says). -/
namespace Go.Proofs.YtcngcdfngifjnaaDoor.Dg
open Go Go.RowKit Go.Proofs.YtcngcdfngifjnaaDoor.Ne Go.Proofs.YtcngcdfngifjnaaDoor.Kr

theorem OutL.imp {r : Except Int (List It × Nat)} {a b : Nat} {e : Int} {P Q : List It → Prop} (h : OutL r a b e P) (f : ∀ t, P t → Q t) : OutL r a b e Q := by
  cases r with
  | error c => exact h
  | ok x => exact ⟨h.1, h.2.1, f _ h.2.2⟩
theorem out_sh1 {r : Except Int (List It × Nat)} {ps ps2 : Nat} {e : Int} {P : List It → Prop} {Q : It → Prop} (h : OutL r (ps + 1) ps2 e P) (f : ∀ t, P t → Q (.mk 3 0 [] t)) : Out (sh1 r) ps ps2 e Q := by
  cases r with
  | error c => exact h
  | ok x =>
    obtain ⟨h1, h2, h3⟩ := h
    exact ⟨h1, by rw [h2]; show ps + 1 + x.2 = ps + (1 + x.2); omega, f _ h3⟩
theorem rd_nil : ∀ d, rd d [] = .error 4
  | 0 => rfl
  | _ + 1 => rfl
theorem rd_1 (b : List (BitVec 8)) : ∀ d, rd d (1#8 :: b) = rdN b
  | 0 => rfl
  | _ + 1 => rfl
theorem rd_2 (b : List (BitVec 8)) : ∀ d, rd d (2#8 :: b) = rdS b
  | 0 => rfl
  | _ + 1 => rfl
theorem rd_3 (b : List (BitVec 8)) (d : Nat) : rd (d + 1) (3#8 :: b) = sh1 (rdB (rd d) b) := rfl
theorem rd_30 (b : List (BitVec 8)) : rd 0 (3#8 :: b) = .error 3 := rfl
theorem rd_x {k : BitVec 8} (b : List (BitVec 8)) (h1 : k ≠ 1#8) (h2 : k ≠ 2#8) (h3 : k ≠ 3#8) : ∀ d, rd d (k :: b) = .error 3
  | 0 => by rw [rd, if_neg h1, if_neg h2]
  | _ + 1 => by rw [rd, if_neg h1, if_neg h2, if_neg h3]
theorem nb1 (x : BitVec 8) : (nb [x]).toInt = (x.toNat : Int) := by
  have h := nb_step 0#64 x (by decide)
  have hx := x.isLt
  have e : (nb [x]).toNat = x.toNat := by
    show ((0#64 <<< 8) ||| x.setWidth 64).toNat = _
    rw [h]; simp
  rw [BitVec.toInt_eq_toNat_cond, e, if_pos (by omega)]
theorem inr_nb (q : List (BitVec 8)) : InR (nb q).toInt := ⟨by have := BitVec.le_toInt (nb q); omega, by have := BitVec.toInt_lt (x := nb q); omega⟩
theorem size_set {W : World} {a : Addr} {u : Value} : (W.setCell a u).heap.size = W.heap.size := by simp [World.setCell]
theorem size_put {W : World} {b : Nat} {cs : Array Value} : (W.setRow b cs).heap.size = W.heap.size := by simp [World.setRow]
theorem one4 {k n : Int} {p q : Option Addr} {a b c d : Nat} : ∀ u ∈ ([.int .i64 k, .int .i64 n, .slice p a b, .slice q c d] : List Value), u.oneCell' = true := by
  intro v hv
  simp only [List.mem_cons, List.not_mem_nil, or_false] at hv
  rcases hv with rfl | rfl | rfl | rfl <;> rfl
theorem itv_int {W : World} {d : Nat} {F : Nat → Prop} {n : Int} (h : InR n) : ItV W (d + 1) F (.agg #[.int .i64 1, .int .i64 n, .slice none 0 0, .slice none 0 0]) (.mk 1 n [] []) :=
  ⟨none, 0, none, 0, rfl, ⟨by show (-9223372036854775808 : Int) ≤ 1; decide, by show (1 : Int) < 9223372036854775808; decide⟩, h, fun _ => rfl, Nat.le_refl _, Nat.zero_le _, Nat.zero_le _, .inl rfl, fun j x hx => by simp [It.l] at hx⟩
theorem itv_str {W : World} {d k c : Nat} {F : Nat → Prop} {p : Option Addr} {l : List (BitVec 8)} (hl : l.length = k) (hp : p = none → c = 0) (hc : k ≤ c) (hk : k ≤ 1000000) (hs : l = [] ∨ ∃ b off, p = some ⟨b, off, none⟩ ∧ F b ∧ BytesAt b off l W) : ItV W (d + 1) F (.agg #[.int .i64 2, .int .i64 0, .slice p k c, .slice none 0 0]) (.mk 2 0 l []) := by
  subst hl
  exact ⟨p, c, none, 0, rfl, ⟨by show (-9223372036854775808 : Int) ≤ 2; decide, by show (2 : Int) < 9223372036854775808; decide⟩, ⟨by show (-9223372036854775808 : Int) ≤ 0; decide, by show (0 : Int) < 9223372036854775808; decide⟩, hp, hc, by show l.length ≤ _; omega, Nat.zero_le _, hs, fun j x hx => by simp [It.l] at hx⟩
theorem itv_lst {W : World} {d nl c : Nat} {F : Nat → Prop} {p : Option Addr} {ts : List It} (hl : nl = ts.length) (hk : nl ≤ 1000) (h : LsV W d F p ts) : ItV W (d + 1) F (.agg #[.int .i64 3, .int .i64 0, .slice none 0 0, .slice p nl c]) (.mk 3 0 [] ts) := by
  subst hl
  exact ⟨none, 0, p, c, rfl, ⟨by show (-9223372036854775808 : Int) ≤ 3; decide, by show (3 : Int) < 9223372036854775808; decide⟩, ⟨by show (-9223372036854775808 : Int) ≤ 0; decide, by show (0 : Int) < 9223372036854775808; decide⟩, fun _ => rfl, Nat.le_refl _, Nat.zero_le _, by show ts.length ≤ _; omega, .inl rfl, h⟩
theorem row_bytes {B : Nat} {W : World} {p : Option Addr} {k c : Nat} {l : List (BitVec 8)} (h : RowG 5 B (.slice p k c) (l.map w8) W) (hl : l.length = k) : l = [] ∨ ∃ b off, p = some ⟨b, off, none⟩ ∧ (B ≤ b ∧ b < W.heap.size) ∧ BytesAt b off l W := by
  obtain ⟨p2, c2, e, _, _, hs⟩ := h.src
  rw [List.length_map, hl] at e
  cases e
  rcases srcB_of hs with h0 | ⟨b, off, e, h0⟩
  · exact .inl h0
  · refine .inr ⟨b, off, e, ?_, h0⟩
    exact h.lt b (by rw [e]; rfl)
structure OutK (r : Except Int (List It × Nat)) (a b : Nat) (e : Int) (nl d : Nat) (FF : Nat → Prop) (pl : Option Addr) (W : World) : Prop where
  h : OutL r a b e (fun ts => nl = ts.length ∧ nl ≤ 1000 ∧ LsV W d FF pl ts)
theorem OutK.kept {r : Except Int (List It × Nat)} {a b : Nat} {e : Int} {nl d : Nat} {FF : Nat → Prop} {pl : Option Addr} {W W' : World} (k : OutK r a b e nl d FF pl W) (g : ∀ b, FF b → W'.heap[b]? = W.heap[b]?) : OutK r a b e nl d FF pl W' := ⟨k.h.imp (fun _ ⟨h1, h2, h3⟩ => ⟨h1, h2, h3.kept g⟩)⟩

end Go.Proofs.YtcngcdfngifjnaaDoor.Dg


/- The reader: item (nil). -/
namespace Go.Proofs.YtcngcdfngifjnaaDoor.Dg
open Go Go.RowKit Go.Proofs.YtcngcdfngifjnaaDoor.Ne Go.Proofs.YtcngcdfngifjnaaDoor.Kr

set_option linter.unusedSimpArgs false in
set_option maxRecDepth 100000 in
set_option maxHeartbeats 16000000 in
theorem item_nil {d : Nat} {w : World} {br b off n c ps : Nat} {l  : List (BitVec 8)}  (hr : w.heap[br]? = some (.cells (rdr (.slice (some ⟨b, off, none⟩) n c) (ps : Int) 0).toArray 60 (0, 0))) (hS : SrcB (some ⟨b, off, none⟩) l w) (hO : Off br (some ⟨b, off, none⟩)) (hl : l.length = n) (hn : n ≤ 20000) (hc : n ≤ c) (hp : ps ≤ n) (hL0 : l.drop ps = []) :
    Calls Tryd.prog 40 #[.pointer (some ⟨br, 0, none⟩), .int .i64 (d : Int)] w fun o w' => ItemP w br b off n c ps d l o w' := by
  have hu_ := hS; clear hu_
  have hu_ := hO; clear hu_
  have hu_ := hl; clear hu_
  have hu_ := hn; clear hu_
  have hu_ := hc; clear hu_
  have hu_ := hp; clear hu_
  have HS := Lib.hid hS; have HO := Lib.hid hO; clear hS hO; have hbrw := lt_of_heap hr; have hLl : (l.drop ps).length = n - ps := by rw [List.length_drop, hl]
  obtain ⟨RES, hRS⟩ : ∃ z, rd d (l.drop ps) = z := ⟨_, rfl⟩; have HRES := Lib.hid hRS; clear hRS
  rw [hL0, List.length_nil] at hLl; have HLC := Lib.hid hL0; have hnp : n ≤ ps := by omega
  clear hL0 hLl
  have hre : RES = .error 4 := by rw [← HRES.out, HLC.out]; exact rd_nil d
  have H := OwX.start hr
  go_enter Tryd.func40, Tryd.ntmps40
  go_upto_region 0 with fail
  refine Kr.seqStartW ?_
  refine Kr.seqR (by rfl) (fun K hK => ?_)
  refine wp_runV rfl newI ?_
  obtain ⟨y1, hy⟩ : ∃ y, w.alloc (.cells ([.int .i64 0, .int .i64 0, .slice none 0 0, .slice none 0 0]).toArray 25) = y := ⟨_, rfl⟩
  obtain ⟨bz, hb⟩ : ∃ b, w.heap.size = b := ⟨_, rfl⟩
  rw [hy, hb]
  have hg : Gr w y1 := hy ▸ (Gr.refl _).alloc _
  replace H := H.alloc hy hb
  clear hy hb hg
  (refine Kr.outS hK (a' := ?_) ?_ ?_; rotate_left; (focus ((try simp only [Kr.PT]); first | done | rfl))); clear hK K
  refine Kr.seqDoneW ?_
  go_upto_region 1 with fail
  refine Kr.seqStartW ?_
  (refine Kr.seqQ (v := ?_) (a' := ?_) (by rfl) ?_ ?_ ?_; rotate_left 2; (focus (go_simp; first | done | rfl)); (focus ((try simp only [Kr.PT]); first | done | rfl)))
  refine Kr.seqR (by rfl) (fun K hK => ?_)
  go_simp
  go_at_call 48
  refine (number_end (m := 1) (H.at 1 rfl) (by omega) (hp) (by omega)).mono ?_
  rintro o9 y2 ⟨rfl, hh, hg⟩
  replace H := H.call 1 rfl hg hh; dsimp only [List.set] at H
  clear hh hg
  (refine Kr.outS hK (a' := ?_) ?_ ?_; rotate_left; (focus ((try simp only [Kr.PT]); first | done | rfl))); clear hK K
  (refine Kr.seqQ (v := .agg #[.int .i64 0, .int .i64 0, .slice none 0 0, .slice none 0 0]) (a' := ?_) (by rfl) ?_ ?_ ?_; rotate_left 1; (focus (go_simp; first | done | rfl)); (focus ((try simp only [Kr.PT]); first | done | rfl)))
  refine Kr.seqR (by rfl) (fun K hK => ?_)
  refine wp_runV rfl newI ?_
  obtain ⟨y3, hy⟩ : ∃ y, y2.alloc (.cells ([.int .i64 0, .int .i64 0, .slice none 0 0, .slice none 0 0]).toArray 25) = y := ⟨_, rfl⟩
  obtain ⟨bi, hb⟩ : ∃ b, y2.heap.size = b := ⟨_, rfl⟩
  rw [hy, hb]
  have hg : Gr y2 y3 := hy ▸ (Gr.refl _).alloc _
  replace H := H.alloc hy hb
  clear hy hb hg
  (refine Kr.outS hK (a' := ?_) ?_ ?_; rotate_left; (focus ((try simp only [Kr.PT]); first | done | rfl))); clear hK K
  refine Kr.seqR (by rfl) (fun K hK => ?_)
  refine wp_run rfl (stI (H.at 0 rfl) one4) ?_
  obtain ⟨y4, hy⟩ : ∃ y, y3.setRow bi ([.int .i64 0, .int .i64 0, .slice none 0 0, .slice none 0 0]).toArray = y := ⟨_, rfl⟩
  rw [hy]
  replace H := H.put 0 hy rfl
  dsimp only [List.set] at H
  clear hy
  (refine Kr.outS hK (a' := ?_) ?_ ?_; rotate_left; (focus ((try simp only [Kr.PT]); first | done | rfl))); clear hK K
  refine Kr.seqDoneW ?_
  have K1 : decide (0 = (1 : Int)) = false := decide_eq_false (by decide)
  go_upto_region 3 with fail
  refine Kr.seqStartW ?_
  (refine Kr.seqQ (v := .pointer (some ⟨bi, 0, none⟩)) (a' := ?_) (by rfl) ?_ ?_ ?_; rotate_left 1; (focus (go_simp; first | done | rfl)); (focus ((try simp only [Kr.PT]); first | done | rfl)))
  (refine Kr.seqQ (v := .int .i64 0) (a' := ?_) (by rfl) ?_ ?_ ?_; rotate_left 1; (focus (exact Kr.valOf rfl (ldInt (rowCell (j := 0) (H.at 0 rfl) rfl)))); (focus ((try simp only [Kr.PT]); first | done | rfl)))
  (refine Kr.seqQ (v := .bool false) (a' := ?_) (by rfl) ?_ ?_ ?_; rotate_left 1; (focus (exact Kr.valOf rfl (eqlI K1))); (focus ((try simp only [Kr.PT]); first | done | rfl)))
  (refine Kr.seqQ (v := ?_) (a' := ?_) (by rfl) ?_ ?_ ?_; rotate_left 2; (focus (go_simp; first | done | rfl)); (focus ((try simp only [Kr.PT]); first | done | rfl)))
  refine Kr.seqDoneW ?_
  have K2 : decide (0 = (2 : Int)) = false := decide_eq_false (by decide)
  go_upto_region 5 with fail
  refine Kr.seqStartW ?_
  (refine Kr.seqQ (v := .pointer (some ⟨bi, 0, none⟩)) (a' := ?_) (by rfl) ?_ ?_ ?_; rotate_left 1; (focus (go_simp; first | done | rfl)); (focus ((try simp only [Kr.PT]); first | done | rfl)))
  (refine Kr.seqQ (v := .int .i64 0) (a' := ?_) (by rfl) ?_ ?_ ?_; rotate_left 1; (focus (exact Kr.valOf rfl (ldInt (rowCell (j := 0) (H.at 0 rfl) rfl)))); (focus ((try simp only [Kr.PT]); first | done | rfl)))
  (refine Kr.seqQ (v := .bool false) (a' := ?_) (by rfl) ?_ ?_ ?_; rotate_left 1; (focus (exact Kr.valOf rfl (eqlI K2))); (focus ((try simp only [Kr.PT]); first | done | rfl)))
  (refine Kr.seqQ (v := ?_) (a' := ?_) (by rfl) ?_ ?_ ?_; rotate_left 2; (focus (go_simp; first | done | rfl)); (focus ((try simp only [Kr.PT]); first | done | rfl)))
  refine Kr.seqDoneW ?_
  have K3 : decide (0 = (3 : Int)) = false := decide_eq_false (by decide)
  go_upto_region 8 with fail
  refine Kr.seqStartW ?_
  (refine Kr.seqQ (v := .pointer (some ⟨bi, 0, none⟩)) (a' := ?_) (by rfl) ?_ ?_ ?_; rotate_left 1; (focus (go_simp; first | done | rfl)); (focus ((try simp only [Kr.PT]); first | done | rfl)))
  (refine Kr.seqQ (v := .int .i64 0) (a' := ?_) (by rfl) ?_ ?_ ?_; rotate_left 1; (focus (exact Kr.valOf rfl (ldInt (rowCell (j := 0) (H.at 0 rfl) rfl)))); (focus ((try simp only [Kr.PT]); first | done | rfl)))
  (refine Kr.seqQ (v := .bool false) (a' := ?_) (by rfl) ?_ ?_ ?_; rotate_left 1; (focus (exact Kr.valOf rfl (eqlI K3))); (focus ((try simp only [Kr.PT]); first | done | rfl)))
  (refine Kr.seqQ (v := ?_) (a' := ?_) (by rfl) ?_ ?_ ?_; rotate_left 2; (focus (go_simp; first | done | rfl)); (focus ((try simp only [Kr.PT]); first | done | rfl)))
  (refine Kr.seqSkipQ (a' := ?_) (by rfl) ?_ ?_; rotate_left; (focus ((try simp only [Kr.PT]); first | done | rfl)))
  (refine Kr.seqSkipQ (a' := ?_) (by rfl) ?_ ?_; rotate_left; (focus ((try simp only [Kr.PT]); first | done | rfl)))
  (refine Kr.seqQ (v := ?_) (a' := ?_) (by rfl) ?_ ?_ ?_; rotate_left 2; (focus (go_simp; first | done | rfl)); (focus ((try simp only [Kr.PT]); first | done | rfl)))
  (refine Kr.seqQ (v := ?_) (a' := ?_) (by rfl) ?_ ?_ ?_; rotate_left 2; (focus (go_simp; first | done | rfl)); (focus ((try simp only [Kr.PT]); first | done | rfl)))
  refine Kr.seqDoneW ?_
  go_upto_region 2 with fail
  refine Kr.seqStartW ?_
  (refine Kr.seqQ (v := ?_) (a' := ?_) (by rfl) ?_ ?_ ?_; rotate_left 2; (focus (go_simp; first | done | rfl)); (focus ((try simp only [Kr.PT]); first | done | rfl)))
  refine Kr.seqR (by rfl) (fun K hK => ?_)
  go_simp
  go_at_call 41
  refine (fail_not (v := .slice (some ⟨b, off, none⟩) n c) (pos := (ps : Int)) (e := 4) (code := 3) (H.at 2 rfl) (by decide)).mono ?_
  rintro o9 y5 ⟨rfl, hh, hg⟩
  replace H := H.call 2 rfl hg hh; dsimp only [List.set] at H; clear hh hg
  (refine Kr.outS hK (a' := ?_) ?_ ?_; rotate_left; (focus ((try simp only [Kr.PT]); first | done | rfl))); clear hK K
  refine Kr.seqDoneW ?_
  go_upto_region 10 with fail
  refine Kr.seqStartW ?_
  (refine Kr.seqQ (v := .agg #[.int .i64 0, .int .i64 0, .slice none 0 0, .slice none 0 0]) (a' := ?_) (by rfl) ?_ ?_ ?_; rotate_left 1; (focus (exact Kr.valOf rfl (ldI (H.at 0 rfl)))); (focus ((try simp only [Kr.PT]); first | done | rfl)))
  refine Kr.seqR (by rfl) (fun K hK => ?_)
  refine wp_run rfl (stI (H.at 1 rfl) one4) ?_
  obtain ⟨y6, hy⟩ : ∃ y, y5.setRow bz ([.int .i64 0, .int .i64 0, .slice none 0 0, .slice none 0 0]).toArray = y := ⟨_, rfl⟩
  rw [hy]
  replace H := H.put 1 hy rfl
  dsimp only [List.set] at H
  clear hy
  (refine Kr.outS hK (a' := ?_) ?_ ?_; rotate_left; (focus ((try simp only [Kr.PT]); first | done | rfl))); clear hK K
  refine Kr.seqDoneW ?_
  go_wp2
  refine bodyPost_ret (v := .agg #[.int .i64 0, .int .i64 0, .slice none 0 0, .slice none 0 0]) (results_cell_row rfl _ _ bz 25 _ _ _ (by rfl) (H.at 1 rfl) Tryd.underlying25 rfl (show _ = some 4 from infoI)) rfl ⟨.int .i64 0, .int .i64 0, .slice none 0 0, .slice none 0 0, ps, 4, rfl, one4, H.at 2 rfl, H.g, hp, (by rw [HRES.out]; exact (out_err hre (by decide)))⟩
end Go.Proofs.YtcngcdfngifjnaaDoor.Dg


/- The reader: item (kx). -/
namespace Go.Proofs.YtcngcdfngifjnaaDoor.Dg
open Go Go.RowKit Go.Proofs.YtcngcdfngifjnaaDoor.Ne Go.Proofs.YtcngcdfngifjnaaDoor.Kr

set_option linter.unusedSimpArgs false in
set_option maxRecDepth 100000 in
set_option maxHeartbeats 16000000 in
theorem item_kx {d : Nat} {w : World} {br b off n c ps : Nat} {l L2 : List (BitVec 8)} {kb : BitVec 8} (hr : w.heap[br]? = some (.cells (rdr (.slice (some ⟨b, off, none⟩) n c) (ps : Int) 0).toArray 60 (0, 0))) (hS : SrcB (some ⟨b, off, none⟩) l w) (hO : Off br (some ⟨b, off, none⟩)) (hl : l.length = n) (hn : n ≤ 20000) (hc : n ≤ c) (hp : ps ≤ n) (k1 : kb ≠ 1#8) (k2 : kb ≠ 2#8) (k3 : kb ≠ 3#8) (hL0 : l.drop ps = kb :: L2) :
    Calls Tryd.prog 40 #[.pointer (some ⟨br, 0, none⟩), .int .i64 (d : Int)] w fun o w' => ItemP w br b off n c ps d l o w' := by
  have hu_ := hS; clear hu_
  have hu_ := hO; clear hu_
  have hu_ := hl; clear hu_
  have hu_ := hn; clear hu_
  have hu_ := hc; clear hu_
  have hu_ := hp; clear hu_
  have HS := Lib.hid hS; have HO := Lib.hid hO; clear hS hO; have hbrw := lt_of_heap hr; have hLl : (l.drop ps).length = n - ps := by rw [List.length_drop, hl]
  obtain ⟨RES, hRS⟩ : ∃ z, rd d (l.drop ps) = z := ⟨_, rfl⟩; have HRES := Lib.hid hRS; clear hRS
  rw [hL0, List.length_cons] at hLl; have h1 : ps + 1 ≤ n := by omega
  have HD1 : Hid (l.drop (ps + 1) = L2) := Lib.hid (by rw [← List.drop_drop, hL0]; rfl)
  have HN1 : Hid ((nb ((l.drop ps).take 1)).toInt = (kb.toNat : Int)) := Lib.hid (by rw [hL0]; exact nb1 kb)
  have HLC := Lib.hid hL0; clear hL0
  have hre : RES = .error 3 := by rw [← HRES.out, HLC.out]; exact rd_x L2 k1 k2 k3 d
  obtain ⟨kn, hkn⟩ : ∃ z, kb.toNat = z := ⟨_, rfl⟩; rw [hkn] at HN1
  have n1 : kn ≠ 1 := fun h => k1 (BitVec.eq_of_toNat_eq (by rw [hkn, h]; rfl))
  have n2 : kn ≠ 2 := fun h => k2 (BitVec.eq_of_toNat_eq (by rw [hkn, h]; rfl))
  have n3 : kn ≠ 3 := fun h => k3 (BitVec.eq_of_toNat_eq (by rw [hkn, h]; rfl))
  clear k1 k2 k3 hkn
  have H := OwX.start hr
  go_enter Tryd.func40, Tryd.ntmps40
  go_upto_region 0 with fail
  refine Kr.seqStartW ?_
  refine Kr.seqR (by rfl) (fun K hK => ?_)
  refine wp_runV rfl newI ?_
  obtain ⟨y1, hy⟩ : ∃ y, w.alloc (.cells ([.int .i64 0, .int .i64 0, .slice none 0 0, .slice none 0 0]).toArray 25) = y := ⟨_, rfl⟩
  obtain ⟨bz, hb⟩ : ∃ b, w.heap.size = b := ⟨_, rfl⟩
  rw [hy, hb]
  have hg : Gr w y1 := hy ▸ (Gr.refl _).alloc _
  replace H := H.alloc hy hb
  clear hy hb hg
  (refine Kr.outS hK (a' := ?_) ?_ ?_; rotate_left; (focus ((try simp only [Kr.PT]); first | done | rfl))); clear hK K
  refine Kr.seqDoneW ?_
  go_upto_region 1 with fail
  refine Kr.seqStartW ?_
  (refine Kr.seqQ (v := ?_) (a' := ?_) (by rfl) ?_ ?_ ?_; rotate_left 2; (focus (go_simp; first | done | rfl)); (focus ((try simp only [Kr.PT]); first | done | rfl)))
  refine Kr.seqR (by rfl) (fun K hK => ?_)
  go_simp
  go_at_call 48
  refine (number_ok (m := 1) (H.at 1 rfl) (HS.out.growX HO.out H.g) HO.out hl (by omega) hc (h1) (by decide)).mono ?_
  rintro o9 y2 ⟨rfl, hh, hg⟩
  replace H := H.call 1 rfl hg hh; dsimp only [List.set] at H
  clear hh hg
  rw [HN1.out]
  (refine Kr.outS hK (a' := ?_) ?_ ?_; rotate_left; (focus ((try simp only [Kr.PT]); first | done | rfl))); clear hK K
  (refine Kr.seqQ (v := .agg #[.int .i64 (kn : Int), .int .i64 0, .slice none 0 0, .slice none 0 0]) (a' := ?_) (by rfl) ?_ ?_ ?_; rotate_left 1; (focus (go_simp; first | done | rfl)); (focus ((try simp only [Kr.PT]); first | done | rfl)))
  refine Kr.seqR (by rfl) (fun K hK => ?_)
  refine wp_runV rfl newI ?_
  obtain ⟨y3, hy⟩ : ∃ y, y2.alloc (.cells ([.int .i64 0, .int .i64 0, .slice none 0 0, .slice none 0 0]).toArray 25) = y := ⟨_, rfl⟩
  obtain ⟨bi, hb⟩ : ∃ b, y2.heap.size = b := ⟨_, rfl⟩
  rw [hy, hb]
  have hg : Gr y2 y3 := hy ▸ (Gr.refl _).alloc _
  replace H := H.alloc hy hb
  clear hy hb hg
  (refine Kr.outS hK (a' := ?_) ?_ ?_; rotate_left; (focus ((try simp only [Kr.PT]); first | done | rfl))); clear hK K
  refine Kr.seqR (by rfl) (fun K hK => ?_)
  refine wp_run rfl (stI (H.at 0 rfl) one4) ?_
  obtain ⟨y4, hy⟩ : ∃ y, y3.setRow bi ([.int .i64 (kn : Int), .int .i64 0, .slice none 0 0, .slice none 0 0]).toArray = y := ⟨_, rfl⟩
  rw [hy]
  replace H := H.put 0 hy rfl
  dsimp only [List.set] at H
  clear hy
  (refine Kr.outS hK (a' := ?_) ?_ ?_; rotate_left; (focus ((try simp only [Kr.PT]); first | done | rfl))); clear hK K
  refine Kr.seqDoneW ?_
  have K1 : decide ((kn : Int) = (1 : Int)) = false := decide_eq_false (by omega)
  go_upto_region 3 with fail
  refine Kr.seqStartW ?_
  (refine Kr.seqQ (v := .pointer (some ⟨bi, 0, none⟩)) (a' := ?_) (by rfl) ?_ ?_ ?_; rotate_left 1; (focus (go_simp; first | done | rfl)); (focus ((try simp only [Kr.PT]); first | done | rfl)))
  (refine Kr.seqQ (v := .int .i64 (kn : Int)) (a' := ?_) (by rfl) ?_ ?_ ?_; rotate_left 1; (focus (exact Kr.valOf rfl (ldInt (rowCell (j := 0) (H.at 0 rfl) rfl)))); (focus ((try simp only [Kr.PT]); first | done | rfl)))
  (refine Kr.seqQ (v := .bool false) (a' := ?_) (by rfl) ?_ ?_ ?_; rotate_left 1; (focus (exact Kr.valOf rfl (eqlI K1))); (focus ((try simp only [Kr.PT]); first | done | rfl)))
  (refine Kr.seqQ (v := ?_) (a' := ?_) (by rfl) ?_ ?_ ?_; rotate_left 2; (focus (go_simp; first | done | rfl)); (focus ((try simp only [Kr.PT]); first | done | rfl)))
  refine Kr.seqDoneW ?_
  have K2 : decide ((kn : Int) = (2 : Int)) = false := decide_eq_false (by omega)
  go_upto_region 5 with fail
  refine Kr.seqStartW ?_
  (refine Kr.seqQ (v := .pointer (some ⟨bi, 0, none⟩)) (a' := ?_) (by rfl) ?_ ?_ ?_; rotate_left 1; (focus (go_simp; first | done | rfl)); (focus ((try simp only [Kr.PT]); first | done | rfl)))
  (refine Kr.seqQ (v := .int .i64 (kn : Int)) (a' := ?_) (by rfl) ?_ ?_ ?_; rotate_left 1; (focus (exact Kr.valOf rfl (ldInt (rowCell (j := 0) (H.at 0 rfl) rfl)))); (focus ((try simp only [Kr.PT]); first | done | rfl)))
  (refine Kr.seqQ (v := .bool false) (a' := ?_) (by rfl) ?_ ?_ ?_; rotate_left 1; (focus (exact Kr.valOf rfl (eqlI K2))); (focus ((try simp only [Kr.PT]); first | done | rfl)))
  (refine Kr.seqQ (v := ?_) (a' := ?_) (by rfl) ?_ ?_ ?_; rotate_left 2; (focus (go_simp; first | done | rfl)); (focus ((try simp only [Kr.PT]); first | done | rfl)))
  refine Kr.seqDoneW ?_
  have K3 : decide ((kn : Int) = (3 : Int)) = false := decide_eq_false (by omega)
  go_upto_region 8 with fail
  refine Kr.seqStartW ?_
  (refine Kr.seqQ (v := .pointer (some ⟨bi, 0, none⟩)) (a' := ?_) (by rfl) ?_ ?_ ?_; rotate_left 1; (focus (go_simp; first | done | rfl)); (focus ((try simp only [Kr.PT]); first | done | rfl)))
  (refine Kr.seqQ (v := .int .i64 (kn : Int)) (a' := ?_) (by rfl) ?_ ?_ ?_; rotate_left 1; (focus (exact Kr.valOf rfl (ldInt (rowCell (j := 0) (H.at 0 rfl) rfl)))); (focus ((try simp only [Kr.PT]); first | done | rfl)))
  (refine Kr.seqQ (v := .bool false) (a' := ?_) (by rfl) ?_ ?_ ?_; rotate_left 1; (focus (exact Kr.valOf rfl (eqlI K3))); (focus ((try simp only [Kr.PT]); first | done | rfl)))
  (refine Kr.seqQ (v := ?_) (a' := ?_) (by rfl) ?_ ?_ ?_; rotate_left 2; (focus (go_simp; first | done | rfl)); (focus ((try simp only [Kr.PT]); first | done | rfl)))
  (refine Kr.seqSkipQ (a' := ?_) (by rfl) ?_ ?_; rotate_left; (focus ((try simp only [Kr.PT]); first | done | rfl)))
  (refine Kr.seqSkipQ (a' := ?_) (by rfl) ?_ ?_; rotate_left; (focus ((try simp only [Kr.PT]); first | done | rfl)))
  (refine Kr.seqQ (v := ?_) (a' := ?_) (by rfl) ?_ ?_ ?_; rotate_left 2; (focus (go_simp; first | done | rfl)); (focus ((try simp only [Kr.PT]); first | done | rfl)))
  (refine Kr.seqQ (v := ?_) (a' := ?_) (by rfl) ?_ ?_ ?_; rotate_left 2; (focus (go_simp; first | done | rfl)); (focus ((try simp only [Kr.PT]); first | done | rfl)))
  refine Kr.seqDoneW ?_
  go_upto_region 2 with fail
  refine Kr.seqStartW ?_
  (refine Kr.seqQ (v := ?_) (a' := ?_) (by rfl) ?_ ?_ ?_; rotate_left 2; (focus (go_simp; first | done | rfl)); (focus ((try simp only [Kr.PT]); first | done | rfl)))
  refine Kr.seqR (by rfl) (fun K hK => ?_)
  go_simp
  go_at_call 41
  refine (fail_set (code := 3) (H.at 2 rfl)).mono ?_
  rintro o9 y5 ⟨rfl, hh, hg⟩
  replace H := H.call 2 rfl hg hh; dsimp only [List.set] at H; clear hh hg
  (refine Kr.outS hK (a' := ?_) ?_ ?_; rotate_left; (focus ((try simp only [Kr.PT]); first | done | rfl))); clear hK K
  refine Kr.seqDoneW ?_
  go_upto_region 10 with fail
  refine Kr.seqStartW ?_
  (refine Kr.seqQ (v := .agg #[.int .i64 (kn : Int), .int .i64 0, .slice none 0 0, .slice none 0 0]) (a' := ?_) (by rfl) ?_ ?_ ?_; rotate_left 1; (focus (exact Kr.valOf rfl (ldI (H.at 0 rfl)))); (focus ((try simp only [Kr.PT]); first | done | rfl)))
  refine Kr.seqR (by rfl) (fun K hK => ?_)
  refine wp_run rfl (stI (H.at 1 rfl) one4) ?_
  obtain ⟨y6, hy⟩ : ∃ y, y5.setRow bz ([.int .i64 (kn : Int), .int .i64 0, .slice none 0 0, .slice none 0 0]).toArray = y := ⟨_, rfl⟩
  rw [hy]
  replace H := H.put 1 hy rfl
  dsimp only [List.set] at H
  clear hy
  (refine Kr.outS hK (a' := ?_) ?_ ?_; rotate_left; (focus ((try simp only [Kr.PT]); first | done | rfl))); clear hK K
  refine Kr.seqDoneW ?_
  go_wp2
  refine bodyPost_ret (v := .agg #[.int .i64 (kn : Int), .int .i64 0, .slice none 0 0, .slice none 0 0]) (results_cell_row rfl _ _ bz 25 _ _ _ (by rfl) (H.at 1 rfl) Tryd.underlying25 rfl (show _ = some 4 from infoI)) rfl ⟨.int .i64 (kn : Int), .int .i64 0, .slice none 0 0, .slice none 0 0, ps + 1, 3, rfl, one4, H.at 2 rfl, H.g, h1, (by rw [HRES.out]; exact (out_err hre (by decide)))⟩
end Go.Proofs.YtcngcdfngifjnaaDoor.Dg


/- The reader: item (k30). -/
namespace Go.Proofs.YtcngcdfngifjnaaDoor.Dg
open Go Go.RowKit Go.Proofs.YtcngcdfngifjnaaDoor.Ne Go.Proofs.YtcngcdfngifjnaaDoor.Kr

set_option linter.unusedSimpArgs false in
set_option maxRecDepth 100000 in
set_option maxHeartbeats 16000000 in
theorem item_k30  {w : World} {br b off n c ps : Nat} {l L2 : List (BitVec 8)}  (hr : w.heap[br]? = some (.cells (rdr (.slice (some ⟨b, off, none⟩) n c) (ps : Int) 0).toArray 60 (0, 0))) (hS : SrcB (some ⟨b, off, none⟩) l w) (hO : Off br (some ⟨b, off, none⟩)) (hl : l.length = n) (hn : n ≤ 20000) (hc : n ≤ c) (hp : ps ≤ n) (hL0 : l.drop ps = 3#8 :: L2)  :
    Calls Tryd.prog 40 #[.pointer (some ⟨br, 0, none⟩), .int .i64 ((0 : Nat) : Int)] w fun o w' => ItemP w br b off n c ps 0 l o w' := by
  have hu_ := hS; clear hu_
  have hu_ := hO; clear hu_
  have hu_ := hl; clear hu_
  have hu_ := hn; clear hu_
  have hu_ := hc; clear hu_
  have hu_ := hp; clear hu_
  have HS := Lib.hid hS; have HO := Lib.hid hO; clear hS hO; have hbrw := lt_of_heap hr; have hLl : (l.drop ps).length = n - ps := by rw [List.length_drop, hl]
  obtain ⟨RES, hRS⟩ : ∃ z, rd 0 (l.drop ps) = z := ⟨_, rfl⟩; have HRES := Lib.hid hRS; clear hRS
  rw [hL0, List.length_cons] at hLl; have h1 : ps + 1 ≤ n := by omega
  have HD1 : Hid (l.drop (ps + 1) = L2) := Lib.hid (by rw [← List.drop_drop, hL0]; rfl)
  have HN1 : Hid ((nb ((l.drop ps).take 1)).toInt = 3) := Lib.hid (by rw [hL0]; exact nb1 3#8)
  have HLC := Lib.hid hL0; clear hL0
  have hre : RES = .error 3 := by rw [← HRES.out, HLC.out]; exact rd_30 L2
  have H := OwX.start hr
  go_enter Tryd.func40, Tryd.ntmps40
  go_upto_region 0 with fail
  refine Kr.seqStartW ?_
  refine Kr.seqR (by rfl) (fun K hK => ?_)
  refine wp_runV rfl newI ?_
  obtain ⟨y1, hy⟩ : ∃ y, w.alloc (.cells ([.int .i64 0, .int .i64 0, .slice none 0 0, .slice none 0 0]).toArray 25) = y := ⟨_, rfl⟩
  obtain ⟨bz, hb⟩ : ∃ b, w.heap.size = b := ⟨_, rfl⟩
  rw [hy, hb]
  have hg : Gr w y1 := hy ▸ (Gr.refl _).alloc _
  replace H := H.alloc hy hb
  clear hy hb hg
  (refine Kr.outS hK (a' := ?_) ?_ ?_; rotate_left; (focus ((try simp only [Kr.PT]); first | done | rfl))); clear hK K
  refine Kr.seqDoneW ?_
  go_upto_region 1 with fail
  refine Kr.seqStartW ?_
  (refine Kr.seqQ (v := ?_) (a' := ?_) (by rfl) ?_ ?_ ?_; rotate_left 2; (focus (go_simp; first | done | rfl)); (focus ((try simp only [Kr.PT]); first | done | rfl)))
  refine Kr.seqR (by rfl) (fun K hK => ?_)
  go_simp
  go_at_call 48
  refine (number_ok (m := 1) (H.at 1 rfl) (HS.out.growX HO.out H.g) HO.out hl (by omega) hc (h1) (by decide)).mono ?_
  rintro o9 y2 ⟨rfl, hh, hg⟩
  replace H := H.call 1 rfl hg hh; dsimp only [List.set] at H
  clear hh hg
  rw [HN1.out]
  (refine Kr.outS hK (a' := ?_) ?_ ?_; rotate_left; (focus ((try simp only [Kr.PT]); first | done | rfl))); clear hK K
  (refine Kr.seqQ (v := .agg #[.int .i64 3, .int .i64 0, .slice none 0 0, .slice none 0 0]) (a' := ?_) (by rfl) ?_ ?_ ?_; rotate_left 1; (focus (go_simp; first | done | rfl)); (focus ((try simp only [Kr.PT]); first | done | rfl)))
  refine Kr.seqR (by rfl) (fun K hK => ?_)
  refine wp_runV rfl newI ?_
  obtain ⟨y3, hy⟩ : ∃ y, y2.alloc (.cells ([.int .i64 0, .int .i64 0, .slice none 0 0, .slice none 0 0]).toArray 25) = y := ⟨_, rfl⟩
  obtain ⟨bi, hb⟩ : ∃ b, y2.heap.size = b := ⟨_, rfl⟩
  rw [hy, hb]
  have hg : Gr y2 y3 := hy ▸ (Gr.refl _).alloc _
  replace H := H.alloc hy hb
  clear hy hb hg
  (refine Kr.outS hK (a' := ?_) ?_ ?_; rotate_left; (focus ((try simp only [Kr.PT]); first | done | rfl))); clear hK K
  refine Kr.seqR (by rfl) (fun K hK => ?_)
  refine wp_run rfl (stI (H.at 0 rfl) one4) ?_
  obtain ⟨y4, hy⟩ : ∃ y, y3.setRow bi ([.int .i64 3, .int .i64 0, .slice none 0 0, .slice none 0 0]).toArray = y := ⟨_, rfl⟩
  rw [hy]
  replace H := H.put 0 hy rfl
  dsimp only [List.set] at H
  clear hy
  (refine Kr.outS hK (a' := ?_) ?_ ?_; rotate_left; (focus ((try simp only [Kr.PT]); first | done | rfl))); clear hK K
  refine Kr.seqDoneW ?_
  have K1 : decide (3 = (1 : Int)) = false := decide_eq_false (by decide)
  go_upto_region 3 with fail
  refine Kr.seqStartW ?_
  (refine Kr.seqQ (v := .pointer (some ⟨bi, 0, none⟩)) (a' := ?_) (by rfl) ?_ ?_ ?_; rotate_left 1; (focus (go_simp; first | done | rfl)); (focus ((try simp only [Kr.PT]); first | done | rfl)))
  (refine Kr.seqQ (v := .int .i64 3) (a' := ?_) (by rfl) ?_ ?_ ?_; rotate_left 1; (focus (exact Kr.valOf rfl (ldInt (rowCell (j := 0) (H.at 0 rfl) rfl)))); (focus ((try simp only [Kr.PT]); first | done | rfl)))
  (refine Kr.seqQ (v := .bool false) (a' := ?_) (by rfl) ?_ ?_ ?_; rotate_left 1; (focus (exact Kr.valOf rfl (eqlI K1))); (focus ((try simp only [Kr.PT]); first | done | rfl)))
  (refine Kr.seqQ (v := ?_) (a' := ?_) (by rfl) ?_ ?_ ?_; rotate_left 2; (focus (go_simp; first | done | rfl)); (focus ((try simp only [Kr.PT]); first | done | rfl)))
  refine Kr.seqDoneW ?_
  have K2 : decide (3 = (2 : Int)) = false := decide_eq_false (by decide)
  go_upto_region 5 with fail
  refine Kr.seqStartW ?_
  (refine Kr.seqQ (v := .pointer (some ⟨bi, 0, none⟩)) (a' := ?_) (by rfl) ?_ ?_ ?_; rotate_left 1; (focus (go_simp; first | done | rfl)); (focus ((try simp only [Kr.PT]); first | done | rfl)))
  (refine Kr.seqQ (v := .int .i64 3) (a' := ?_) (by rfl) ?_ ?_ ?_; rotate_left 1; (focus (exact Kr.valOf rfl (ldInt (rowCell (j := 0) (H.at 0 rfl) rfl)))); (focus ((try simp only [Kr.PT]); first | done | rfl)))
  (refine Kr.seqQ (v := .bool false) (a' := ?_) (by rfl) ?_ ?_ ?_; rotate_left 1; (focus (exact Kr.valOf rfl (eqlI K2))); (focus ((try simp only [Kr.PT]); first | done | rfl)))
  (refine Kr.seqQ (v := ?_) (a' := ?_) (by rfl) ?_ ?_ ?_; rotate_left 2; (focus (go_simp; first | done | rfl)); (focus ((try simp only [Kr.PT]); first | done | rfl)))
  refine Kr.seqDoneW ?_
  have K3 : decide (3 = (3 : Int)) = true := decide_eq_true (by rfl)
  have KD : decide ((0 : Int) < ((0 : Nat) : Int)) = false := decide_eq_false (by omega)
  go_upto_region 8 with fail
  refine Kr.seqStartW ?_
  (refine Kr.seqQ (v := .pointer (some ⟨bi, 0, none⟩)) (a' := ?_) (by rfl) ?_ ?_ ?_; rotate_left 1; (focus (go_simp; first | done | rfl)); (focus ((try simp only [Kr.PT]); first | done | rfl)))
  (refine Kr.seqQ (v := .int .i64 3) (a' := ?_) (by rfl) ?_ ?_ ?_; rotate_left 1; (focus (exact Kr.valOf rfl (ldInt (rowCell (j := 0) (H.at 0 rfl) rfl)))); (focus ((try simp only [Kr.PT]); first | done | rfl)))
  (refine Kr.seqQ (v := .bool true) (a' := ?_) (by rfl) ?_ ?_ ?_; rotate_left 1; (focus (exact Kr.valOf rfl (eqlI K3))); (focus ((try simp only [Kr.PT]); first | done | rfl)))
  (refine Kr.seqQ (v := ?_) (a' := ?_) (by rfl) ?_ ?_ ?_; rotate_left 2; (focus (go_simp; first | done | rfl)); (focus ((try simp only [Kr.PT]); first | done | rfl)))
  (refine Kr.seqQ (v := ?_) (a' := ?_) (by rfl) ?_ ?_ ?_; rotate_left 2; (focus (go_simp; first | done | rfl)); (focus ((try simp only [Kr.PT]); first | done | rfl)))
  (refine Kr.seqQ (v := .bool false) (a' := ?_) (by rfl) ?_ ?_ ?_; rotate_left 1; (focus (exact Kr.valOf rfl (gtrI KD))); (focus ((try simp only [Kr.PT]); first | done | rfl)))
  (refine Kr.seqQ (v := ?_) (a' := ?_) (by rfl) ?_ ?_ ?_; rotate_left 2; (focus (go_simp; first | done | rfl)); (focus ((try simp only [Kr.PT]); first | done | rfl)))
  (refine Kr.seqQ (v := ?_) (a' := ?_) (by rfl) ?_ ?_ ?_; rotate_left 2; (focus (go_simp; first | done | rfl)); (focus ((try simp only [Kr.PT]); first | done | rfl)))
  refine Kr.seqDoneW ?_
  go_upto_region 2 with fail
  refine Kr.seqStartW ?_
  (refine Kr.seqQ (v := ?_) (a' := ?_) (by rfl) ?_ ?_ ?_; rotate_left 2; (focus (go_simp; first | done | rfl)); (focus ((try simp only [Kr.PT]); first | done | rfl)))
  refine Kr.seqR (by rfl) (fun K hK => ?_)
  go_simp
  go_at_call 41
  refine (fail_set (code := 3) (H.at 2 rfl)).mono ?_
  rintro o9 y5 ⟨rfl, hh, hg⟩
  replace H := H.call 2 rfl hg hh; dsimp only [List.set] at H; clear hh hg
  (refine Kr.outS hK (a' := ?_) ?_ ?_; rotate_left; (focus ((try simp only [Kr.PT]); first | done | rfl))); clear hK K
  refine Kr.seqDoneW ?_
  go_upto_region 10 with fail
  refine Kr.seqStartW ?_
  (refine Kr.seqQ (v := .agg #[.int .i64 3, .int .i64 0, .slice none 0 0, .slice none 0 0]) (a' := ?_) (by rfl) ?_ ?_ ?_; rotate_left 1; (focus (exact Kr.valOf rfl (ldI (H.at 0 rfl)))); (focus ((try simp only [Kr.PT]); first | done | rfl)))
  refine Kr.seqR (by rfl) (fun K hK => ?_)
  refine wp_run rfl (stI (H.at 1 rfl) one4) ?_
  obtain ⟨y6, hy⟩ : ∃ y, y5.setRow bz ([.int .i64 3, .int .i64 0, .slice none 0 0, .slice none 0 0]).toArray = y := ⟨_, rfl⟩
  rw [hy]
  replace H := H.put 1 hy rfl
  dsimp only [List.set] at H
  clear hy
  (refine Kr.outS hK (a' := ?_) ?_ ?_; rotate_left; (focus ((try simp only [Kr.PT]); first | done | rfl))); clear hK K
  refine Kr.seqDoneW ?_
  go_wp2
  refine bodyPost_ret (v := .agg #[.int .i64 3, .int .i64 0, .slice none 0 0, .slice none 0 0]) (results_cell_row rfl _ _ bz 25 _ _ _ (by rfl) (H.at 1 rfl) Tryd.underlying25 rfl (show _ = some 4 from infoI)) rfl ⟨.int .i64 3, .int .i64 0, .slice none 0 0, .slice none 0 0, ps + 1, 3, rfl, one4, H.at 2 rfl, H.g, h1, (by rw [HRES.out]; exact (out_err hre (by decide)))⟩
end Go.Proofs.YtcngcdfngifjnaaDoor.Dg


/- The reader: item (k1a). -/
namespace Go.Proofs.YtcngcdfngifjnaaDoor.Dg
open Go Go.RowKit Go.Proofs.YtcngcdfngifjnaaDoor.Ne Go.Proofs.YtcngcdfngifjnaaDoor.Kr

set_option linter.unusedSimpArgs false in
set_option maxRecDepth 100000 in
set_option maxHeartbeats 16000000 in
theorem item_k1a {d : Nat} {w : World} {br b off n c ps : Nat} {l L2 : List (BitVec 8)}  (hr : w.heap[br]? = some (.cells (rdr (.slice (some ⟨b, off, none⟩) n c) (ps : Int) 0).toArray 60 (0, 0))) (hS : SrcB (some ⟨b, off, none⟩) l w) (hO : Off br (some ⟨b, off, none⟩)) (hl : l.length = n) (hn : n ≤ 20000) (hc : n ≤ c) (hp : ps ≤ n) (hL0 : l.drop ps = 1#8 :: L2) (hx : L2.length < 8) :
    Calls Tryd.prog 40 #[.pointer (some ⟨br, 0, none⟩), .int .i64 (d : Int)] w fun o w' => ItemP w br b off n c ps d l o w' := by
  have hu_ := hS; clear hu_
  have hu_ := hO; clear hu_
  have hu_ := hl; clear hu_
  have hu_ := hn; clear hu_
  have hu_ := hc; clear hu_
  have hu_ := hp; clear hu_
  have HS := Lib.hid hS; have HO := Lib.hid hO; clear hS hO; have hbrw := lt_of_heap hr; have hLl : (l.drop ps).length = n - ps := by rw [List.length_drop, hl]
  obtain ⟨RES, hRS⟩ : ∃ z, rd d (l.drop ps) = z := ⟨_, rfl⟩; have HRES := Lib.hid hRS; clear hRS
  rw [hL0, List.length_cons] at hLl; have h1 : ps + 1 ≤ n := by omega
  have HD1 : Hid (l.drop (ps + 1) = L2) := Lib.hid (by rw [← List.drop_drop, hL0]; rfl)
  have HN1 : Hid ((nb ((l.drop ps).take 1)).toInt = 1) := Lib.hid (by rw [hL0]; exact nb1 1#8)
  have HLC := Lib.hid hL0; clear hL0
  have hre : RES = .error 4 := by rw [← HRES.out, HLC.out, rd_1, rdN, if_pos hx]
  have H := OwX.start hr
  go_enter Tryd.func40, Tryd.ntmps40
  go_upto_region 0 with fail
  refine Kr.seqStartW ?_
  refine Kr.seqR (by rfl) (fun K hK => ?_)
  refine wp_runV rfl newI ?_
  obtain ⟨y1, hy⟩ : ∃ y, w.alloc (.cells ([.int .i64 0, .int .i64 0, .slice none 0 0, .slice none 0 0]).toArray 25) = y := ⟨_, rfl⟩
  obtain ⟨bz, hb⟩ : ∃ b, w.heap.size = b := ⟨_, rfl⟩
  rw [hy, hb]
  have hg : Gr w y1 := hy ▸ (Gr.refl _).alloc _
  replace H := H.alloc hy hb
  clear hy hb hg
  (refine Kr.outS hK (a' := ?_) ?_ ?_; rotate_left; (focus ((try simp only [Kr.PT]); first | done | rfl))); clear hK K
  refine Kr.seqDoneW ?_
  go_upto_region 1 with fail
  refine Kr.seqStartW ?_
  (refine Kr.seqQ (v := ?_) (a' := ?_) (by rfl) ?_ ?_ ?_; rotate_left 2; (focus (go_simp; first | done | rfl)); (focus ((try simp only [Kr.PT]); first | done | rfl)))
  refine Kr.seqR (by rfl) (fun K hK => ?_)
  go_simp
  go_at_call 48
  refine (number_ok (m := 1) (H.at 1 rfl) (HS.out.growX HO.out H.g) HO.out hl (by omega) hc (h1) (by decide)).mono ?_
  rintro o9 y2 ⟨rfl, hh, hg⟩
  replace H := H.call 1 rfl hg hh; dsimp only [List.set] at H
  clear hh hg
  rw [HN1.out]
  (refine Kr.outS hK (a' := ?_) ?_ ?_; rotate_left; (focus ((try simp only [Kr.PT]); first | done | rfl))); clear hK K
  (refine Kr.seqQ (v := .agg #[.int .i64 1, .int .i64 0, .slice none 0 0, .slice none 0 0]) (a' := ?_) (by rfl) ?_ ?_ ?_; rotate_left 1; (focus (go_simp; first | done | rfl)); (focus ((try simp only [Kr.PT]); first | done | rfl)))
  refine Kr.seqR (by rfl) (fun K hK => ?_)
  refine wp_runV rfl newI ?_
  obtain ⟨y3, hy⟩ : ∃ y, y2.alloc (.cells ([.int .i64 0, .int .i64 0, .slice none 0 0, .slice none 0 0]).toArray 25) = y := ⟨_, rfl⟩
  obtain ⟨bi, hb⟩ : ∃ b, y2.heap.size = b := ⟨_, rfl⟩
  rw [hy, hb]
  have hg : Gr y2 y3 := hy ▸ (Gr.refl _).alloc _
  replace H := H.alloc hy hb
  clear hy hb hg
  (refine Kr.outS hK (a' := ?_) ?_ ?_; rotate_left; (focus ((try simp only [Kr.PT]); first | done | rfl))); clear hK K
  refine Kr.seqR (by rfl) (fun K hK => ?_)
  refine wp_run rfl (stI (H.at 0 rfl) one4) ?_
  obtain ⟨y4, hy⟩ : ∃ y, y3.setRow bi ([.int .i64 1, .int .i64 0, .slice none 0 0, .slice none 0 0]).toArray = y := ⟨_, rfl⟩
  rw [hy]
  replace H := H.put 0 hy rfl
  dsimp only [List.set] at H
  clear hy
  (refine Kr.outS hK (a' := ?_) ?_ ?_; rotate_left; (focus ((try simp only [Kr.PT]); first | done | rfl))); clear hK K
  refine Kr.seqDoneW ?_
  have K1 : decide (1 = (1 : Int)) = true := decide_eq_true (by rfl)
  go_upto_region 3 with fail
  refine Kr.seqStartW ?_
  (refine Kr.seqQ (v := .pointer (some ⟨bi, 0, none⟩)) (a' := ?_) (by rfl) ?_ ?_ ?_; rotate_left 1; (focus (go_simp; first | done | rfl)); (focus ((try simp only [Kr.PT]); first | done | rfl)))
  (refine Kr.seqQ (v := .int .i64 1) (a' := ?_) (by rfl) ?_ ?_ ?_; rotate_left 1; (focus (exact Kr.valOf rfl (ldInt (rowCell (j := 0) (H.at 0 rfl) rfl)))); (focus ((try simp only [Kr.PT]); first | done | rfl)))
  (refine Kr.seqQ (v := .bool true) (a' := ?_) (by rfl) ?_ ?_ ?_; rotate_left 1; (focus (exact Kr.valOf rfl (eqlI K1))); (focus ((try simp only [Kr.PT]); first | done | rfl)))
  (refine Kr.seqQ (v := ?_) (a' := ?_) (by rfl) ?_ ?_ ?_; rotate_left 2; (focus (go_simp; first | done | rfl)); (focus ((try simp only [Kr.PT]); first | done | rfl)))
  refine Kr.seqDoneW ?_
  go_upto_region 4 with fail
  refine Kr.seqStartW ?_
  (refine Kr.seqQ (v := ?_) (a' := ?_) (by rfl) ?_ ?_ ?_; rotate_left 2; (focus (go_simp; first | done | rfl)); (focus ((try simp only [Kr.PT]); first | done | rfl)))
  refine Kr.seqR (by rfl) (fun K hK => ?_)
  go_simp
  go_at_call 48
  refine (number_end (m := 8) (H.at 2 rfl) (by omega) (h1) (by omega)).mono ?_
  rintro o9 y5 ⟨rfl, hh, hg⟩
  replace H := H.call 2 rfl hg hh; dsimp only [List.set] at H
  clear hh hg
  (refine Kr.outS hK (a' := ?_) ?_ ?_; rotate_left; (focus ((try simp only [Kr.PT]); first | done | rfl))); clear hK K
  (refine Kr.seqQ (v := .pointer (some ⟨bi, 1, none⟩)) (a' := ?_) (by rfl) ?_ ?_ ?_; rotate_left 1; (focus (go_simp; first | done | rfl)); (focus ((try simp only [Kr.PT]); first | done | rfl)))
  refine Kr.seqR (by rfl) (fun K hK => ?_)
  refine wp_run rfl (stInt (H.cell 0 rfl (show _ = some _ from rfl)) (H.frozen 0 rfl 1)) ?_
  obtain ⟨y6, hy⟩ : ∃ y, y5.setCell ⟨bi, 1, none⟩ (.int .i64 0) = y := ⟨_, rfl⟩
  rw [hy]
  replace H := H.set 0 (1) hy rfl
  dsimp only [List.set] at H
  clear hy
  (refine Kr.outS hK (a' := ?_) ?_ ?_; rotate_left; (focus ((try simp only [Kr.PT]); first | done | rfl))); clear hK K
  refine Kr.seqDoneW ?_
  go_upto_region 10 with fail
  refine Kr.seqStartW ?_
  (refine Kr.seqQ (v := .agg #[.int .i64 1, .int .i64 0, .slice none 0 0, .slice none 0 0]) (a' := ?_) (by rfl) ?_ ?_ ?_; rotate_left 1; (focus (exact Kr.valOf rfl (ldI (H.at 0 rfl)))); (focus ((try simp only [Kr.PT]); first | done | rfl)))
  refine Kr.seqR (by rfl) (fun K hK => ?_)
  refine wp_run rfl (stI (H.at 1 rfl) one4) ?_
  obtain ⟨y7, hy⟩ : ∃ y, y6.setRow bz ([.int .i64 1, .int .i64 0, .slice none 0 0, .slice none 0 0]).toArray = y := ⟨_, rfl⟩
  rw [hy]
  replace H := H.put 1 hy rfl
  dsimp only [List.set] at H
  clear hy
  (refine Kr.outS hK (a' := ?_) ?_ ?_; rotate_left; (focus ((try simp only [Kr.PT]); first | done | rfl))); clear hK K
  refine Kr.seqDoneW ?_
  go_wp2
  refine bodyPost_ret (v := .agg #[.int .i64 1, .int .i64 0, .slice none 0 0, .slice none 0 0]) (results_cell_row rfl _ _ bz 25 _ _ _ (by rfl) (H.at 1 rfl) Tryd.underlying25 rfl (show _ = some 4 from infoI)) rfl ⟨.int .i64 1, .int .i64 0, .slice none 0 0, .slice none 0 0, ps + 1, 4, rfl, one4, H.at 2 rfl, H.g, h1, (by rw [HRES.out]; exact (out_err hre (by decide)))⟩
end Go.Proofs.YtcngcdfngifjnaaDoor.Dg


/- The reader: item (k1b). -/
namespace Go.Proofs.YtcngcdfngifjnaaDoor.Dg
open Go Go.RowKit Go.Proofs.YtcngcdfngifjnaaDoor.Ne Go.Proofs.YtcngcdfngifjnaaDoor.Kr

set_option linter.unusedSimpArgs false in
set_option maxRecDepth 100000 in
set_option maxHeartbeats 16000000 in
theorem item_k1b {d : Nat} {w : World} {br b off n c ps : Nat} {l L2 : List (BitVec 8)}  (hr : w.heap[br]? = some (.cells (rdr (.slice (some ⟨b, off, none⟩) n c) (ps : Int) 0).toArray 60 (0, 0))) (hS : SrcB (some ⟨b, off, none⟩) l w) (hO : Off br (some ⟨b, off, none⟩)) (hl : l.length = n) (hn : n ≤ 20000) (hc : n ≤ c) (hp : ps ≤ n) (hL0 : l.drop ps = 1#8 :: L2) (hx : ¬ L2.length < 8) :
    Calls Tryd.prog 40 #[.pointer (some ⟨br, 0, none⟩), .int .i64 (d : Int)] w fun o w' => ItemP w br b off n c ps d l o w' := by
  have hu_ := hS; clear hu_
  have hu_ := hO; clear hu_
  have hu_ := hl; clear hu_
  have hu_ := hn; clear hu_
  have hu_ := hc; clear hu_
  have hu_ := hp; clear hu_
  have HS := Lib.hid hS; have HO := Lib.hid hO; clear hS hO; have hbrw := lt_of_heap hr; have hLl : (l.drop ps).length = n - ps := by rw [List.length_drop, hl]
  obtain ⟨RES, hRS⟩ : ∃ z, rd d (l.drop ps) = z := ⟨_, rfl⟩; have HRES := Lib.hid hRS; clear hRS
  rw [hL0, List.length_cons] at hLl; have h1 : ps + 1 ≤ n := by omega
  have HD1 : Hid (l.drop (ps + 1) = L2) := Lib.hid (by rw [← List.drop_drop, hL0]; rfl)
  have HN1 : Hid ((nb ((l.drop ps).take 1)).toInt = 1) := Lib.hid (by rw [hL0]; exact nb1 1#8)
  have HLC := Lib.hid hL0; clear hL0
  have h9 : ps + 1 + 8 ≤ n := by omega
  obtain ⟨N, hN⟩ : ∃ z, (nb (L2.take 8)).toInt = z := ⟨_, rfl⟩; have HNI : Hid (InR N) := Lib.hid (hN ▸ inr_nb _); have HRE : Hid (RES = .ok (.mk 1 N [] [], 9)) := Lib.hid (by rw [← HRES.out, HLC.out, rd_1, rdN, if_neg hx, hN]); have HNV : Hid ((nb ((l.drop (ps + 1)).take 8)).toInt = N) := Lib.hid (by rw [HD1.out]; exact hN); clear hN
  have H := OwX.start hr
  go_enter Tryd.func40, Tryd.ntmps40
  go_upto_region 0 with fail
  refine Kr.seqStartW ?_
  refine Kr.seqR (by rfl) (fun K hK => ?_)
  refine wp_runV rfl newI ?_
  obtain ⟨y1, hy⟩ : ∃ y, w.alloc (.cells ([.int .i64 0, .int .i64 0, .slice none 0 0, .slice none 0 0]).toArray 25) = y := ⟨_, rfl⟩
  obtain ⟨bz, hb⟩ : ∃ b, w.heap.size = b := ⟨_, rfl⟩
  rw [hy, hb]
  have hg : Gr w y1 := hy ▸ (Gr.refl _).alloc _
  replace H := H.alloc hy hb
  clear hy hb hg
  (refine Kr.outS hK (a' := ?_) ?_ ?_; rotate_left; (focus ((try simp only [Kr.PT]); first | done | rfl))); clear hK K
  refine Kr.seqDoneW ?_
  go_upto_region 1 with fail
  refine Kr.seqStartW ?_
  (refine Kr.seqQ (v := ?_) (a' := ?_) (by rfl) ?_ ?_ ?_; rotate_left 2; (focus (go_simp; first | done | rfl)); (focus ((try simp only [Kr.PT]); first | done | rfl)))
  refine Kr.seqR (by rfl) (fun K hK => ?_)
  go_simp
  go_at_call 48
  refine (number_ok (m := 1) (H.at 1 rfl) (HS.out.growX HO.out H.g) HO.out hl (by omega) hc (h1) (by decide)).mono ?_
  rintro o9 y2 ⟨rfl, hh, hg⟩
  replace H := H.call 1 rfl hg hh; dsimp only [List.set] at H
  clear hh hg
  rw [HN1.out]
  (refine Kr.outS hK (a' := ?_) ?_ ?_; rotate_left; (focus ((try simp only [Kr.PT]); first | done | rfl))); clear hK K
  (refine Kr.seqQ (v := .agg #[.int .i64 1, .int .i64 0, .slice none 0 0, .slice none 0 0]) (a' := ?_) (by rfl) ?_ ?_ ?_; rotate_left 1; (focus (go_simp; first | done | rfl)); (focus ((try simp only [Kr.PT]); first | done | rfl)))
  refine Kr.seqR (by rfl) (fun K hK => ?_)
  refine wp_runV rfl newI ?_
  obtain ⟨y3, hy⟩ : ∃ y, y2.alloc (.cells ([.int .i64 0, .int .i64 0, .slice none 0 0, .slice none 0 0]).toArray 25) = y := ⟨_, rfl⟩
  obtain ⟨bi, hb⟩ : ∃ b, y2.heap.size = b := ⟨_, rfl⟩
  rw [hy, hb]
  have hg : Gr y2 y3 := hy ▸ (Gr.refl _).alloc _
  replace H := H.alloc hy hb
  clear hy hb hg
  (refine Kr.outS hK (a' := ?_) ?_ ?_; rotate_left; (focus ((try simp only [Kr.PT]); first | done | rfl))); clear hK K
  refine Kr.seqR (by rfl) (fun K hK => ?_)
  refine wp_run rfl (stI (H.at 0 rfl) one4) ?_
  obtain ⟨y4, hy⟩ : ∃ y, y3.setRow bi ([.int .i64 1, .int .i64 0, .slice none 0 0, .slice none 0 0]).toArray = y := ⟨_, rfl⟩
  rw [hy]
  replace H := H.put 0 hy rfl
  dsimp only [List.set] at H
  clear hy
  (refine Kr.outS hK (a' := ?_) ?_ ?_; rotate_left; (focus ((try simp only [Kr.PT]); first | done | rfl))); clear hK K
  refine Kr.seqDoneW ?_
  have K1 : decide (1 = (1 : Int)) = true := decide_eq_true (by rfl)
  go_upto_region 3 with fail
  refine Kr.seqStartW ?_
  (refine Kr.seqQ (v := .pointer (some ⟨bi, 0, none⟩)) (a' := ?_) (by rfl) ?_ ?_ ?_; rotate_left 1; (focus (go_simp; first | done | rfl)); (focus ((try simp only [Kr.PT]); first | done | rfl)))
  (refine Kr.seqQ (v := .int .i64 1) (a' := ?_) (by rfl) ?_ ?_ ?_; rotate_left 1; (focus (exact Kr.valOf rfl (ldInt (rowCell (j := 0) (H.at 0 rfl) rfl)))); (focus ((try simp only [Kr.PT]); first | done | rfl)))
  (refine Kr.seqQ (v := .bool true) (a' := ?_) (by rfl) ?_ ?_ ?_; rotate_left 1; (focus (exact Kr.valOf rfl (eqlI K1))); (focus ((try simp only [Kr.PT]); first | done | rfl)))
  (refine Kr.seqQ (v := ?_) (a' := ?_) (by rfl) ?_ ?_ ?_; rotate_left 2; (focus (go_simp; first | done | rfl)); (focus ((try simp only [Kr.PT]); first | done | rfl)))
  refine Kr.seqDoneW ?_
  go_upto_region 4 with fail
  refine Kr.seqStartW ?_
  (refine Kr.seqQ (v := ?_) (a' := ?_) (by rfl) ?_ ?_ ?_; rotate_left 2; (focus (go_simp; first | done | rfl)); (focus ((try simp only [Kr.PT]); first | done | rfl)))
  refine Kr.seqR (by rfl) (fun K hK => ?_)
  go_simp
  go_at_call 48
  refine (number_ok (m := 8) (H.at 2 rfl) (HS.out.growX HO.out H.g) HO.out hl (by omega) hc (h9) (by decide)).mono ?_
  rintro o9 y5 ⟨rfl, hh, hg⟩
  replace H := H.call 2 rfl hg hh; dsimp only [List.set] at H
  clear hh hg
  rw [HNV.out]
  (refine Kr.outS hK (a' := ?_) ?_ ?_; rotate_left; (focus ((try simp only [Kr.PT]); first | done | rfl))); clear hK K
  (refine Kr.seqQ (v := .pointer (some ⟨bi, 1, none⟩)) (a' := ?_) (by rfl) ?_ ?_ ?_; rotate_left 1; (focus (go_simp; first | done | rfl)); (focus ((try simp only [Kr.PT]); first | done | rfl)))
  refine Kr.seqR (by rfl) (fun K hK => ?_)
  refine wp_run rfl (stInt (H.cell 0 rfl (show _ = some _ from rfl)) (H.frozen 0 rfl 1)) ?_
  obtain ⟨y6, hy⟩ : ∃ y, y5.setCell ⟨bi, 1, none⟩ (.int .i64 N) = y := ⟨_, rfl⟩
  rw [hy]
  replace H := H.set 0 (1) hy rfl
  dsimp only [List.set] at H
  clear hy
  (refine Kr.outS hK (a' := ?_) ?_ ?_; rotate_left; (focus ((try simp only [Kr.PT]); first | done | rfl))); clear hK K
  refine Kr.seqDoneW ?_
  go_upto_region 10 with fail
  refine Kr.seqStartW ?_
  (refine Kr.seqQ (v := .agg #[.int .i64 1, .int .i64 N, .slice none 0 0, .slice none 0 0]) (a' := ?_) (by rfl) ?_ ?_ ?_; rotate_left 1; (focus (exact Kr.valOf rfl (ldI (H.at 0 rfl)))); (focus ((try simp only [Kr.PT]); first | done | rfl)))
  refine Kr.seqR (by rfl) (fun K hK => ?_)
  refine wp_run rfl (stI (H.at 1 rfl) one4) ?_
  obtain ⟨y7, hy⟩ : ∃ y, y6.setRow bz ([.int .i64 1, .int .i64 N, .slice none 0 0, .slice none 0 0]).toArray = y := ⟨_, rfl⟩
  rw [hy]
  replace H := H.put 1 hy rfl
  dsimp only [List.set] at H
  clear hy
  (refine Kr.outS hK (a' := ?_) ?_ ?_; rotate_left; (focus ((try simp only [Kr.PT]); first | done | rfl))); clear hK K
  refine Kr.seqDoneW ?_
  go_wp2
  refine bodyPost_ret (v := .agg #[.int .i64 1, .int .i64 N, .slice none 0 0, .slice none 0 0]) (results_cell_row rfl _ _ bz 25 _ _ _ (by rfl) (H.at 1 rfl) Tryd.underlying25 rfl (show _ = some 4 from infoI)) rfl ⟨.int .i64 1, .int .i64 N, .slice none 0 0, .slice none 0 0, ps + 1 + 8, 0, rfl, one4, H.at 2 rfl, H.g, h9, (by rw [HRES.out]; exact (by rw [HRE.out]; exact ⟨rfl, rfl, itv_int HNI.out⟩))⟩
end Go.Proofs.YtcngcdfngifjnaaDoor.Dg


/- The reader: item (k2a). -/
namespace Go.Proofs.YtcngcdfngifjnaaDoor.Dg
open Go Go.RowKit Go.Proofs.YtcngcdfngifjnaaDoor.Ne Go.Proofs.YtcngcdfngifjnaaDoor.Kr

set_option linter.unusedSimpArgs false in
set_option maxRecDepth 100000 in
set_option maxHeartbeats 16000000 in
theorem item_k2a {d : Nat} {w : World} {br b off n c ps : Nat} {l L2 : List (BitVec 8)}  (hr : w.heap[br]? = some (.cells (rdr (.slice (some ⟨b, off, none⟩) n c) (ps : Int) 0).toArray 60 (0, 0))) (hS : SrcB (some ⟨b, off, none⟩) l w) (hO : Off br (some ⟨b, off, none⟩)) (hl : l.length = n) (hn : n ≤ 20000) (hc : n ≤ c) (hp : ps ≤ n) (hL0 : l.drop ps = 2#8 :: L2) (hx : L2.length < 4) :
    Calls Tryd.prog 40 #[.pointer (some ⟨br, 0, none⟩), .int .i64 (d : Int)] w fun o w' => ItemP w br b off n c ps d l o w' := by
  have hu_ := hS; clear hu_
  have hu_ := hO; clear hu_
  have hu_ := hl; clear hu_
  have hu_ := hn; clear hu_
  have hu_ := hc; clear hu_
  have hu_ := hp; clear hu_
  have HS := Lib.hid hS; have HO := Lib.hid hO; clear hS hO; have hbrw := lt_of_heap hr; have hLl : (l.drop ps).length = n - ps := by rw [List.length_drop, hl]
  obtain ⟨RES, hRS⟩ : ∃ z, rd d (l.drop ps) = z := ⟨_, rfl⟩; have HRES := Lib.hid hRS; clear hRS
  rw [hL0, List.length_cons] at hLl; have h1 : ps + 1 ≤ n := by omega
  have HD1 : Hid (l.drop (ps + 1) = L2) := Lib.hid (by rw [← List.drop_drop, hL0]; rfl)
  have HN1 : Hid ((nb ((l.drop ps).take 1)).toInt = 2) := Lib.hid (by rw [hL0]; exact nb1 2#8)
  have HLC := Lib.hid hL0; clear hL0
  have hre : RES = .error 4 := by rw [← HRES.out, HLC.out, rd_2, rdS, if_pos hx]
  have H := OwX.start hr
  go_enter Tryd.func40, Tryd.ntmps40
  go_upto_region 0 with fail
  refine Kr.seqStartW ?_
  refine Kr.seqR (by rfl) (fun K hK => ?_)
  refine wp_runV rfl newI ?_
  obtain ⟨y1, hy⟩ : ∃ y, w.alloc (.cells ([.int .i64 0, .int .i64 0, .slice none 0 0, .slice none 0 0]).toArray 25) = y := ⟨_, rfl⟩
  obtain ⟨bz, hb⟩ : ∃ b, w.heap.size = b := ⟨_, rfl⟩
  rw [hy, hb]
  have hg : Gr w y1 := hy ▸ (Gr.refl _).alloc _
  replace H := H.alloc hy hb
  clear hy hb hg
  (refine Kr.outS hK (a' := ?_) ?_ ?_; rotate_left; (focus ((try simp only [Kr.PT]); first | done | rfl))); clear hK K
  refine Kr.seqDoneW ?_
  go_upto_region 1 with fail
  refine Kr.seqStartW ?_
  (refine Kr.seqQ (v := ?_) (a' := ?_) (by rfl) ?_ ?_ ?_; rotate_left 2; (focus (go_simp; first | done | rfl)); (focus ((try simp only [Kr.PT]); first | done | rfl)))
  refine Kr.seqR (by rfl) (fun K hK => ?_)
  go_simp
  go_at_call 48
  refine (number_ok (m := 1) (H.at 1 rfl) (HS.out.growX HO.out H.g) HO.out hl (by omega) hc (h1) (by decide)).mono ?_
  rintro o9 y2 ⟨rfl, hh, hg⟩
  replace H := H.call 1 rfl hg hh; dsimp only [List.set] at H
  clear hh hg
  rw [HN1.out]
  (refine Kr.outS hK (a' := ?_) ?_ ?_; rotate_left; (focus ((try simp only [Kr.PT]); first | done | rfl))); clear hK K
  (refine Kr.seqQ (v := .agg #[.int .i64 2, .int .i64 0, .slice none 0 0, .slice none 0 0]) (a' := ?_) (by rfl) ?_ ?_ ?_; rotate_left 1; (focus (go_simp; first | done | rfl)); (focus ((try simp only [Kr.PT]); first | done | rfl)))
  refine Kr.seqR (by rfl) (fun K hK => ?_)
  refine wp_runV rfl newI ?_
  obtain ⟨y3, hy⟩ : ∃ y, y2.alloc (.cells ([.int .i64 0, .int .i64 0, .slice none 0 0, .slice none 0 0]).toArray 25) = y := ⟨_, rfl⟩
  obtain ⟨bi, hb⟩ : ∃ b, y2.heap.size = b := ⟨_, rfl⟩
  rw [hy, hb]
  have hg : Gr y2 y3 := hy ▸ (Gr.refl _).alloc _
  replace H := H.alloc hy hb
  clear hy hb hg
  (refine Kr.outS hK (a' := ?_) ?_ ?_; rotate_left; (focus ((try simp only [Kr.PT]); first | done | rfl))); clear hK K
  refine Kr.seqR (by rfl) (fun K hK => ?_)
  refine wp_run rfl (stI (H.at 0 rfl) one4) ?_
  obtain ⟨y4, hy⟩ : ∃ y, y3.setRow bi ([.int .i64 2, .int .i64 0, .slice none 0 0, .slice none 0 0]).toArray = y := ⟨_, rfl⟩
  rw [hy]
  replace H := H.put 0 hy rfl
  dsimp only [List.set] at H
  clear hy
  (refine Kr.outS hK (a' := ?_) ?_ ?_; rotate_left; (focus ((try simp only [Kr.PT]); first | done | rfl))); clear hK K
  refine Kr.seqDoneW ?_
  have K1 : decide (2 = (1 : Int)) = false := decide_eq_false (by decide)
  go_upto_region 3 with fail
  refine Kr.seqStartW ?_
  (refine Kr.seqQ (v := .pointer (some ⟨bi, 0, none⟩)) (a' := ?_) (by rfl) ?_ ?_ ?_; rotate_left 1; (focus (go_simp; first | done | rfl)); (focus ((try simp only [Kr.PT]); first | done | rfl)))
  (refine Kr.seqQ (v := .int .i64 2) (a' := ?_) (by rfl) ?_ ?_ ?_; rotate_left 1; (focus (exact Kr.valOf rfl (ldInt (rowCell (j := 0) (H.at 0 rfl) rfl)))); (focus ((try simp only [Kr.PT]); first | done | rfl)))
  (refine Kr.seqQ (v := .bool false) (a' := ?_) (by rfl) ?_ ?_ ?_; rotate_left 1; (focus (exact Kr.valOf rfl (eqlI K1))); (focus ((try simp only [Kr.PT]); first | done | rfl)))
  (refine Kr.seqQ (v := ?_) (a' := ?_) (by rfl) ?_ ?_ ?_; rotate_left 2; (focus (go_simp; first | done | rfl)); (focus ((try simp only [Kr.PT]); first | done | rfl)))
  refine Kr.seqDoneW ?_
  have K2 : decide (2 = (2 : Int)) = true := decide_eq_true (by rfl)
  go_upto_region 5 with fail
  refine Kr.seqStartW ?_
  (refine Kr.seqQ (v := .pointer (some ⟨bi, 0, none⟩)) (a' := ?_) (by rfl) ?_ ?_ ?_; rotate_left 1; (focus (go_simp; first | done | rfl)); (focus ((try simp only [Kr.PT]); first | done | rfl)))
  (refine Kr.seqQ (v := .int .i64 2) (a' := ?_) (by rfl) ?_ ?_ ?_; rotate_left 1; (focus (exact Kr.valOf rfl (ldInt (rowCell (j := 0) (H.at 0 rfl) rfl)))); (focus ((try simp only [Kr.PT]); first | done | rfl)))
  (refine Kr.seqQ (v := .bool true) (a' := ?_) (by rfl) ?_ ?_ ?_; rotate_left 1; (focus (exact Kr.valOf rfl (eqlI K2))); (focus ((try simp only [Kr.PT]); first | done | rfl)))
  (refine Kr.seqQ (v := ?_) (a' := ?_) (by rfl) ?_ ?_ ?_; rotate_left 2; (focus (go_simp; first | done | rfl)); (focus ((try simp only [Kr.PT]); first | done | rfl)))
  refine Kr.seqDoneW ?_
  go_upto_region 6 with fail
  refine Kr.seqStartW ?_
  (refine Kr.seqQ (v := ?_) (a' := ?_) (by rfl) ?_ ?_ ?_; rotate_left 2; (focus (go_simp; first | done | rfl)); (focus ((try simp only [Kr.PT]); first | done | rfl)))
  (refine Kr.seqQ (v := ?_) (a' := ?_) (by rfl) ?_ ?_ ?_; rotate_left 2; (focus (go_simp; first | done | rfl)); (focus ((try simp only [Kr.PT]); first | done | rfl)))
  refine Kr.seqR (by rfl) (fun K hK => ?_)
  go_simp
  go_at_call 48
  refine (number_end (m := 4) (H.at 2 rfl) (by omega) (h1) (by omega)).mono ?_
  rintro o9 y5 ⟨rfl, hh, hg⟩
  replace H := H.call 2 rfl hg hh; dsimp only [List.set] at H
  clear hh hg
  (refine Kr.outS hK (a' := ?_) ?_ ?_; rotate_left; (focus ((try simp only [Kr.PT]); first | done | rfl))); clear hK K
  refine Kr.seqR (by rfl) (fun K hK => ?_)
  go_simp
  go_at_call 49
  refine (take_dead (k := 0) (H.at 2 rfl) (by omega) h1 (by decide) h1).mono ?_
  rintro o9 y6 ⟨rfl, hh, hg⟩
  replace H := H.call 2 rfl hg hh; dsimp only [List.set] at H
  clear hh hg
  (refine Kr.outS hK (a' := ?_) ?_ ?_; rotate_left; (focus ((try simp only [Kr.PT]); first | done | rfl))); clear hK K
  (refine Kr.seqQ (v := ?_) (a' := ?_) (by rfl) ?_ ?_ ?_; rotate_left 2; (focus (go_simp; first | done | rfl)); (focus ((try simp only [Kr.PT]); first | done | rfl)))
  refine Kr.seqDoneW ?_
  go_upto_region 7 with fail
  refine Kr.seqStartW ?_
  (refine Kr.seqQ (v := .pointer (some ⟨bi, 2, none⟩)) (a' := ?_) (by rfl) ?_ ?_ ?_; rotate_left 1; (focus (go_simp; first | done | rfl)); (focus ((try simp only [Kr.PT]); first | done | rfl)))
  (refine Kr.seqQ (v := .slice none 0 0) (a' := ?_) (by rfl) ?_ ?_ ?_; rotate_left 1; (focus (exact Kr.valOf rfl (ldSl (rowCell (j := 2) (H.at 0 rfl) rfl)))); (focus ((try simp only [Kr.PT]); first | done | rfl)))
  (refine Kr.seqQ (v := ?_) (a' := ?_) (by rfl) ?_ ?_ ?_; rotate_left 2; (focus (go_simp; first | done | rfl)); (focus ((try simp only [Kr.PT]); first | done | rfl)))
  refine Kr.seqR (by rfl) (fun K hK => ?_)
  have hbi : bi < y6.heap.size := lt_of_heap (H.at 0 rfl)
  have hbz : bz < y6.heap.size := lt_of_heap (H.at 1 rfl)
  have hsw := H.g.size
  refine wp_appG (T := 5) (TS := 22) Tryd.underlying22 info8 rfl (.tmp 28) (.tmp 29) rfl (v := .slice none 0 0) (r := []) (d := (([] : List (BitVec 8))).map w8) (p := none) (m := 0) (c := 0) (rs := []) rfl rfl (by rw [List.length_map]; exact rfl) (.inl rfl) (one_lit8 ([] : List (BitVec 8))) (fun _ => rfl) (Ow.start y6) (RowG.nil 5 _ _) (Apt.none _) (by show 0 + _ ≤ _; omega) (by decide) ?_
  intro v9 y7 H3 hR3 _; rw [List.nil_append] at hR3; obtain ⟨p9, c9, hv9, hc9, hp9, _⟩ := hR3.src; rw [List.length_map, show (([] : List (BitVec 8))).length = 0 from rfl] at hv9 hc9; subst hv9
  have hit : ItV y7 (d + 1) (fun b => y6.heap.size ≤ b ∧ b < y7.heap.size) (.agg #[.int .i64 2, .int .i64 0, .slice p9 0 c9, .slice none 0 0]) (.mk 2 0 ([] : List (BitVec 8)) []) := itv_str rfl hp9 hc9 (by omega) (row_bytes hR3 rfl)
  have hg3 := H3.g; obtain ⟨FF, hFF⟩ : ∃ z : Nat → Prop, (fun b => y6.heap.size ≤ b ∧ b < y7.heap.size) = z := ⟨_, rfl⟩; rw [hFF] at hit
  have hFi : ¬ FF bi := by rw [← hFF]; exact fun h => by have := h.1; omega
  have hFz : ¬ FF bz := by rw [← hFF]; exact fun h => by have := h.1; omega
  have HFF : Hid (∀ b, FF b → w.heap.size ≤ b ∧ b < y7.heap.size) := Lib.hid (fun b hb => by rw [← hFF] at hb; exact ⟨Nat.le_trans hsw hb.1, hb.2⟩)
  have HIT := Lib.hid hit; have HSZ : Hid (y7.heap.size ≤ y7.heap.size) := Lib.hid (Nat.le_refl _); clear hit hFF hR3 hc9 hp9 H3 hsw hbi hbz
  replace H := H.grow hg3; clear hg3
  (refine Kr.outS hK (a' := ?_) ?_ ?_; rotate_left; (focus ((try simp only [Kr.PT]); first | done | rfl))); clear hK K
  (refine Kr.seqQ (v := .pointer (some ⟨bi, 2, none⟩)) (a' := ?_) (by rfl) ?_ ?_ ?_; rotate_left 1; (focus (go_simp; first | done | rfl)); (focus ((try simp only [Kr.PT]); first | done | rfl)))
  refine Kr.seqR (by rfl) (fun K hK => ?_)
  refine wp_run rfl (stSl (H.cell 0 rfl (show _ = some _ from rfl)) (H.frozen 0 rfl 2)) ?_
  have hkp := HIT.out.kept (same_set (W := y7) (b := bi) (j := 2) (u := .slice p9 0 c9) hFi); have hsz := Nat.le_trans HSZ.out (Nat.le_of_eq (size_set (W := y7) (a := ⟨bi, 2, none⟩) (u := .slice p9 0 c9)).symm)
  obtain ⟨y8, hy⟩ : ∃ y, y7.setCell ⟨bi, 2, none⟩ (.slice p9 0 c9) = y := ⟨_, rfl⟩; rw [hy]; rw [hy] at hkp hsz; replace HIT := Lib.hid hkp; replace HSZ := Lib.hid hsz; clear hkp hsz
  replace H := H.set 0 (2) hy rfl; dsimp only [List.set] at H; clear hy
  (refine Kr.outS hK (a' := ?_) ?_ ?_; rotate_left; (focus ((try simp only [Kr.PT]); first | done | rfl))); clear hK K
  refine Kr.seqDoneW ?_
  go_upto_region 10 with fail
  refine Kr.seqStartW ?_
  (refine Kr.seqQ (v := .agg #[.int .i64 2, .int .i64 0, .slice p9 0 c9, .slice none 0 0]) (a' := ?_) (by rfl) ?_ ?_ ?_; rotate_left 1; (focus (exact Kr.valOf rfl (ldI (H.at 0 rfl)))); (focus ((try simp only [Kr.PT]); first | done | rfl)))
  refine Kr.seqR (by rfl) (fun K hK => ?_)
  refine wp_run rfl (stI (H.at 1 rfl) one4) ?_
  have hkp := HIT.out.kept (same_put (W := y8) (b := bz) (cs := ([.int .i64 2, .int .i64 0, .slice p9 0 c9, .slice none 0 0] : List Value).toArray) hFz); have hsz := Nat.le_trans HSZ.out (Nat.le_of_eq (size_put (W := y8) (b := bz) (cs := ([.int .i64 2, .int .i64 0, .slice p9 0 c9, .slice none 0 0] : List Value).toArray)).symm)
  obtain ⟨y9, hy⟩ : ∃ y, y8.setRow bz ([.int .i64 2, .int .i64 0, .slice p9 0 c9, .slice none 0 0] : List Value).toArray = y := ⟨_, rfl⟩; rw [hy]; rw [hy] at hkp hsz; replace HIT := Lib.hid hkp; replace HSZ := Lib.hid hsz; clear hkp hsz
  replace H := H.put 1 hy rfl; dsimp only [List.set] at H; clear hy
  (refine Kr.outS hK (a' := ?_) ?_ ?_; rotate_left; (focus ((try simp only [Kr.PT]); first | done | rfl))); clear hK K
  refine Kr.seqDoneW ?_
  go_wp2
  refine bodyPost_ret (v := .agg #[.int .i64 2, .int .i64 0, .slice p9 0 c9, .slice none 0 0]) (results_cell_row rfl _ _ bz 25 _ _ _ (by rfl) (H.at 1 rfl) Tryd.underlying25 rfl (show _ = some 4 from infoI)) rfl ⟨.int .i64 2, .int .i64 0, .slice p9 0 c9, .slice none 0 0, ps + 1, 4, rfl, one4, H.at 2 rfl, H.g, h1, (by rw [HRES.out]; exact (out_err hre (by decide)))⟩
end Go.Proofs.YtcngcdfngifjnaaDoor.Dg


/- The reader: item (k2b). -/
namespace Go.Proofs.YtcngcdfngifjnaaDoor.Dg
open Go Go.RowKit Go.Proofs.YtcngcdfngifjnaaDoor.Ne Go.Proofs.YtcngcdfngifjnaaDoor.Kr

set_option linter.unusedSimpArgs false in
set_option maxRecDepth 100000 in
set_option maxHeartbeats 16000000 in
theorem item_k2b {d : Nat} {w : World} {br b off n c ps : Nat} {l L2 : List (BitVec 8)}  (hr : w.heap[br]? = some (.cells (rdr (.slice (some ⟨b, off, none⟩) n c) (ps : Int) 0).toArray 60 (0, 0))) (hS : SrcB (some ⟨b, off, none⟩) l w) (hO : Off br (some ⟨b, off, none⟩)) (hl : l.length = n) (hn : n ≤ 20000) (hc : n ≤ c) (hp : ps ≤ n) (hL0 : l.drop ps = 2#8 :: L2) (hx : ¬ L2.length < 4) (hy : (L2.drop 4).length < (nb (L2.take 4)).toNat) :
    Calls Tryd.prog 40 #[.pointer (some ⟨br, 0, none⟩), .int .i64 (d : Int)] w fun o w' => ItemP w br b off n c ps d l o w' := by
  have hu_ := hS; clear hu_
  have hu_ := hO; clear hu_
  have hu_ := hl; clear hu_
  have hu_ := hn; clear hu_
  have hu_ := hc; clear hu_
  have hu_ := hp; clear hu_
  have HS := Lib.hid hS; have HO := Lib.hid hO; clear hS hO; have hbrw := lt_of_heap hr; have hLl : (l.drop ps).length = n - ps := by rw [List.length_drop, hl]
  obtain ⟨RES, hRS⟩ : ∃ z, rd d (l.drop ps) = z := ⟨_, rfl⟩; have HRES := Lib.hid hRS; clear hRS
  rw [hL0, List.length_cons] at hLl; have h1 : ps + 1 ≤ n := by omega
  have HD1 : Hid (l.drop (ps + 1) = L2) := Lib.hid (by rw [← List.drop_drop, hL0]; rfl)
  have HN1 : Hid ((nb ((l.drop ps).take 1)).toInt = 2) := Lib.hid (by rw [hL0]; exact nb1 2#8)
  have HLC := Lib.hid hL0; clear hL0
  have h5 : ps + 1 + 4 ≤ n := by omega
  obtain ⟨q, hq⟩ : ∃ z, L2.take 4 = z := ⟨_, rfl⟩; have hqn := nb4 (show q.length = 4 by rw [← hq, List.length_take]; omega); obtain ⟨nn, hnn⟩ : ∃ z, (nb q).toNat = z := ⟨_, rfl⟩; rw [hnn] at hqn; have HQV : Hid ((nb ((l.drop (ps + 1)).take 4)).toInt = (nn : Int)) := Lib.hid (by rw [HD1.out, hq]; exact hqn.1); have hnnb := hqn.2; clear hqn
  rw [hq, hnn] at hy; have hL4 : (L2.drop 4).length = n - (ps + 5) := by rw [List.length_drop]; omega
  have hre : RES = .error 4 := by rw [← HRES.out, HLC.out, rd_2, rdS, if_neg hx, hq, hnn, if_pos hy]
  have hbn : n < ps + 1 + 4 + nn := by omega
  clear hq hnn hy hL4
  have H := OwX.start hr
  go_enter Tryd.func40, Tryd.ntmps40
  go_upto_region 0 with fail
  refine Kr.seqStartW ?_
  refine Kr.seqR (by rfl) (fun K hK => ?_)
  refine wp_runV rfl newI ?_
  obtain ⟨y1, hy⟩ : ∃ y, w.alloc (.cells ([.int .i64 0, .int .i64 0, .slice none 0 0, .slice none 0 0]).toArray 25) = y := ⟨_, rfl⟩
  obtain ⟨bz, hb⟩ : ∃ b, w.heap.size = b := ⟨_, rfl⟩
  rw [hy, hb]
  have hg : Gr w y1 := hy ▸ (Gr.refl _).alloc _
  replace H := H.alloc hy hb
  clear hy hb hg
  (refine Kr.outS hK (a' := ?_) ?_ ?_; rotate_left; (focus ((try simp only [Kr.PT]); first | done | rfl))); clear hK K
  refine Kr.seqDoneW ?_
  go_upto_region 1 with fail
  refine Kr.seqStartW ?_
  (refine Kr.seqQ (v := ?_) (a' := ?_) (by rfl) ?_ ?_ ?_; rotate_left 2; (focus (go_simp; first | done | rfl)); (focus ((try simp only [Kr.PT]); first | done | rfl)))
  refine Kr.seqR (by rfl) (fun K hK => ?_)
  go_simp
  go_at_call 48
  refine (number_ok (m := 1) (H.at 1 rfl) (HS.out.growX HO.out H.g) HO.out hl (by omega) hc (h1) (by decide)).mono ?_
  rintro o9 y2 ⟨rfl, hh, hg⟩
  replace H := H.call 1 rfl hg hh; dsimp only [List.set] at H
  clear hh hg
  rw [HN1.out]
  (refine Kr.outS hK (a' := ?_) ?_ ?_; rotate_left; (focus ((try simp only [Kr.PT]); first | done | rfl))); clear hK K
  (refine Kr.seqQ (v := .agg #[.int .i64 2, .int .i64 0, .slice none 0 0, .slice none 0 0]) (a' := ?_) (by rfl) ?_ ?_ ?_; rotate_left 1; (focus (go_simp; first | done | rfl)); (focus ((try simp only [Kr.PT]); first | done | rfl)))
  refine Kr.seqR (by rfl) (fun K hK => ?_)
  refine wp_runV rfl newI ?_
  obtain ⟨y3, hy⟩ : ∃ y, y2.alloc (.cells ([.int .i64 0, .int .i64 0, .slice none 0 0, .slice none 0 0]).toArray 25) = y := ⟨_, rfl⟩
  obtain ⟨bi, hb⟩ : ∃ b, y2.heap.size = b := ⟨_, rfl⟩
  rw [hy, hb]
  have hg : Gr y2 y3 := hy ▸ (Gr.refl _).alloc _
  replace H := H.alloc hy hb
  clear hy hb hg
  (refine Kr.outS hK (a' := ?_) ?_ ?_; rotate_left; (focus ((try simp only [Kr.PT]); first | done | rfl))); clear hK K
  refine Kr.seqR (by rfl) (fun K hK => ?_)
  refine wp_run rfl (stI (H.at 0 rfl) one4) ?_
  obtain ⟨y4, hy⟩ : ∃ y, y3.setRow bi ([.int .i64 2, .int .i64 0, .slice none 0 0, .slice none 0 0]).toArray = y := ⟨_, rfl⟩
  rw [hy]
  replace H := H.put 0 hy rfl
  dsimp only [List.set] at H
  clear hy
  (refine Kr.outS hK (a' := ?_) ?_ ?_; rotate_left; (focus ((try simp only [Kr.PT]); first | done | rfl))); clear hK K
  refine Kr.seqDoneW ?_
  have K1 : decide (2 = (1 : Int)) = false := decide_eq_false (by decide)
  go_upto_region 3 with fail
  refine Kr.seqStartW ?_
  (refine Kr.seqQ (v := .pointer (some ⟨bi, 0, none⟩)) (a' := ?_) (by rfl) ?_ ?_ ?_; rotate_left 1; (focus (go_simp; first | done | rfl)); (focus ((try simp only [Kr.PT]); first | done | rfl)))
  (refine Kr.seqQ (v := .int .i64 2) (a' := ?_) (by rfl) ?_ ?_ ?_; rotate_left 1; (focus (exact Kr.valOf rfl (ldInt (rowCell (j := 0) (H.at 0 rfl) rfl)))); (focus ((try simp only [Kr.PT]); first | done | rfl)))
  (refine Kr.seqQ (v := .bool false) (a' := ?_) (by rfl) ?_ ?_ ?_; rotate_left 1; (focus (exact Kr.valOf rfl (eqlI K1))); (focus ((try simp only [Kr.PT]); first | done | rfl)))
  (refine Kr.seqQ (v := ?_) (a' := ?_) (by rfl) ?_ ?_ ?_; rotate_left 2; (focus (go_simp; first | done | rfl)); (focus ((try simp only [Kr.PT]); first | done | rfl)))
  refine Kr.seqDoneW ?_
  have K2 : decide (2 = (2 : Int)) = true := decide_eq_true (by rfl)
  go_upto_region 5 with fail
  refine Kr.seqStartW ?_
  (refine Kr.seqQ (v := .pointer (some ⟨bi, 0, none⟩)) (a' := ?_) (by rfl) ?_ ?_ ?_; rotate_left 1; (focus (go_simp; first | done | rfl)); (focus ((try simp only [Kr.PT]); first | done | rfl)))
  (refine Kr.seqQ (v := .int .i64 2) (a' := ?_) (by rfl) ?_ ?_ ?_; rotate_left 1; (focus (exact Kr.valOf rfl (ldInt (rowCell (j := 0) (H.at 0 rfl) rfl)))); (focus ((try simp only [Kr.PT]); first | done | rfl)))
  (refine Kr.seqQ (v := .bool true) (a' := ?_) (by rfl) ?_ ?_ ?_; rotate_left 1; (focus (exact Kr.valOf rfl (eqlI K2))); (focus ((try simp only [Kr.PT]); first | done | rfl)))
  (refine Kr.seqQ (v := ?_) (a' := ?_) (by rfl) ?_ ?_ ?_; rotate_left 2; (focus (go_simp; first | done | rfl)); (focus ((try simp only [Kr.PT]); first | done | rfl)))
  refine Kr.seqDoneW ?_
  go_upto_region 6 with fail
  refine Kr.seqStartW ?_
  (refine Kr.seqQ (v := ?_) (a' := ?_) (by rfl) ?_ ?_ ?_; rotate_left 2; (focus (go_simp; first | done | rfl)); (focus ((try simp only [Kr.PT]); first | done | rfl)))
  (refine Kr.seqQ (v := ?_) (a' := ?_) (by rfl) ?_ ?_ ?_; rotate_left 2; (focus (go_simp; first | done | rfl)); (focus ((try simp only [Kr.PT]); first | done | rfl)))
  refine Kr.seqR (by rfl) (fun K hK => ?_)
  go_simp
  go_at_call 48
  refine (number_ok (m := 4) (H.at 2 rfl) (HS.out.growX HO.out H.g) HO.out hl (by omega) hc (h5) (by decide)).mono ?_
  rintro o9 y5 ⟨rfl, hh, hg⟩
  replace H := H.call 2 rfl hg hh; dsimp only [List.set] at H
  clear hh hg
  rw [HQV.out]
  (refine Kr.outS hK (a' := ?_) ?_ ?_; rotate_left; (focus ((try simp only [Kr.PT]); first | done | rfl))); clear hK K
  refine Kr.seqR (by rfl) (fun K hK => ?_)
  go_simp
  go_at_call 49
  refine (take_end (k := nn) (H.at 2 rfl) (by omega) h5 hbn).mono ?_
  rintro o9 y6 ⟨rfl, hh, hg⟩
  replace H := H.call 2 rfl hg hh; dsimp only [List.set] at H
  clear hh hg
  (refine Kr.outS hK (a' := ?_) ?_ ?_; rotate_left; (focus ((try simp only [Kr.PT]); first | done | rfl))); clear hK K
  (refine Kr.seqQ (v := ?_) (a' := ?_) (by rfl) ?_ ?_ ?_; rotate_left 2; (focus (go_simp; first | done | rfl)); (focus ((try simp only [Kr.PT]); first | done | rfl)))
  refine Kr.seqDoneW ?_
  go_upto_region 7 with fail
  refine Kr.seqStartW ?_
  (refine Kr.seqQ (v := .pointer (some ⟨bi, 2, none⟩)) (a' := ?_) (by rfl) ?_ ?_ ?_; rotate_left 1; (focus (go_simp; first | done | rfl)); (focus ((try simp only [Kr.PT]); first | done | rfl)))
  (refine Kr.seqQ (v := .slice none 0 0) (a' := ?_) (by rfl) ?_ ?_ ?_; rotate_left 1; (focus (exact Kr.valOf rfl (ldSl (rowCell (j := 2) (H.at 0 rfl) rfl)))); (focus ((try simp only [Kr.PT]); first | done | rfl)))
  (refine Kr.seqQ (v := ?_) (a' := ?_) (by rfl) ?_ ?_ ?_; rotate_left 2; (focus (go_simp; first | done | rfl)); (focus ((try simp only [Kr.PT]); first | done | rfl)))
  refine Kr.seqR (by rfl) (fun K hK => ?_)
  have hbi : bi < y6.heap.size := lt_of_heap (H.at 0 rfl)
  have hbz : bz < y6.heap.size := lt_of_heap (H.at 1 rfl)
  have hsw := H.g.size
  refine wp_appG (T := 5) (TS := 22) Tryd.underlying22 info8 rfl (.tmp 28) (.tmp 29) rfl (v := .slice none 0 0) (r := []) (d := (([] : List (BitVec 8))).map w8) (p := none) (m := 0) (c := 0) (rs := []) rfl rfl (by rw [List.length_map]; exact rfl) (.inl rfl) (one_lit8 ([] : List (BitVec 8))) (fun _ => rfl) (Ow.start y6) (RowG.nil 5 _ _) (Apt.none _) (by show 0 + _ ≤ _; omega) (by decide) ?_
  intro v9 y7 H3 hR3 _; rw [List.nil_append] at hR3; obtain ⟨p9, c9, hv9, hc9, hp9, _⟩ := hR3.src; rw [List.length_map, show (([] : List (BitVec 8))).length = 0 from rfl] at hv9 hc9; subst hv9
  have hit : ItV y7 (d + 1) (fun b => y6.heap.size ≤ b ∧ b < y7.heap.size) (.agg #[.int .i64 2, .int .i64 0, .slice p9 0 c9, .slice none 0 0]) (.mk 2 0 ([] : List (BitVec 8)) []) := itv_str rfl hp9 hc9 (by omega) (row_bytes hR3 rfl)
  have hg3 := H3.g; obtain ⟨FF, hFF⟩ : ∃ z : Nat → Prop, (fun b => y6.heap.size ≤ b ∧ b < y7.heap.size) = z := ⟨_, rfl⟩; rw [hFF] at hit
  have hFi : ¬ FF bi := by rw [← hFF]; exact fun h => by have := h.1; omega
  have hFz : ¬ FF bz := by rw [← hFF]; exact fun h => by have := h.1; omega
  have HFF : Hid (∀ b, FF b → w.heap.size ≤ b ∧ b < y7.heap.size) := Lib.hid (fun b hb => by rw [← hFF] at hb; exact ⟨Nat.le_trans hsw hb.1, hb.2⟩)
  have HIT := Lib.hid hit; have HSZ : Hid (y7.heap.size ≤ y7.heap.size) := Lib.hid (Nat.le_refl _); clear hit hFF hR3 hc9 hp9 H3 hsw hbi hbz
  replace H := H.grow hg3; clear hg3
  (refine Kr.outS hK (a' := ?_) ?_ ?_; rotate_left; (focus ((try simp only [Kr.PT]); first | done | rfl))); clear hK K
  (refine Kr.seqQ (v := .pointer (some ⟨bi, 2, none⟩)) (a' := ?_) (by rfl) ?_ ?_ ?_; rotate_left 1; (focus (go_simp; first | done | rfl)); (focus ((try simp only [Kr.PT]); first | done | rfl)))
  refine Kr.seqR (by rfl) (fun K hK => ?_)
  refine wp_run rfl (stSl (H.cell 0 rfl (show _ = some _ from rfl)) (H.frozen 0 rfl 2)) ?_
  have hkp := HIT.out.kept (same_set (W := y7) (b := bi) (j := 2) (u := .slice p9 0 c9) hFi); have hsz := Nat.le_trans HSZ.out (Nat.le_of_eq (size_set (W := y7) (a := ⟨bi, 2, none⟩) (u := .slice p9 0 c9)).symm)
  obtain ⟨y8, hy⟩ : ∃ y, y7.setCell ⟨bi, 2, none⟩ (.slice p9 0 c9) = y := ⟨_, rfl⟩; rw [hy]; rw [hy] at hkp hsz; replace HIT := Lib.hid hkp; replace HSZ := Lib.hid hsz; clear hkp hsz
  replace H := H.set 0 (2) hy rfl; dsimp only [List.set] at H; clear hy
  (refine Kr.outS hK (a' := ?_) ?_ ?_; rotate_left; (focus ((try simp only [Kr.PT]); first | done | rfl))); clear hK K
  refine Kr.seqDoneW ?_
  go_upto_region 10 with fail
  refine Kr.seqStartW ?_
  (refine Kr.seqQ (v := .agg #[.int .i64 2, .int .i64 0, .slice p9 0 c9, .slice none 0 0]) (a' := ?_) (by rfl) ?_ ?_ ?_; rotate_left 1; (focus (exact Kr.valOf rfl (ldI (H.at 0 rfl)))); (focus ((try simp only [Kr.PT]); first | done | rfl)))
  refine Kr.seqR (by rfl) (fun K hK => ?_)
  refine wp_run rfl (stI (H.at 1 rfl) one4) ?_
  have hkp := HIT.out.kept (same_put (W := y8) (b := bz) (cs := ([.int .i64 2, .int .i64 0, .slice p9 0 c9, .slice none 0 0] : List Value).toArray) hFz); have hsz := Nat.le_trans HSZ.out (Nat.le_of_eq (size_put (W := y8) (b := bz) (cs := ([.int .i64 2, .int .i64 0, .slice p9 0 c9, .slice none 0 0] : List Value).toArray)).symm)
  obtain ⟨y9, hy⟩ : ∃ y, y8.setRow bz ([.int .i64 2, .int .i64 0, .slice p9 0 c9, .slice none 0 0] : List Value).toArray = y := ⟨_, rfl⟩; rw [hy]; rw [hy] at hkp hsz; replace HIT := Lib.hid hkp; replace HSZ := Lib.hid hsz; clear hkp hsz
  replace H := H.put 1 hy rfl; dsimp only [List.set] at H; clear hy
  (refine Kr.outS hK (a' := ?_) ?_ ?_; rotate_left; (focus ((try simp only [Kr.PT]); first | done | rfl))); clear hK K
  refine Kr.seqDoneW ?_
  go_wp2
  refine bodyPost_ret (v := .agg #[.int .i64 2, .int .i64 0, .slice p9 0 c9, .slice none 0 0]) (results_cell_row rfl _ _ bz 25 _ _ _ (by rfl) (H.at 1 rfl) Tryd.underlying25 rfl (show _ = some 4 from infoI)) rfl ⟨.int .i64 2, .int .i64 0, .slice p9 0 c9, .slice none 0 0, ps + 1 + 4, 4, rfl, one4, H.at 2 rfl, H.g, h5, (by rw [HRES.out]; exact (out_err hre (by decide)))⟩
end Go.Proofs.YtcngcdfngifjnaaDoor.Dg


/- The reader: item (k2c). -/
namespace Go.Proofs.YtcngcdfngifjnaaDoor.Dg
open Go Go.RowKit Go.Proofs.YtcngcdfngifjnaaDoor.Ne Go.Proofs.YtcngcdfngifjnaaDoor.Kr

set_option linter.unusedSimpArgs false in
set_option maxRecDepth 100000 in
set_option maxHeartbeats 16000000 in
theorem item_k2c {d : Nat} {w : World} {br b off n c ps : Nat} {l L2 : List (BitVec 8)}  (hr : w.heap[br]? = some (.cells (rdr (.slice (some ⟨b, off, none⟩) n c) (ps : Int) 0).toArray 60 (0, 0))) (hS : SrcB (some ⟨b, off, none⟩) l w) (hO : Off br (some ⟨b, off, none⟩)) (hl : l.length = n) (hn : n ≤ 20000) (hc : n ≤ c) (hp : ps ≤ n) (hL0 : l.drop ps = 2#8 :: L2) (hx : ¬ L2.length < 4) (hy : ¬ (L2.drop 4).length < (nb (L2.take 4)).toNat) :
    Calls Tryd.prog 40 #[.pointer (some ⟨br, 0, none⟩), .int .i64 (d : Int)] w fun o w' => ItemP w br b off n c ps d l o w' := by
  have hu_ := hS; clear hu_
  have hu_ := hO; clear hu_
  have hu_ := hl; clear hu_
  have hu_ := hn; clear hu_
  have hu_ := hc; clear hu_
  have hu_ := hp; clear hu_
  have HS := Lib.hid hS; have HO := Lib.hid hO; clear hS hO; have hbrw := lt_of_heap hr; have hLl : (l.drop ps).length = n - ps := by rw [List.length_drop, hl]
  obtain ⟨RES, hRS⟩ : ∃ z, rd d (l.drop ps) = z := ⟨_, rfl⟩; have HRES := Lib.hid hRS; clear hRS
  rw [hL0, List.length_cons] at hLl; have h1 : ps + 1 ≤ n := by omega
  have HD1 : Hid (l.drop (ps + 1) = L2) := Lib.hid (by rw [← List.drop_drop, hL0]; rfl)
  have HN1 : Hid ((nb ((l.drop ps).take 1)).toInt = 2) := Lib.hid (by rw [hL0]; exact nb1 2#8)
  have HLC := Lib.hid hL0; clear hL0
  have h5 : ps + 1 + 4 ≤ n := by omega
  obtain ⟨q, hq⟩ : ∃ z, L2.take 4 = z := ⟨_, rfl⟩; have hqn := nb4 (show q.length = 4 by rw [← hq, List.length_take]; omega); obtain ⟨nn, hnn⟩ : ∃ z, (nb q).toNat = z := ⟨_, rfl⟩; rw [hnn] at hqn; have HQV : Hid ((nb ((l.drop (ps + 1)).take 4)).toInt = (nn : Int)) := Lib.hid (by rw [HD1.out, hq]; exact hqn.1); have hnnb := hqn.2; clear hqn
  rw [hq, hnn] at hy; have hL4 : (L2.drop 4).length = n - (ps + 5) := by rw [List.length_drop]; omega
  have hbn : ps + 1 + 4 + nn ≤ n := by omega
  obtain ⟨D, hD⟩ : ∃ z, (L2.drop 4).take nn = z := ⟨_, rfl⟩; have hDl : D.length = nn := by rw [← hD, List.length_take]; omega
  have HRE : Hid (RES = .ok (.mk 2 0 D [], 5 + nn)) := Lib.hid (by rw [← HRES.out, HLC.out, rd_2, rdS, if_neg hx, hq, hnn, if_neg hy, hD]); have HDD : Hid ((l.drop (ps + 1 + 4)).take nn = D) := Lib.hid (by rw [← List.drop_drop, HD1.out]; exact hD); clear hD
  clear hq hnn hy hL4
  have H := OwX.start hr
  go_enter Tryd.func40, Tryd.ntmps40
  go_upto_region 0 with fail
  refine Kr.seqStartW ?_
  refine Kr.seqR (by rfl) (fun K hK => ?_)
  refine wp_runV rfl newI ?_
  obtain ⟨y1, hy⟩ : ∃ y, w.alloc (.cells ([.int .i64 0, .int .i64 0, .slice none 0 0, .slice none 0 0]).toArray 25) = y := ⟨_, rfl⟩
  obtain ⟨bz, hb⟩ : ∃ b, w.heap.size = b := ⟨_, rfl⟩
  rw [hy, hb]
  have hg : Gr w y1 := hy ▸ (Gr.refl _).alloc _
  replace H := H.alloc hy hb
  clear hy hb hg
  (refine Kr.outS hK (a' := ?_) ?_ ?_; rotate_left; (focus ((try simp only [Kr.PT]); first | done | rfl))); clear hK K
  refine Kr.seqDoneW ?_
  go_upto_region 1 with fail
  refine Kr.seqStartW ?_
  (refine Kr.seqQ (v := ?_) (a' := ?_) (by rfl) ?_ ?_ ?_; rotate_left 2; (focus (go_simp; first | done | rfl)); (focus ((try simp only [Kr.PT]); first | done | rfl)))
  refine Kr.seqR (by rfl) (fun K hK => ?_)
  go_simp
  go_at_call 48
  refine (number_ok (m := 1) (H.at 1 rfl) (HS.out.growX HO.out H.g) HO.out hl (by omega) hc (h1) (by decide)).mono ?_
  rintro o9 y2 ⟨rfl, hh, hg⟩
  replace H := H.call 1 rfl hg hh; dsimp only [List.set] at H
  clear hh hg
  rw [HN1.out]
  (refine Kr.outS hK (a' := ?_) ?_ ?_; rotate_left; (focus ((try simp only [Kr.PT]); first | done | rfl))); clear hK K
  (refine Kr.seqQ (v := .agg #[.int .i64 2, .int .i64 0, .slice none 0 0, .slice none 0 0]) (a' := ?_) (by rfl) ?_ ?_ ?_; rotate_left 1; (focus (go_simp; first | done | rfl)); (focus ((try simp only [Kr.PT]); first | done | rfl)))
  refine Kr.seqR (by rfl) (fun K hK => ?_)
  refine wp_runV rfl newI ?_
  obtain ⟨y3, hy⟩ : ∃ y, y2.alloc (.cells ([.int .i64 0, .int .i64 0, .slice none 0 0, .slice none 0 0]).toArray 25) = y := ⟨_, rfl⟩
  obtain ⟨bi, hb⟩ : ∃ b, y2.heap.size = b := ⟨_, rfl⟩
  rw [hy, hb]
  have hg : Gr y2 y3 := hy ▸ (Gr.refl _).alloc _
  replace H := H.alloc hy hb
  clear hy hb hg
  (refine Kr.outS hK (a' := ?_) ?_ ?_; rotate_left; (focus ((try simp only [Kr.PT]); first | done | rfl))); clear hK K
  refine Kr.seqR (by rfl) (fun K hK => ?_)
  refine wp_run rfl (stI (H.at 0 rfl) one4) ?_
  obtain ⟨y4, hy⟩ : ∃ y, y3.setRow bi ([.int .i64 2, .int .i64 0, .slice none 0 0, .slice none 0 0]).toArray = y := ⟨_, rfl⟩
  rw [hy]
  replace H := H.put 0 hy rfl
  dsimp only [List.set] at H
  clear hy
  (refine Kr.outS hK (a' := ?_) ?_ ?_; rotate_left; (focus ((try simp only [Kr.PT]); first | done | rfl))); clear hK K
  refine Kr.seqDoneW ?_
  have K1 : decide (2 = (1 : Int)) = false := decide_eq_false (by decide)
  go_upto_region 3 with fail
  refine Kr.seqStartW ?_
  (refine Kr.seqQ (v := .pointer (some ⟨bi, 0, none⟩)) (a' := ?_) (by rfl) ?_ ?_ ?_; rotate_left 1; (focus (go_simp; first | done | rfl)); (focus ((try simp only [Kr.PT]); first | done | rfl)))
  (refine Kr.seqQ (v := .int .i64 2) (a' := ?_) (by rfl) ?_ ?_ ?_; rotate_left 1; (focus (exact Kr.valOf rfl (ldInt (rowCell (j := 0) (H.at 0 rfl) rfl)))); (focus ((try simp only [Kr.PT]); first | done | rfl)))
  (refine Kr.seqQ (v := .bool false) (a' := ?_) (by rfl) ?_ ?_ ?_; rotate_left 1; (focus (exact Kr.valOf rfl (eqlI K1))); (focus ((try simp only [Kr.PT]); first | done | rfl)))
  (refine Kr.seqQ (v := ?_) (a' := ?_) (by rfl) ?_ ?_ ?_; rotate_left 2; (focus (go_simp; first | done | rfl)); (focus ((try simp only [Kr.PT]); first | done | rfl)))
  refine Kr.seqDoneW ?_
  have K2 : decide (2 = (2 : Int)) = true := decide_eq_true (by rfl)
  go_upto_region 5 with fail
  refine Kr.seqStartW ?_
  (refine Kr.seqQ (v := .pointer (some ⟨bi, 0, none⟩)) (a' := ?_) (by rfl) ?_ ?_ ?_; rotate_left 1; (focus (go_simp; first | done | rfl)); (focus ((try simp only [Kr.PT]); first | done | rfl)))
  (refine Kr.seqQ (v := .int .i64 2) (a' := ?_) (by rfl) ?_ ?_ ?_; rotate_left 1; (focus (exact Kr.valOf rfl (ldInt (rowCell (j := 0) (H.at 0 rfl) rfl)))); (focus ((try simp only [Kr.PT]); first | done | rfl)))
  (refine Kr.seqQ (v := .bool true) (a' := ?_) (by rfl) ?_ ?_ ?_; rotate_left 1; (focus (exact Kr.valOf rfl (eqlI K2))); (focus ((try simp only [Kr.PT]); first | done | rfl)))
  (refine Kr.seqQ (v := ?_) (a' := ?_) (by rfl) ?_ ?_ ?_; rotate_left 2; (focus (go_simp; first | done | rfl)); (focus ((try simp only [Kr.PT]); first | done | rfl)))
  refine Kr.seqDoneW ?_
  go_upto_region 6 with fail
  refine Kr.seqStartW ?_
  (refine Kr.seqQ (v := ?_) (a' := ?_) (by rfl) ?_ ?_ ?_; rotate_left 2; (focus (go_simp; first | done | rfl)); (focus ((try simp only [Kr.PT]); first | done | rfl)))
  (refine Kr.seqQ (v := ?_) (a' := ?_) (by rfl) ?_ ?_ ?_; rotate_left 2; (focus (go_simp; first | done | rfl)); (focus ((try simp only [Kr.PT]); first | done | rfl)))
  refine Kr.seqR (by rfl) (fun K hK => ?_)
  go_simp
  go_at_call 48
  refine (number_ok (m := 4) (H.at 2 rfl) (HS.out.growX HO.out H.g) HO.out hl (by omega) hc (h5) (by decide)).mono ?_
  rintro o9 y5 ⟨rfl, hh, hg⟩
  replace H := H.call 2 rfl hg hh; dsimp only [List.set] at H
  clear hh hg
  rw [HQV.out]
  (refine Kr.outS hK (a' := ?_) ?_ ?_; rotate_left; (focus ((try simp only [Kr.PT]); first | done | rfl))); clear hK K
  refine Kr.seqR (by rfl) (fun K hK => ?_)
  go_simp
  go_at_call 49
  refine (take_ok (k := nn) (H.at 2 rfl) (by omega) hc hbn).mono ?_
  rintro o9 y6 ⟨rfl, hh, hg⟩
  replace H := H.call 2 rfl hg hh; dsimp only [List.set] at H
  clear hh hg
  (refine Kr.outS hK (a' := ?_) ?_ ?_; rotate_left; (focus ((try simp only [Kr.PT]); first | done | rfl))); clear hK K
  (refine Kr.seqQ (v := ?_) (a' := ?_) (by rfl) ?_ ?_ ?_; rotate_left 2; (focus (go_simp; first | done | rfl)); (focus ((try simp only [Kr.PT]); first | done | rfl)))
  refine Kr.seqDoneW ?_
  go_upto_region 7 with fail
  refine Kr.seqStartW ?_
  (refine Kr.seqQ (v := .pointer (some ⟨bi, 2, none⟩)) (a' := ?_) (by rfl) ?_ ?_ ?_; rotate_left 1; (focus (go_simp; first | done | rfl)); (focus ((try simp only [Kr.PT]); first | done | rfl)))
  (refine Kr.seqQ (v := .slice none 0 0) (a' := ?_) (by rfl) ?_ ?_ ?_; rotate_left 1; (focus (exact Kr.valOf rfl (ldSl (rowCell (j := 2) (H.at 0 rfl) rfl)))); (focus ((try simp only [Kr.PT]); first | done | rfl)))
  (refine Kr.seqQ (v := ?_) (a' := ?_) (by rfl) ?_ ?_ ?_; rotate_left 2; (focus (go_simp; first | done | rfl)); (focus ((try simp only [Kr.PT]); first | done | rfl)))
  refine Kr.seqR (by rfl) (fun K hK => ?_)
  have hbi : bi < y6.heap.size := lt_of_heap (H.at 0 rfl)
  have hbz : bz < y6.heap.size := lt_of_heap (H.at 1 rfl)
  have hsw := H.g.size
  refine wp_appG (T := 5) (TS := 22) Tryd.underlying22 info8 rfl (.tmp 28) (.tmp 29) rfl (v := .slice none 0 0) (r := []) (d := (D).map w8) (p := some (cutA b off c (ps + 1 + 4))) (m := nn) (c := c - (ps + 1 + 4)) (rs := []) rfl rfl (by rw [List.length_map]; exact hDl) ((HDD.out ▸ srcB_cut (HS.out.growX HO.out H.g) hl hc hbn : SrcB _ D _).srcG) (one_lit8 D) (fun e => by cases e) (Ow.start y6) (RowG.nil 5 _ _) (Apt.none _) (by show 0 + _ ≤ _; omega) (by decide) ?_
  intro v9 y7 H3 hR3 _; rw [List.nil_append] at hR3; obtain ⟨p9, c9, hv9, hc9, hp9, _⟩ := hR3.src; rw [List.length_map, show (D).length = nn from hDl] at hv9 hc9; subst hv9
  have hit : ItV y7 (d + 1) (fun b => y6.heap.size ≤ b ∧ b < y7.heap.size) (.agg #[.int .i64 2, .int .i64 0, .slice p9 nn c9, .slice none 0 0]) (.mk 2 0 D []) := itv_str hDl hp9 hc9 (by omega) (row_bytes hR3 hDl)
  have hg3 := H3.g; obtain ⟨FF, hFF⟩ : ∃ z : Nat → Prop, (fun b => y6.heap.size ≤ b ∧ b < y7.heap.size) = z := ⟨_, rfl⟩; rw [hFF] at hit
  have hFi : ¬ FF bi := by rw [← hFF]; exact fun h => by have := h.1; omega
  have hFz : ¬ FF bz := by rw [← hFF]; exact fun h => by have := h.1; omega
  have HFF : Hid (∀ b, FF b → w.heap.size ≤ b ∧ b < y7.heap.size) := Lib.hid (fun b hb => by rw [← hFF] at hb; exact ⟨Nat.le_trans hsw hb.1, hb.2⟩)
  have HIT := Lib.hid hit; have HSZ : Hid (y7.heap.size ≤ y7.heap.size) := Lib.hid (Nat.le_refl _); clear hit hFF hR3 hc9 hp9 H3 hsw hbi hbz
  replace H := H.grow hg3; clear hg3
  (refine Kr.outS hK (a' := ?_) ?_ ?_; rotate_left; (focus ((try simp only [Kr.PT]); first | done | rfl))); clear hK K
  (refine Kr.seqQ (v := .pointer (some ⟨bi, 2, none⟩)) (a' := ?_) (by rfl) ?_ ?_ ?_; rotate_left 1; (focus (go_simp; first | done | rfl)); (focus ((try simp only [Kr.PT]); first | done | rfl)))
  refine Kr.seqR (by rfl) (fun K hK => ?_)
  refine wp_run rfl (stSl (H.cell 0 rfl (show _ = some _ from rfl)) (H.frozen 0 rfl 2)) ?_
  have hkp := HIT.out.kept (same_set (W := y7) (b := bi) (j := 2) (u := .slice p9 nn c9) hFi); have hsz := Nat.le_trans HSZ.out (Nat.le_of_eq (size_set (W := y7) (a := ⟨bi, 2, none⟩) (u := .slice p9 nn c9)).symm)
  obtain ⟨y8, hy⟩ : ∃ y, y7.setCell ⟨bi, 2, none⟩ (.slice p9 nn c9) = y := ⟨_, rfl⟩; rw [hy]; rw [hy] at hkp hsz; replace HIT := Lib.hid hkp; replace HSZ := Lib.hid hsz; clear hkp hsz
  replace H := H.set 0 (2) hy rfl; dsimp only [List.set] at H; clear hy
  (refine Kr.outS hK (a' := ?_) ?_ ?_; rotate_left; (focus ((try simp only [Kr.PT]); first | done | rfl))); clear hK K
  refine Kr.seqDoneW ?_
  go_upto_region 10 with fail
  refine Kr.seqStartW ?_
  (refine Kr.seqQ (v := .agg #[.int .i64 2, .int .i64 0, .slice p9 nn c9, .slice none 0 0]) (a' := ?_) (by rfl) ?_ ?_ ?_; rotate_left 1; (focus (exact Kr.valOf rfl (ldI (H.at 0 rfl)))); (focus ((try simp only [Kr.PT]); first | done | rfl)))
  refine Kr.seqR (by rfl) (fun K hK => ?_)
  refine wp_run rfl (stI (H.at 1 rfl) one4) ?_
  have hkp := HIT.out.kept (same_put (W := y8) (b := bz) (cs := ([.int .i64 2, .int .i64 0, .slice p9 nn c9, .slice none 0 0] : List Value).toArray) hFz); have hsz := Nat.le_trans HSZ.out (Nat.le_of_eq (size_put (W := y8) (b := bz) (cs := ([.int .i64 2, .int .i64 0, .slice p9 nn c9, .slice none 0 0] : List Value).toArray)).symm)
  obtain ⟨y9, hy⟩ : ∃ y, y8.setRow bz ([.int .i64 2, .int .i64 0, .slice p9 nn c9, .slice none 0 0] : List Value).toArray = y := ⟨_, rfl⟩; rw [hy]; rw [hy] at hkp hsz; replace HIT := Lib.hid hkp; replace HSZ := Lib.hid hsz; clear hkp hsz
  replace H := H.put 1 hy rfl; dsimp only [List.set] at H; clear hy
  (refine Kr.outS hK (a' := ?_) ?_ ?_; rotate_left; (focus ((try simp only [Kr.PT]); first | done | rfl))); clear hK K
  refine Kr.seqDoneW ?_
  go_wp2
  refine bodyPost_ret (v := .agg #[.int .i64 2, .int .i64 0, .slice p9 nn c9, .slice none 0 0]) (results_cell_row rfl _ _ bz 25 _ _ _ (by rfl) (H.at 1 rfl) Tryd.underlying25 rfl (show _ = some 4 from infoI)) rfl ⟨.int .i64 2, .int .i64 0, .slice p9 nn c9, .slice none 0 0, ps + 1 + 4 + nn, 0, rfl, one4, H.at 2 rfl, H.g, hbn, (by rw [HRES.out]; exact (by rw [HRE.out]; exact ⟨rfl, by omega, HIT.out.mono (fun b hb => ⟨(HFF.out b hb).1, Nat.lt_of_lt_of_le (HFF.out b hb).2 HSZ.out⟩)⟩))⟩
end Go.Proofs.YtcngcdfngifjnaaDoor.Dg


/- The reader: item (k3). -/
namespace Go.Proofs.YtcngcdfngifjnaaDoor.Dg
open Go Go.RowKit Go.Proofs.YtcngcdfngifjnaaDoor.Ne Go.Proofs.YtcngcdfngifjnaaDoor.Kr

set_option linter.unusedSimpArgs false in
set_option maxRecDepth 100000 in
set_option maxHeartbeats 16000000 in
theorem item_k3 {d : Nat} {w : World} {br b off n c ps : Nat} {l L2 : List (BitVec 8)}  (hr : w.heap[br]? = some (.cells (rdr (.slice (some ⟨b, off, none⟩) n c) (ps : Int) 0).toArray 60 (0, 0))) (hS : SrcB (some ⟨b, off, none⟩) l w) (hO : Off br (some ⟨b, off, none⟩)) (hl : l.length = n) (hn : n ≤ 20000) (hc : n ≤ c) (hp : ps ≤ n) (hL0 : l.drop ps = 3#8 :: L2) (hd : d ≤ 1000) (ih : ∀ {w : World} {br b off n c ps : Nat} {l : List (BitVec 8)} (_ : w.heap[br]? = some (.cells (rdr (.slice (some ⟨b, off, none⟩) n c) (ps : Int) 0).toArray 60 (0, 0))) (_ : SrcB (some ⟨b, off, none⟩) l w) (_ : Off br (some ⟨b, off, none⟩)) (_ : l.length = n) (_ : n ≤ 20000) (_ : n ≤ c) (_ : ps ≤ n), Calls Tryd.prog 50 #[.pointer (some ⟨br, 0, none⟩), .int .i64 (d : Int)] w fun o w' => ItemsP w br b off n c ps d l o w') :
    Calls Tryd.prog 40 #[.pointer (some ⟨br, 0, none⟩), .int .i64 ((d + 1 : Nat) : Int)] w fun o w' => ItemP w br b off n c ps (d + 1) l o w' := by
  have hu_ := hS; clear hu_
  have hu_ := hO; clear hu_
  have hu_ := hl; clear hu_
  have hu_ := hn; clear hu_
  have hu_ := hc; clear hu_
  have hu_ := hp; clear hu_
  have HS := Lib.hid hS; have HO := Lib.hid hO; clear hS hO; have hbrw := lt_of_heap hr; have hLl : (l.drop ps).length = n - ps := by rw [List.length_drop, hl]
  obtain ⟨RES, hRS⟩ : ∃ z, rd (d + 1) (l.drop ps) = z := ⟨_, rfl⟩; have HRES := Lib.hid hRS; clear hRS
  rw [hL0, List.length_cons] at hLl; have h1 : ps + 1 ≤ n := by omega
  have HD1 : Hid (l.drop (ps + 1) = L2) := Lib.hid (by rw [← List.drop_drop, hL0]; rfl)
  have HN1 : Hid ((nb ((l.drop ps).take 1)).toInt = 3) := Lib.hid (by rw [hL0]; exact nb1 3#8)
  have HLC := Lib.hid hL0; clear hL0
  have HRE : Hid (RES = sh1 (rdB (rd d) L2)) := Lib.hid (by rw [← HRES.out, HLC.out]; exact rd_3 L2 d)
  have hsub : IntKind.i64.wrap (((d + 1 : Nat) : Int) - 1) = (d : Int) := wrap_nat (by omega) (by omega)
  have H := OwX.start hr
  go_enter Tryd.func40, Tryd.ntmps40
  go_upto_region 0 with fail
  refine Kr.seqStartW ?_
  refine Kr.seqR (by rfl) (fun K hK => ?_)
  refine wp_runV rfl newI ?_
  obtain ⟨y1, hy⟩ : ∃ y, w.alloc (.cells ([.int .i64 0, .int .i64 0, .slice none 0 0, .slice none 0 0]).toArray 25) = y := ⟨_, rfl⟩
  obtain ⟨bz, hb⟩ : ∃ b, w.heap.size = b := ⟨_, rfl⟩
  rw [hy, hb]
  have hg : Gr w y1 := hy ▸ (Gr.refl _).alloc _
  replace H := H.alloc hy hb
  clear hy hb hg
  (refine Kr.outS hK (a' := ?_) ?_ ?_; rotate_left; (focus ((try simp only [Kr.PT]); first | done | rfl))); clear hK K
  refine Kr.seqDoneW ?_
  go_upto_region 1 with fail
  refine Kr.seqStartW ?_
  (refine Kr.seqQ (v := ?_) (a' := ?_) (by rfl) ?_ ?_ ?_; rotate_left 2; (focus (go_simp; first | done | rfl)); (focus ((try simp only [Kr.PT]); first | done | rfl)))
  refine Kr.seqR (by rfl) (fun K hK => ?_)
  go_simp
  go_at_call 48
  refine (number_ok (m := 1) (H.at 1 rfl) (HS.out.growX HO.out H.g) HO.out hl (by omega) hc (h1) (by decide)).mono ?_
  rintro o9 y2 ⟨rfl, hh, hg⟩
  replace H := H.call 1 rfl hg hh; dsimp only [List.set] at H
  clear hh hg
  rw [HN1.out]
  (refine Kr.outS hK (a' := ?_) ?_ ?_; rotate_left; (focus ((try simp only [Kr.PT]); first | done | rfl))); clear hK K
  (refine Kr.seqQ (v := .agg #[.int .i64 3, .int .i64 0, .slice none 0 0, .slice none 0 0]) (a' := ?_) (by rfl) ?_ ?_ ?_; rotate_left 1; (focus (go_simp; first | done | rfl)); (focus ((try simp only [Kr.PT]); first | done | rfl)))
  refine Kr.seqR (by rfl) (fun K hK => ?_)
  refine wp_runV rfl newI ?_
  obtain ⟨y3, hy⟩ : ∃ y, y2.alloc (.cells ([.int .i64 0, .int .i64 0, .slice none 0 0, .slice none 0 0]).toArray 25) = y := ⟨_, rfl⟩
  obtain ⟨bi, hb⟩ : ∃ b, y2.heap.size = b := ⟨_, rfl⟩
  rw [hy, hb]
  have hg : Gr y2 y3 := hy ▸ (Gr.refl _).alloc _
  replace H := H.alloc hy hb
  clear hy hb hg
  (refine Kr.outS hK (a' := ?_) ?_ ?_; rotate_left; (focus ((try simp only [Kr.PT]); first | done | rfl))); clear hK K
  refine Kr.seqR (by rfl) (fun K hK => ?_)
  refine wp_run rfl (stI (H.at 0 rfl) one4) ?_
  obtain ⟨y4, hy⟩ : ∃ y, y3.setRow bi ([.int .i64 3, .int .i64 0, .slice none 0 0, .slice none 0 0]).toArray = y := ⟨_, rfl⟩
  rw [hy]
  replace H := H.put 0 hy rfl
  dsimp only [List.set] at H
  clear hy
  (refine Kr.outS hK (a' := ?_) ?_ ?_; rotate_left; (focus ((try simp only [Kr.PT]); first | done | rfl))); clear hK K
  refine Kr.seqDoneW ?_
  have K1 : decide (3 = (1 : Int)) = false := decide_eq_false (by decide)
  go_upto_region 3 with fail
  refine Kr.seqStartW ?_
  (refine Kr.seqQ (v := .pointer (some ⟨bi, 0, none⟩)) (a' := ?_) (by rfl) ?_ ?_ ?_; rotate_left 1; (focus (go_simp; first | done | rfl)); (focus ((try simp only [Kr.PT]); first | done | rfl)))
  (refine Kr.seqQ (v := .int .i64 3) (a' := ?_) (by rfl) ?_ ?_ ?_; rotate_left 1; (focus (exact Kr.valOf rfl (ldInt (rowCell (j := 0) (H.at 0 rfl) rfl)))); (focus ((try simp only [Kr.PT]); first | done | rfl)))
  (refine Kr.seqQ (v := .bool false) (a' := ?_) (by rfl) ?_ ?_ ?_; rotate_left 1; (focus (exact Kr.valOf rfl (eqlI K1))); (focus ((try simp only [Kr.PT]); first | done | rfl)))
  (refine Kr.seqQ (v := ?_) (a' := ?_) (by rfl) ?_ ?_ ?_; rotate_left 2; (focus (go_simp; first | done | rfl)); (focus ((try simp only [Kr.PT]); first | done | rfl)))
  refine Kr.seqDoneW ?_
  have K2 : decide (3 = (2 : Int)) = false := decide_eq_false (by decide)
  go_upto_region 5 with fail
  refine Kr.seqStartW ?_
  (refine Kr.seqQ (v := .pointer (some ⟨bi, 0, none⟩)) (a' := ?_) (by rfl) ?_ ?_ ?_; rotate_left 1; (focus (go_simp; first | done | rfl)); (focus ((try simp only [Kr.PT]); first | done | rfl)))
  (refine Kr.seqQ (v := .int .i64 3) (a' := ?_) (by rfl) ?_ ?_ ?_; rotate_left 1; (focus (exact Kr.valOf rfl (ldInt (rowCell (j := 0) (H.at 0 rfl) rfl)))); (focus ((try simp only [Kr.PT]); first | done | rfl)))
  (refine Kr.seqQ (v := .bool false) (a' := ?_) (by rfl) ?_ ?_ ?_; rotate_left 1; (focus (exact Kr.valOf rfl (eqlI K2))); (focus ((try simp only [Kr.PT]); first | done | rfl)))
  (refine Kr.seqQ (v := ?_) (a' := ?_) (by rfl) ?_ ?_ ?_; rotate_left 2; (focus (go_simp; first | done | rfl)); (focus ((try simp only [Kr.PT]); first | done | rfl)))
  refine Kr.seqDoneW ?_
  have K3 : decide (3 = (3 : Int)) = true := decide_eq_true (by rfl)
  have KD : decide ((0 : Int) < ((d + 1 : Nat) : Int)) = true := decide_eq_true (by omega)
  go_upto_region 8 with fail
  refine Kr.seqStartW ?_
  (refine Kr.seqQ (v := .pointer (some ⟨bi, 0, none⟩)) (a' := ?_) (by rfl) ?_ ?_ ?_; rotate_left 1; (focus (go_simp; first | done | rfl)); (focus ((try simp only [Kr.PT]); first | done | rfl)))
  (refine Kr.seqQ (v := .int .i64 3) (a' := ?_) (by rfl) ?_ ?_ ?_; rotate_left 1; (focus (exact Kr.valOf rfl (ldInt (rowCell (j := 0) (H.at 0 rfl) rfl)))); (focus ((try simp only [Kr.PT]); first | done | rfl)))
  (refine Kr.seqQ (v := .bool true) (a' := ?_) (by rfl) ?_ ?_ ?_; rotate_left 1; (focus (exact Kr.valOf rfl (eqlI K3))); (focus ((try simp only [Kr.PT]); first | done | rfl)))
  (refine Kr.seqQ (v := ?_) (a' := ?_) (by rfl) ?_ ?_ ?_; rotate_left 2; (focus (go_simp; first | done | rfl)); (focus ((try simp only [Kr.PT]); first | done | rfl)))
  (refine Kr.seqQ (v := ?_) (a' := ?_) (by rfl) ?_ ?_ ?_; rotate_left 2; (focus (go_simp; first | done | rfl)); (focus ((try simp only [Kr.PT]); first | done | rfl)))
  (refine Kr.seqQ (v := .bool true) (a' := ?_) (by rfl) ?_ ?_ ?_; rotate_left 1; (focus (exact Kr.valOf rfl (gtrI KD))); (focus ((try simp only [Kr.PT]); first | done | rfl)))
  (refine Kr.seqQ (v := ?_) (a' := ?_) (by rfl) ?_ ?_ ?_; rotate_left 2; (focus (go_simp; first | done | rfl)); (focus ((try simp only [Kr.PT]); first | done | rfl)))
  (refine Kr.seqQ (v := ?_) (a' := ?_) (by rfl) ?_ ?_ ?_; rotate_left 2; (focus (go_simp; first | done | rfl)); (focus ((try simp only [Kr.PT]); first | done | rfl)))
  refine Kr.seqDoneW ?_
  go_upto_region 9 with fail
  refine Kr.seqStartW ?_
  (refine Kr.seqQ (v := ?_) (a' := ?_) (by rfl) ?_ ?_ ?_; rotate_left 2; (focus (go_simp; first | done | rfl)); (focus ((try simp only [Kr.PT]); first | done | rfl)))
  (refine Kr.seqQ (v := ?_) (a' := ?_) (by rfl) ?_ ?_ ?_; rotate_left 2; (focus (go_simp; first | done | rfl)); (focus ((try simp only [Kr.PT]); first | done | rfl)))
  (refine Kr.seqQ (v := .int .i64 (d : Int)) (a' := ?_) (by rfl) ?_ ?_ ?_; rotate_left 1; (focus (exact Kr.valOf rfl (subI hsub))); (focus ((try simp only [Kr.PT]); first | done | rfl)))
  refine Kr.seqR (by rfl) (fun K hK => ?_)
  go_simp
  go_at_call 50
  have hbi : bi < y4.heap.size := lt_of_heap (H.at 0 rfl)
  have hbz : bz < y4.heap.size := lt_of_heap (H.at 1 rfl)
  have hsw := H.g.size
  refine (ih (H.at 2 rfl) (HS.out.growX HO.out H.g) HO.out hl hn hc h1).mono ?_
  rintro o9 y5 ⟨pl, nl, cl, ps2, e2, rfl, hpl, hh, hg, hp2, hout⟩
  replace H := H.call 2 rfl hg hh; dsimp only [List.set] at H
  clear hh hg
  rw [HD1.out] at hout; obtain ⟨FF, hFF⟩ : ∃ z : Nat → Prop, (fun b => y4.heap.size ≤ b ∧ b < y5.heap.size) = z := ⟨_, rfl⟩; rw [hFF] at hout
  have hFi : ¬ FF bi := by rw [← hFF]; exact fun h => by have := h.1; omega
  have hFz : ¬ FF bz := by rw [← hFF]; exact fun h => by have := h.1; omega
  have HFF : Hid (∀ b, FF b → w.heap.size ≤ b ∧ b < y5.heap.size) := Lib.hid (fun b hb => by rw [← hFF] at hb; exact ⟨Nat.le_trans hsw hb.1, hb.2⟩)
  have HIT := Lib.hid (OutK.mk hout); have HSZ : Hid (y5.heap.size ≤ y5.heap.size) := Lib.hid (Nat.le_refl _); clear hout hFF hsw hbi hbz hpl
  (refine Kr.outS hK (a' := ?_) ?_ ?_; rotate_left; (focus ((try simp only [Kr.PT]); first | done | rfl))); clear hK K
  (refine Kr.seqQ (v := .pointer (some ⟨bi, 3, none⟩)) (a' := ?_) (by rfl) ?_ ?_ ?_; rotate_left 1; (focus (go_simp; first | done | rfl)); (focus ((try simp only [Kr.PT]); first | done | rfl)))
  refine Kr.seqR (by rfl) (fun K hK => ?_)
  refine wp_run rfl (stLs (H.cell 0 rfl (show _ = some _ from rfl)) (H.frozen 0 rfl 3)) ?_
  have hkp := HIT.out.kept (same_set (W := y5) (b := bi) (j := 3) (u := .slice pl nl cl) hFi); have hsz := Nat.le_trans HSZ.out (Nat.le_of_eq (size_set (W := y5) (a := ⟨bi, 3, none⟩) (u := .slice pl nl cl)).symm)
  obtain ⟨y6, hy⟩ : ∃ y, y5.setCell ⟨bi, 3, none⟩ (.slice pl nl cl) = y := ⟨_, rfl⟩; rw [hy]; rw [hy] at hkp hsz; replace HIT := Lib.hid hkp; replace HSZ := Lib.hid hsz; clear hkp hsz
  replace H := H.set 0 (3) hy rfl; dsimp only [List.set] at H; clear hy
  (refine Kr.outS hK (a' := ?_) ?_ ?_; rotate_left; (focus ((try simp only [Kr.PT]); first | done | rfl))); clear hK K
  refine Kr.seqDoneW ?_
  go_upto_region 10 with fail
  refine Kr.seqStartW ?_
  (refine Kr.seqQ (v := .agg #[.int .i64 3, .int .i64 0, .slice none 0 0, .slice pl nl cl]) (a' := ?_) (by rfl) ?_ ?_ ?_; rotate_left 1; (focus (exact Kr.valOf rfl (ldI (H.at 0 rfl)))); (focus ((try simp only [Kr.PT]); first | done | rfl)))
  refine Kr.seqR (by rfl) (fun K hK => ?_)
  refine wp_run rfl (stI (H.at 1 rfl) one4) ?_
  have hkp := HIT.out.kept (same_put (W := y6) (b := bz) (cs := ([.int .i64 3, .int .i64 0, .slice none 0 0, .slice pl nl cl] : List Value).toArray) hFz); have hsz := Nat.le_trans HSZ.out (Nat.le_of_eq (size_put (W := y6) (b := bz) (cs := ([.int .i64 3, .int .i64 0, .slice none 0 0, .slice pl nl cl] : List Value).toArray)).symm)
  obtain ⟨y7, hy⟩ : ∃ y, y6.setRow bz ([.int .i64 3, .int .i64 0, .slice none 0 0, .slice pl nl cl] : List Value).toArray = y := ⟨_, rfl⟩; rw [hy]; rw [hy] at hkp hsz; replace HIT := Lib.hid hkp; replace HSZ := Lib.hid hsz; clear hkp hsz
  replace H := H.put 1 hy rfl; dsimp only [List.set] at H; clear hy
  (refine Kr.outS hK (a' := ?_) ?_ ?_; rotate_left; (focus ((try simp only [Kr.PT]); first | done | rfl))); clear hK K
  refine Kr.seqDoneW ?_
  go_wp2
  refine bodyPost_ret (v := .agg #[.int .i64 3, .int .i64 0, .slice none 0 0, .slice pl nl cl]) (results_cell_row rfl _ _ bz 25 _ _ _ (by rfl) (H.at 1 rfl) Tryd.underlying25 rfl (show _ = some 4 from infoI)) rfl ⟨.int .i64 3, .int .i64 0, .slice none 0 0, .slice pl nl cl, ps2, e2, rfl, one4, H.at 2 rfl, H.g, hp2, (by rw [HRES.out]; exact (by rw [HRE.out]; exact out_sh1 HIT.out.h (fun ts ⟨h1, h2, h3⟩ => itv_lst h1 h2 (h3.mono (fun b hb => ⟨(HFF.out b hb).1, Nat.lt_of_lt_of_le (HFF.out b hb).2 HSZ.out⟩)))))⟩
end Go.Proofs.YtcngcdfngifjnaaDoor.Dg


/- The reader: item, items. -/
namespace Go.Proofs.YtcngcdfngifjnaaDoor.Dg
open Go Go.RowKit Go.Proofs.YtcngcdfngifjnaaDoor.Ne Go.Proofs.YtcngcdfngifjnaaDoor.Kr

theorem item_step {d : Nat} (hd : d ≤ 100) (ih : ∀ e, e + 1 = d → ∀ {w : World} {br b off n c ps : Nat} {l : List (BitVec 8)} (_ : w.heap[br]? = some (.cells (rdr (.slice (some ⟨b, off, none⟩) n c) (ps : Int) 0).toArray 60 (0, 0))) (_ : SrcB (some ⟨b, off, none⟩) l w) (_ : Off br (some ⟨b, off, none⟩)) (_ : l.length = n) (_ : n ≤ 20000) (_ : n ≤ c) (_ : ps ≤ n), Calls Tryd.prog 50 #[.pointer (some ⟨br, 0, none⟩), .int .i64 (e : Int)] w fun o w' => ItemsP w br b off n c ps e l o w') : ∀ {w : World} {br b off n c ps : Nat} {l : List (BitVec 8)} (_ : w.heap[br]? = some (.cells (rdr (.slice (some ⟨b, off, none⟩) n c) (ps : Int) 0).toArray 60 (0, 0))) (_ : SrcB (some ⟨b, off, none⟩) l w) (_ : Off br (some ⟨b, off, none⟩)) (_ : l.length = n) (_ : n ≤ 20000) (_ : n ≤ c) (_ : ps ≤ n), Calls Tryd.prog 40 #[.pointer (some ⟨br, 0, none⟩), .int .i64 (d : Int)] w fun o w' => ItemP w br b off n c ps d l o w' := by
  intro w br b off n c ps l hr hS hO hl hn hc hp
  rcases hL0 : l.drop ps with _ | ⟨kb, L2⟩
  · exact item_nil hr hS hO hl hn hc hp hL0
  by_cases k1 : kb = 1#8
  · subst k1
    by_cases hx : L2.length < 8
    · exact item_k1a hr hS hO hl hn hc hp hL0 hx
    · exact item_k1b hr hS hO hl hn hc hp hL0 hx
  by_cases k2 : kb = 2#8
  · subst k2
    by_cases hx : L2.length < 4
    · exact item_k2a hr hS hO hl hn hc hp hL0 hx
    by_cases hy : (L2.drop 4).length < (nb (L2.take 4)).toNat
    · exact item_k2b hr hS hO hl hn hc hp hL0 hx hy
    · exact item_k2c hr hS hO hl hn hc hp hL0 hx hy
  by_cases k3 : kb = 3#8
  · subst k3
    cases d with
    | zero => exact item_k30 hr hS hO hl hn hc hp hL0
    | succ d => exact item_k3 hr hS hO hl hn hc hp hL0 (by omega) (ih d rfl)
  · exact item_kx hr hS hO hl hn hc hp k1 k2 k3 hL0
theorem item_v : ∀ (d : Nat), d ≤ 100 → ∀ {w : World} {br b off n c ps : Nat} {l : List (BitVec 8)} (_ : w.heap[br]? = some (.cells (rdr (.slice (some ⟨b, off, none⟩) n c) (ps : Int) 0).toArray 60 (0, 0))) (_ : SrcB (some ⟨b, off, none⟩) l w) (_ : Off br (some ⟨b, off, none⟩)) (_ : l.length = n) (_ : n ≤ 20000) (_ : n ≤ c) (_ : ps ≤ n), Calls Tryd.prog 40 #[.pointer (some ⟨br, 0, none⟩), .int .i64 (d : Int)] w fun o w' => ItemP w br b off n c ps d l o w'
  | 0, h => item_step h (fun e he => by omega)
  | d + 1, h => item_step h (fun e he => by
      obtain rfl : e = d := by omega
      exact items_step (item_v e (by omega)))

end Go.Proofs.YtcngcdfngifjnaaDoor.Dg


/- Decode. -/
namespace Go.Proofs.YtcngcdfngifjnaaDoor.Dg
open Go Go.RowKit Go.Proofs.YtcngcdfngifjnaaDoor.Ne Go.Proofs.YtcngcdfngifjnaaDoor.Kr

theorem Ow.callX {br : Nat} {w W y : World} {rs : List Blk} (H : Ow w W rs) (i : Nat) {T : TypeId} {l l' : List Value} (h : rs[i]? = some (br, T, l)) (g : GrX br W y) (hh : y.heap[br]? = some (.cells l'.toArray T (0, 0))) : Ow w y (rs.set i (br, T, l')) := by
  have hlow := H.low _ (List.mem_of_getElem? h)
  refine ⟨GrX.gr H.g g hlow, fun x hx2 => ?_, fun x hx2 => ?_, ow_set_ne i h H.ne⟩
  · obtain ⟨j, hj⟩ := List.getElem?_of_mem hx2
    rw [List.getElem?_set] at hj
    by_cases hji : i = j
    · rw [if_pos hji] at hj
      by_cases hl : i < rs.length
      · rw [if_pos hl] at hj
        cases hj
        exact hh
      · rw [if_neg hl] at hj; cases hj
    · rw [if_neg hji] at hj
      have hm := List.mem_of_getElem? hj
      rw [g.block x.1 (H.lt hm) (fun e => ow_ne H.ne h hj hji e.symm)]
      exact H.r x hm
  · rcases List.mem_or_eq_of_mem_set hx2 with hx2 | rfl
    · exact H.low x hx2
    · exact hlow
theorem newR {w : World} : (Instr.alloc 60 true (.tuple #[])).run Tryd.prog w = .ok (.pointer (some ⟨w.heap.size, 0, none⟩)) (w.alloc (.cells (rdr (.slice none 0 0) 0 0).toArray 60)) := by
  unfold rdr
  go_simp
theorem stR {w : World} {b : Nat} {T : TypeId} {u v : Value} {a0 a1 e0 e1 : Int} (h : w.heap[b]? = some (.cells (rdr u a0 e0).toArray T (0, 0))) (hv : v.oneCell' = true) :
    (Instr.storeAt 60 (.pointer (some ⟨b, 0, none⟩)) (.agg #[v, .int .i64 a1, .int .i64 e1])).run Tryd.prog w = .ok () (w.setRow b (rdr v a1 e1).toArray) := by
  simp only [Instr.storeAt, Instr.sureAddr, Sem.run_bind, Sem.run_pure, Result.andThen_ok]
  exact run_storeVar_row w b T 60 (rdr u a0 e0).toArray (rdr v a1 e1).toArray h (by kernel_rfl) (by simp [rdr]) (Array.all_eq_true_iff_forall_mem.2 (fun x hx => by
    simp only [rdr, List.mem_toArray, List.mem_cons, List.not_mem_nil, or_false] at hx
    rcases hx with rfl | rfl | rfl
    · exact hv
    · rfl
    · rfl))
theorem src_lt {p : Option Addr} {l : List (BitVec 8)} {w : World} {b off : Nat} (h : SrcB p l w) (hp : p = some ⟨b, off, none⟩) (hl : 0 < l.length) : b < w.heap.size := by
  obtain ⟨b2, o2, e, h⟩ := src_some h hl
  rw [e] at hp
  cases hp
  have h1 := h 0 _ (List.getElem?_eq_getElem hl)
  rcases Nat.lt_or_ge b w.heap.size with h' | h'
  · exact h'
  · simp [World.cell?, Array.getElem?_eq_none h'] at h1
/-- What Decode says. -/
def DecP (w : World) (l : List (BitVec 8)) (o : Ending) (w' : World) : Prop :=
  ∃ (v0 v1 v2 v3 : Value) (e : Int), o = .returned (.tuple #[.agg #[v0, v1, v2, v3], .int .i64 e]) ∧ Gr w w' ∧ (∀ u ∈ ([v0, v1, v2, v3] : List Value), u.oneCell' = true) ∧
    ((e = 0 ∧ ∃ t, l.length ≤ 16384 ∧ rd 8 l = .ok (t, l.length) ∧ ItV w' 9 (fun b => w.heap.size ≤ b ∧ b < w'.heap.size) (.agg #[v0, v1, v2, v3]) t) ∨
     (e ≠ 0 ∧ v0 = .int .i64 0 ∧ v1 = .int .i64 0 ∧ v2 = .slice none 0 0 ∧ v3 = .slice none 0 0 ∧ (if 16384 < l.length then e = 5 else match rd 8 l with | .error c => e = c | .ok (_, m) => m < l.length ∧ e = 3)))

set_option linter.unusedSimpArgs false in
set_option maxRecDepth 100000 in
set_option maxHeartbeats 16000000 in
theorem item_nilp {w : World} {br n c ps d : Nat} {p : Option Addr} (hr : w.heap[br]? = some (.cells (rdr (.slice p n c) (ps : Int) 0).toArray 60 (0, 0))) (hn : n ≤ 20000) (hp : ps ≤ n) (hnp : n ≤ ps) :
    Calls Tryd.prog 40 #[.pointer (some ⟨br, 0, none⟩), .int .i64 (d : Int)] w fun o w' => o = .returned (.agg #[.int .i64 0, .int .i64 0, .slice none 0 0, .slice none 0 0]) ∧ w'.heap[br]? = some (.cells (rdr (.slice p n c) (ps : Int) 4).toArray 60 (0, 0)) ∧ GrX br w w' := by
  have hbrw := lt_of_heap hr
  have H := OwX.start hr
  go_enter Tryd.func40, Tryd.ntmps40
  go_upto_region 0 with fail
  refine Kr.seqStartW ?_
  refine Kr.seqR (by rfl) (fun K hK => ?_)
  refine wp_runV rfl newI ?_
  obtain ⟨y1, hy⟩ : ∃ y, w.alloc (.cells ([.int .i64 0, .int .i64 0, .slice none 0 0, .slice none 0 0]).toArray 25) = y := ⟨_, rfl⟩
  obtain ⟨bz, hb⟩ : ∃ b, w.heap.size = b := ⟨_, rfl⟩
  rw [hy, hb]
  have hg : Gr w y1 := hy ▸ (Gr.refl _).alloc _
  replace H := H.alloc hy hb
  clear hy hb hg
  (refine Kr.outS hK (a' := ?_) ?_ ?_; rotate_left; (focus ((try simp only [Kr.PT]); first | done | rfl))); clear hK K
  refine Kr.seqDoneW ?_
  go_upto_region 1 with fail
  refine Kr.seqStartW ?_
  (refine Kr.seqQ (v := ?_) (a' := ?_) (by rfl) ?_ ?_ ?_; rotate_left 2; (focus (go_simp; first | done | rfl)); (focus ((try simp only [Kr.PT]); first | done | rfl)))
  refine Kr.seqR (by rfl) (fun K hK => ?_)
  go_simp
  go_at_call 48
  refine (number_end (m := 1) (H.at 1 rfl) (by omega) (hp) (by omega)).mono ?_
  rintro o9 y2 ⟨rfl, hh, hg⟩
  replace H := H.call 1 rfl hg hh; dsimp only [List.set] at H
  clear hh hg
  (refine Kr.outS hK (a' := ?_) ?_ ?_; rotate_left; (focus ((try simp only [Kr.PT]); first | done | rfl))); clear hK K
  (refine Kr.seqQ (v := .agg #[.int .i64 0, .int .i64 0, .slice none 0 0, .slice none 0 0]) (a' := ?_) (by rfl) ?_ ?_ ?_; rotate_left 1; (focus (go_simp; first | done | rfl)); (focus ((try simp only [Kr.PT]); first | done | rfl)))
  refine Kr.seqR (by rfl) (fun K hK => ?_)
  refine wp_runV rfl newI ?_
  obtain ⟨y3, hy⟩ : ∃ y, y2.alloc (.cells ([.int .i64 0, .int .i64 0, .slice none 0 0, .slice none 0 0]).toArray 25) = y := ⟨_, rfl⟩
  obtain ⟨bi, hb⟩ : ∃ b, y2.heap.size = b := ⟨_, rfl⟩
  rw [hy, hb]
  have hg : Gr y2 y3 := hy ▸ (Gr.refl _).alloc _
  replace H := H.alloc hy hb
  clear hy hb hg
  (refine Kr.outS hK (a' := ?_) ?_ ?_; rotate_left; (focus ((try simp only [Kr.PT]); first | done | rfl))); clear hK K
  refine Kr.seqR (by rfl) (fun K hK => ?_)
  refine wp_run rfl (stI (H.at 0 rfl) one4) ?_
  obtain ⟨y4, hy⟩ : ∃ y, y3.setRow bi ([.int .i64 0, .int .i64 0, .slice none 0 0, .slice none 0 0]).toArray = y := ⟨_, rfl⟩
  rw [hy]
  replace H := H.put 0 hy rfl
  dsimp only [List.set] at H
  clear hy
  (refine Kr.outS hK (a' := ?_) ?_ ?_; rotate_left; (focus ((try simp only [Kr.PT]); first | done | rfl))); clear hK K
  refine Kr.seqDoneW ?_
  have K1 : decide ((0 : Int) = (1 : Int)) = false := decide_eq_false (by decide)
  go_upto_region 3 with fail
  refine Kr.seqStartW ?_
  (refine Kr.seqQ (v := .pointer (some ⟨bi, 0, none⟩)) (a' := ?_) (by rfl) ?_ ?_ ?_; rotate_left 1; (focus (go_simp; first | done | rfl)); (focus ((try simp only [Kr.PT]); first | done | rfl)))
  (refine Kr.seqQ (v := .int .i64 0) (a' := ?_) (by rfl) ?_ ?_ ?_; rotate_left 1; (focus (exact Kr.valOf rfl (ldInt (rowCell (j := 0) (H.at 0 rfl) rfl)))); (focus ((try simp only [Kr.PT]); first | done | rfl)))
  (refine Kr.seqQ (v := .bool false) (a' := ?_) (by rfl) ?_ ?_ ?_; rotate_left 1; (focus (exact Kr.valOf rfl (eqlI K1))); (focus ((try simp only [Kr.PT]); first | done | rfl)))
  (refine Kr.seqQ (v := ?_) (a' := ?_) (by rfl) ?_ ?_ ?_; rotate_left 2; (focus (go_simp; first | done | rfl)); (focus ((try simp only [Kr.PT]); first | done | rfl)))
  refine Kr.seqDoneW ?_
  have K2 : decide ((0 : Int) = (2 : Int)) = false := decide_eq_false (by decide)
  go_upto_region 5 with fail
  refine Kr.seqStartW ?_
  (refine Kr.seqQ (v := .pointer (some ⟨bi, 0, none⟩)) (a' := ?_) (by rfl) ?_ ?_ ?_; rotate_left 1; (focus (go_simp; first | done | rfl)); (focus ((try simp only [Kr.PT]); first | done | rfl)))
  (refine Kr.seqQ (v := .int .i64 0) (a' := ?_) (by rfl) ?_ ?_ ?_; rotate_left 1; (focus (exact Kr.valOf rfl (ldInt (rowCell (j := 0) (H.at 0 rfl) rfl)))); (focus ((try simp only [Kr.PT]); first | done | rfl)))
  (refine Kr.seqQ (v := .bool false) (a' := ?_) (by rfl) ?_ ?_ ?_; rotate_left 1; (focus (exact Kr.valOf rfl (eqlI K2))); (focus ((try simp only [Kr.PT]); first | done | rfl)))
  (refine Kr.seqQ (v := ?_) (a' := ?_) (by rfl) ?_ ?_ ?_; rotate_left 2; (focus (go_simp; first | done | rfl)); (focus ((try simp only [Kr.PT]); first | done | rfl)))
  refine Kr.seqDoneW ?_
  have K3 : decide ((0 : Int) = (3 : Int)) = false := decide_eq_false (by decide)
  go_upto_region 8 with fail
  refine Kr.seqStartW ?_
  (refine Kr.seqQ (v := .pointer (some ⟨bi, 0, none⟩)) (a' := ?_) (by rfl) ?_ ?_ ?_; rotate_left 1; (focus (go_simp; first | done | rfl)); (focus ((try simp only [Kr.PT]); first | done | rfl)))
  (refine Kr.seqQ (v := .int .i64 0) (a' := ?_) (by rfl) ?_ ?_ ?_; rotate_left 1; (focus (exact Kr.valOf rfl (ldInt (rowCell (j := 0) (H.at 0 rfl) rfl)))); (focus ((try simp only [Kr.PT]); first | done | rfl)))
  (refine Kr.seqQ (v := .bool false) (a' := ?_) (by rfl) ?_ ?_ ?_; rotate_left 1; (focus (exact Kr.valOf rfl (eqlI K3))); (focus ((try simp only [Kr.PT]); first | done | rfl)))
  (refine Kr.seqQ (v := ?_) (a' := ?_) (by rfl) ?_ ?_ ?_; rotate_left 2; (focus (go_simp; first | done | rfl)); (focus ((try simp only [Kr.PT]); first | done | rfl)))
  (refine Kr.seqSkipQ (a' := ?_) (by rfl) ?_ ?_; rotate_left; (focus ((try simp only [Kr.PT]); first | done | rfl)))
  (refine Kr.seqSkipQ (a' := ?_) (by rfl) ?_ ?_; rotate_left; (focus ((try simp only [Kr.PT]); first | done | rfl)))
  (refine Kr.seqQ (v := ?_) (a' := ?_) (by rfl) ?_ ?_ ?_; rotate_left 2; (focus (go_simp; first | done | rfl)); (focus ((try simp only [Kr.PT]); first | done | rfl)))
  (refine Kr.seqQ (v := ?_) (a' := ?_) (by rfl) ?_ ?_ ?_; rotate_left 2; (focus (go_simp; first | done | rfl)); (focus ((try simp only [Kr.PT]); first | done | rfl)))
  refine Kr.seqDoneW ?_
  go_upto_region 2 with fail
  refine Kr.seqStartW ?_
  (refine Kr.seqQ (v := ?_) (a' := ?_) (by rfl) ?_ ?_ ?_; rotate_left 2; (focus (go_simp; first | done | rfl)); (focus ((try simp only [Kr.PT]); first | done | rfl)))
  refine Kr.seqR (by rfl) (fun K hK => ?_)
  go_simp
  go_at_call 41
  refine (fail_not (v := .slice p n c) (pos := (ps : Int)) (e := 4) (code := 3) (H.at 2 rfl) (by decide)).mono ?_
  rintro o9 y5 ⟨rfl, hh, hg⟩
  replace H := H.call 2 rfl hg hh; dsimp only [List.set] at H; clear hh hg
  (refine Kr.outS hK (a' := ?_) ?_ ?_; rotate_left; (focus ((try simp only [Kr.PT]); first | done | rfl))); clear hK K
  refine Kr.seqDoneW ?_
  go_upto_region 10 with fail
  refine Kr.seqStartW ?_
  (refine Kr.seqQ (v := .agg #[.int .i64 0, .int .i64 0, .slice none 0 0, .slice none 0 0]) (a' := ?_) (by rfl) ?_ ?_ ?_; rotate_left 1; (focus (exact Kr.valOf rfl (ldI (H.at 0 rfl)))); (focus ((try simp only [Kr.PT]); first | done | rfl)))
  refine Kr.seqR (by rfl) (fun K hK => ?_)
  refine wp_run rfl (stI (H.at 1 rfl) one4) ?_
  obtain ⟨y6, hy⟩ : ∃ y, y5.setRow bz ([.int .i64 0, .int .i64 0, .slice none 0 0, .slice none 0 0]).toArray = y := ⟨_, rfl⟩
  rw [hy]
  replace H := H.put 1 hy rfl
  dsimp only [List.set] at H
  clear hy
  (refine Kr.outS hK (a' := ?_) ?_ ?_; rotate_left; (focus ((try simp only [Kr.PT]); first | done | rfl))); clear hK K
  refine Kr.seqDoneW ?_
  go_wp2
  refine bodyPost_ret (v := .agg #[.int .i64 0, .int .i64 0, .slice none 0 0, .slice none 0 0]) (results_cell_row rfl _ _ bz 25 _ _ _ (by rfl) (H.at 1 rfl) Tryd.underlying25 rfl (show _ = some 4 from infoI)) rfl ⟨rfl, H.at 2 rfl, H.g⟩
set_option linter.unusedSimpArgs false in
set_option maxRecDepth 100000 in
set_option maxHeartbeats 16000000 in
theorem Decode_big {w : World} {n c : Nat} {p : Option Addr} {l : List (BitVec 8)} (hS : SrcB (p) l w) (hl : l.length = n) (hc : n ≤ c) (hn : 16384 < n) :
    Calls Tryd.prog 17 #[.slice p n c] w fun o w' => DecP w l o w' := by
  have HS := Lib.hid hS; clear hS; have hcc := hc; clear hcc
  have H := Ow.start w
  go_enter Tryd.func17, Tryd.ntmps17
  go_upto_region 0 with fail
  refine Kr.seqStartW ?_
  refine Kr.seqR (by rfl) (fun K hK => ?_)
  refine wp_runV rfl newI ?_
  obtain ⟨y1, hy⟩ : ∃ y, w.alloc (.cells ([.int .i64 0, .int .i64 0, .slice none 0 0, .slice none 0 0]).toArray 25) = y := ⟨_, rfl⟩
  obtain ⟨bz, hb⟩ : ∃ b, w.heap.size = b := ⟨_, rfl⟩
  rw [hy, hb]
  have hg : Gr w y1 := hy ▸ (Gr.refl _).alloc _
  replace H := H.alloc hy hb
  clear hy hb hg
  (refine Kr.outS hK (a' := ?_) ?_ ?_; rotate_left; (focus ((try simp only [Kr.PT]); first | done | rfl))); clear hK K
  (refine Kr.seqQ (v := ?_) (a' := ?_) (by rfl) ?_ ?_ ?_; rotate_left 2; (focus (go_simp; first | done | rfl)); (focus ((try simp only [Kr.PT]); first | done | rfl)))
  refine Kr.seqDoneW ?_
  have C1 : decide ((16384 : Int) < (n : Int)) = true := decide_eq_true (by omega)
  go_upto_region 1 with fail
  refine Kr.seqStartW ?_
  (refine Kr.seqQ (v := ?_) (a' := ?_) (by rfl) ?_ ?_ ?_; rotate_left 2; (focus (go_simp; first | done | rfl)); (focus ((try simp only [Kr.PT]); first | done | rfl)))
  (refine Kr.seqQ (v := .int .i64 (n : Int)) (a' := ?_) (by rfl) ?_ ?_ ?_; rotate_left 1; (focus (exact Kr.valOf rfl ((by go_simp)))); (focus ((try simp only [Kr.PT]); first | done | rfl)))
  (refine Kr.seqQ (v := .bool true) (a' := ?_) (by rfl) ?_ ?_ ?_; rotate_left 1; (focus (exact Kr.valOf rfl (gtrI C1))); (focus ((try simp only [Kr.PT]); first | done | rfl)))
  refine Kr.seqDoneW ?_
  go_upto_region 2 with fail
  refine Kr.seqStartW ?_
  (refine Kr.seqQ (v := .agg #[.int .i64 0, .int .i64 0, .slice none 0 0, .slice none 0 0]) (a' := ?_) (by rfl) ?_ ?_ ?_; rotate_left 1; (focus (go_simp; first | done | rfl)); (focus ((try simp only [Kr.PT]); first | done | rfl)))
  refine Kr.seqR (by rfl) (fun K hK => ?_)
  refine wp_run rfl (stI (H.at 0 rfl) one4) ?_
  obtain ⟨y2, hy⟩ : ∃ y, y1.setRow bz ([.int .i64 0, .int .i64 0, .slice none 0 0, .slice none 0 0]).toArray = y := ⟨_, rfl⟩
  rw [hy]
  replace H := H.put 0 hy rfl
  dsimp only [List.set] at H
  clear hy
  (refine Kr.outS hK (a' := ?_) ?_ ?_; rotate_left; (focus ((try simp only [Kr.PT]); first | done | rfl))); clear hK K
  (refine Kr.seqQ (v := ?_) (a' := ?_) (by rfl) ?_ ?_ ?_; rotate_left 2; (focus (go_simp; first | done | rfl)); (focus ((try simp only [Kr.PT]); first | done | rfl)))
  refine Kr.seqDoneW ?_
  go_wp2
  refine bodyPost_ret (v := .tuple #[.agg #[.int .i64 0, .int .i64 0, .slice none 0 0, .slice none 0 0], .int .i64 5]) (results_row_tmp rfl _ _ bz 25 _ _ _ (by rfl) (H.at 0 rfl) Tryd.underlying25 rfl (show _ = some 4 from infoI) (by rfl)) rfl ⟨.int .i64 0, .int .i64 0, .slice none 0 0, .slice none 0 0, 5, rfl, H.g, one4, .inr ⟨by decide, rfl, rfl, rfl, rfl, by rw [if_pos (by omega)]⟩⟩
set_option linter.unusedSimpArgs false in
set_option maxRecDepth 100000 in
set_option maxHeartbeats 16000000 in
theorem Decode_nil {w : World} {n c : Nat} {p : Option Addr} {l : List (BitVec 8)} (hS : SrcB (p) l w) (hl : l.length = n) (hc : n ≤ c) (hn : n = 0) :
    Calls Tryd.prog 17 #[.slice p n c] w fun o w' => DecP w l o w' := by
  have HS := Lib.hid hS; clear hS; have hcc := hc; clear hcc
  have H := Ow.start w
  go_enter Tryd.func17, Tryd.ntmps17
  go_upto_region 0 with fail
  refine Kr.seqStartW ?_
  refine Kr.seqR (by rfl) (fun K hK => ?_)
  refine wp_runV rfl newI ?_
  obtain ⟨y1, hy⟩ : ∃ y, w.alloc (.cells ([.int .i64 0, .int .i64 0, .slice none 0 0, .slice none 0 0]).toArray 25) = y := ⟨_, rfl⟩
  obtain ⟨bz, hb⟩ : ∃ b, w.heap.size = b := ⟨_, rfl⟩
  rw [hy, hb]
  have hg : Gr w y1 := hy ▸ (Gr.refl _).alloc _
  replace H := H.alloc hy hb
  clear hy hb hg
  (refine Kr.outS hK (a' := ?_) ?_ ?_; rotate_left; (focus ((try simp only [Kr.PT]); first | done | rfl))); clear hK K
  (refine Kr.seqQ (v := ?_) (a' := ?_) (by rfl) ?_ ?_ ?_; rotate_left 2; (focus (go_simp; first | done | rfl)); (focus ((try simp only [Kr.PT]); first | done | rfl)))
  refine Kr.seqDoneW ?_
  have C1 : decide ((16384 : Int) < (n : Int)) = false := decide_eq_false (by omega)
  go_upto_region 1 with fail
  refine Kr.seqStartW ?_
  (refine Kr.seqQ (v := ?_) (a' := ?_) (by rfl) ?_ ?_ ?_; rotate_left 2; (focus (go_simp; first | done | rfl)); (focus ((try simp only [Kr.PT]); first | done | rfl)))
  (refine Kr.seqQ (v := .int .i64 (n : Int)) (a' := ?_) (by rfl) ?_ ?_ ?_; rotate_left 1; (focus (exact Kr.valOf rfl ((by go_simp)))); (focus ((try simp only [Kr.PT]); first | done | rfl)))
  (refine Kr.seqQ (v := .bool false) (a' := ?_) (by rfl) ?_ ?_ ?_; rotate_left 1; (focus (exact Kr.valOf rfl (gtrI C1))); (focus ((try simp only [Kr.PT]); first | done | rfl)))
  refine Kr.seqDoneW ?_
  go_upto_region 3 with fail
  refine Kr.seqStartW ?_
  (refine Kr.seqQ (v := ?_) (a' := ?_) (by rfl) ?_ ?_ ?_; rotate_left 2; (focus (go_simp; first | done | rfl)); (focus ((try simp only [Kr.PT]); first | done | rfl)))
  (refine Kr.seqQ (v := .agg #[.slice p n c, .int .i64 0, .int .i64 0]) (a' := ?_) (by rfl) ?_ ?_ ?_; rotate_left 1; (focus (go_simp; first | done | rfl)); (focus ((try simp only [Kr.PT]); first | done | rfl)))
  refine Kr.seqR (by rfl) (fun K hK => ?_)
  refine wp_runV rfl newR ?_
  obtain ⟨y2, hy⟩ : ∃ y, y1.alloc (.cells (rdr (.slice none 0 0) 0 0).toArray 60) = y := ⟨_, rfl⟩
  obtain ⟨br, hb⟩ : ∃ b, y1.heap.size = b := ⟨_, rfl⟩
  rw [hy, hb]
  have hg : Gr y1 y2 := hy ▸ (Gr.refl _).alloc _
  replace H := H.alloc hy hb
  clear hy hb hg
  (refine Kr.outS hK (a' := ?_) ?_ ?_; rotate_left; (focus ((try simp only [Kr.PT]); first | done | rfl))); clear hK K
  refine Kr.seqR (by rfl) (fun K hK => ?_)
  refine wp_run rfl (stR (H.at 0 rfl) rfl) ?_
  obtain ⟨y3, hy⟩ : ∃ y, y2.setRow br (rdr (.slice p n c) 0 0).toArray = y := ⟨_, rfl⟩
  rw [hy]
  replace H := H.put 0 hy rfl
  dsimp only [List.set] at H
  clear hy
  (refine Kr.outS hK (a' := ?_) ?_ ?_; rotate_left; (focus ((try simp only [Kr.PT]); first | done | rfl))); clear hK K
  refine Kr.seqDoneW ?_
  clear C1
  go_upto_region 4 with fail
  refine Kr.seqStartW ?_
  refine Kr.seqR (by rfl) (fun K hK => ?_)
  go_simp
  go_at_call 40
  refine (item_nilp (n := n) (c := c) (ps := 0) (d := 8) (H.at 0 rfl) (by omega) (by omega) (by omega)).mono ?_
  rintro o9 y4 ⟨rfl, hh, hg⟩
  replace H := H.callX 0 rfl hg hh; dsimp only [List.set] at H; clear hh hg
  (refine Kr.outS hK (a' := ?_) ?_ ?_; rotate_left; (focus ((try simp only [Kr.PT]); first | done | rfl))); clear hK K
  refine Kr.seqR (by rfl) (fun K hK => ?_)
  refine wp_runV rfl newI ?_
  obtain ⟨y5, hy⟩ : ∃ y, y4.alloc (.cells ([.int .i64 0, .int .i64 0, .slice none 0 0, .slice none 0 0]).toArray 25) = y := ⟨_, rfl⟩
  obtain ⟨bi, hb⟩ : ∃ b, y4.heap.size = b := ⟨_, rfl⟩
  rw [hy, hb]
  have hg : Gr y4 y5 := hy ▸ (Gr.refl _).alloc _
  replace H := H.alloc hy hb
  clear hy hb hg
  (refine Kr.outS hK (a' := ?_) ?_ ?_; rotate_left; (focus ((try simp only [Kr.PT]); first | done | rfl))); clear hK K
  refine Kr.seqR (by rfl) (fun K hK => ?_)
  refine wp_run rfl (stI (H.at 0 rfl) one4) ?_
  obtain ⟨y6, hy⟩ : ∃ y, y5.setRow bi ([.int .i64 0, .int .i64 0, .slice none 0 0, .slice none 0 0]).toArray = y := ⟨_, rfl⟩
  rw [hy]
  replace H := H.put 0 hy rfl
  dsimp only [List.set] at H
  clear hy
  (refine Kr.outS hK (a' := ?_) ?_ ?_; rotate_left; (focus ((try simp only [Kr.PT]); first | done | rfl))); clear hK K
  refine Kr.seqDoneW ?_
  have C5 : decide (((0 : Nat) : Int) < (n : Int)) = false := decide_eq_false (by omega)
  go_upto_region 5 with fail
  refine Kr.seqStartW ?_
  (refine Kr.seqQ (v := .pointer (some ⟨br, 1, none⟩)) (a' := ?_) (by rfl) ?_ ?_ ?_; rotate_left 1; (focus (go_simp; first | done | rfl)); (focus ((try simp only [Kr.PT]); first | done | rfl)))
  (refine Kr.seqQ (v := .int .i64 ((0 : Nat) : Int)) (a' := ?_) (by rfl) ?_ ?_ ?_; rotate_left 1; (focus (exact Kr.valOf rfl (ldInt (rowCell (j := 1) (H.at 1 rfl) rfl)))); (focus ((try simp only [Kr.PT]); first | done | rfl)))
  (refine Kr.seqQ (v := ?_) (a' := ?_) (by rfl) ?_ ?_ ?_; rotate_left 2; (focus (go_simp; first | done | rfl)); (focus ((try simp only [Kr.PT]); first | done | rfl)))
  (refine Kr.seqQ (v := .int .i64 (n : Int)) (a' := ?_) (by rfl) ?_ ?_ ?_; rotate_left 1; (focus (exact Kr.valOf rfl ((by go_simp)))); (focus ((try simp only [Kr.PT]); first | done | rfl)))
  (refine Kr.seqQ (v := .bool false) (a' := ?_) (by rfl) ?_ ?_ ?_; rotate_left 1; (focus (exact Kr.valOf rfl (lssT C5))); (focus ((try simp only [Kr.PT]); first | done | rfl)))
  refine Kr.seqDoneW ?_
  have C7 : (!decide ((4 : Int) = 0)) = true := by rw [decide_eq_false (by decide)]; rfl
  go_upto_region 7 with fail
  refine Kr.seqStartW ?_
  (refine Kr.seqQ (v := .pointer (some ⟨br, 2, none⟩)) (a' := ?_) (by rfl) ?_ ?_ ?_; rotate_left 1; (focus (go_simp; first | done | rfl)); (focus ((try simp only [Kr.PT]); first | done | rfl)))
  (refine Kr.seqQ (v := .int .i64 4) (a' := ?_) (by rfl) ?_ ?_ ?_; rotate_left 1; (focus (exact Kr.valOf rfl (ldErr (rowCell (j := 2) (H.at 1 rfl) rfl)))); (focus ((try simp only [Kr.PT]); first | done | rfl)))
  (refine Kr.seqQ (v := .bool true) (a' := ?_) (by rfl) ?_ ?_ ?_; rotate_left 1; (focus (exact Kr.valOf rfl (neqI C7))); (focus ((try simp only [Kr.PT]); first | done | rfl)))
  refine Kr.seqDoneW ?_
  go_upto_region 8 with fail
  refine Kr.startL (fun W' => True) [3] (by kernel_rfl) ?_
  have gd : Gr y6 y6.drew := (Gr.refl _).drew
  generalize y6.drew = d7 at gd ⊢
  replace H := H.grow gd
  clear gd
  (refine Kr.tPQ 0 (v := ?_) (a' := ?_) rfl (by kernel_rfl) (fun _ _ _ h => h) (by rfl) (fun _ => trivial) (fun wx => ?_) ?_ ?_; rotate_left 2; (focus (go_simp; first | done | rfl)); (focus ((try simp only [Kr.PT]); first | done | rfl)))
  (refine Kr.tPQ 1 (v := ?_) (a' := ?_) rfl (by kernel_rfl) (fun _ _ _ h => h) (by rfl) (fun _ => trivial) (fun wx => ?_) ?_ ?_; rotate_left 2; (focus (go_simp; first | done | rfl)); (focus ((try simp only [Kr.PT]); first | done | rfl)))
  refine Kr.readyL (rs := [2, 3]) (by kernel_rfl) (by simp) ?_
  refine Kr.AllL.cons rfl (fun K hK => ?_) ?_
  · rw [if_pos (by rfl)]
    refine wp_runV (v := .int .i64 4) rfl (ldErr (H.cell 1 rfl (show _ = some _ from rfl))) ?_
    (refine Kr.outL hK (a' := ?_) ?_ (fun _ => trivial) ?_; rotate_left; (focus ((try simp only [Kr.PT]); first | done | rfl))); clear hK K
    refine Kr.readyL (rs := [3]) (by kernel_rfl) (by simp) ?_
    refine Kr.AllL.cons rfl (fun K hK => ?_) Kr.AllL.nil
    rw [if_pos (by rfl)]
    refine wp_run rfl (stI (H.at 2 rfl) one4) ?_
    obtain ⟨y8, hy⟩ : ∃ y, d7.setRow bz ([.int .i64 0, .int .i64 0, .slice none 0 0, .slice none 0 0]).toArray = y := ⟨_, rfl⟩
    rw [hy]
    replace H := H.put 2 hy rfl
    dsimp only [List.set] at H
    clear hy
    (refine Kr.outL hK (a' := ?_) ?_ (Kr.noStill (by kernel_rfl)) ?_; rotate_left; (focus ((try simp only [Kr.PT]); first | done | rfl))); clear hK K
    (refine Kr.tPQ 4 (v := ?_) (a' := ?_) rfl (by kernel_rfl) (fun _ _ _ h => h) (by rfl) (Kr.noStill (by kernel_rfl)) (fun wx => ?_) ?_ ?_; rotate_left 2; (focus (go_simp; first | done | rfl)); (focus ((try simp only [Kr.PT]); first | done | rfl)))
    refine Kr.doneL (by kernel_rfl) ?_ _
    go_wp2
    refine bodyPost_ret (v := .tuple #[.agg #[.int .i64 0, .int .i64 0, .slice none 0 0, .slice none 0 0], .int .i64 4]) (results_row_tmp rfl _ _ bz 25 _ _ _ (by rfl) (H.at 2 rfl) Tryd.underlying25 rfl (show _ = some 4 from infoI) (by rfl)) rfl ⟨.int .i64 0, .int .i64 0, .slice none 0 0, .slice none 0 0, 4, rfl, H.g, one4, .inr ⟨by decide, rfl, rfl, rfl, rfl, by rw [if_neg (by omega), List.eq_nil_of_length_eq_zero (show l.length = 0 by omega), rd_nil]⟩⟩
  refine Kr.AllL.cons rfl (fun K hK => ?_) Kr.AllL.nil
  rw [if_pos (by rfl)]
  refine wp_run rfl (stI (H.at 2 rfl) one4) ?_
  obtain ⟨y9, hy⟩ : ∃ y, d7.setRow bz ([.int .i64 0, .int .i64 0, .slice none 0 0, .slice none 0 0]).toArray = y := ⟨_, rfl⟩
  rw [hy]
  replace H := H.put 2 hy rfl
  dsimp only [List.set] at H
  clear hy
  (refine Kr.outL hK (a' := ?_) ?_ (Kr.noStill (by kernel_rfl)) ?_; rotate_left; (focus ((try simp only [Kr.PT]); first | done | rfl))); clear hK K
  refine Kr.readyL (rs := [2]) (by kernel_rfl) (by simp) ?_
  refine Kr.AllL.cons rfl (fun K hK => ?_) Kr.AllL.nil
  rw [if_pos (by rfl)]
  refine wp_runV (v := .int .i64 4) rfl (ldErr (H.cell 1 rfl (show _ = some _ from rfl))) ?_
  (refine Kr.outL hK (a' := ?_) ?_ (Kr.noStill (by kernel_rfl)) ?_; rotate_left; (focus ((try simp only [Kr.PT]); first | done | rfl))); clear hK K
  (refine Kr.tPQ 4 (v := ?_) (a' := ?_) rfl (by kernel_rfl) (fun _ _ _ h => h) (by rfl) (Kr.noStill (by kernel_rfl)) (fun wx => ?_) ?_ ?_; rotate_left 2; (focus (go_simp; first | done | rfl)); (focus ((try simp only [Kr.PT]); first | done | rfl)))
  refine Kr.doneL (by kernel_rfl) ?_ _
  go_wp2
  refine bodyPost_ret (v := .tuple #[.agg #[.int .i64 0, .int .i64 0, .slice none 0 0, .slice none 0 0], .int .i64 4]) (results_row_tmp rfl _ _ bz 25 _ _ _ (by rfl) (H.at 2 rfl) Tryd.underlying25 rfl (show _ = some 4 from infoI) (by rfl)) rfl ⟨.int .i64 0, .int .i64 0, .slice none 0 0, .slice none 0 0, 4, rfl, H.g, one4, .inr ⟨by decide, rfl, rfl, rfl, rfl, by rw [if_neg (by omega), List.eq_nil_of_length_eq_zero (show l.length = 0 by omega), rd_nil]⟩⟩
set_option linter.unusedSimpArgs false in
set_option maxRecDepth 100000 in
set_option maxHeartbeats 16000000 in
theorem Decode_err {w : World} {b off n c : Nat}  {l : List (BitVec 8)} (hS : SrcB (some ⟨b, off, none⟩) l w) (hl : l.length = n) (hc : n ≤ c) {cc : Int} (hn : n ≤ 16384) (h0 : 0 < n) (herr : rd 8 l = .error cc) :
    Calls Tryd.prog 17 #[.slice (some ⟨b, off, none⟩) n c] w fun o w' => DecP w l o w' := by
  have HS := Lib.hid hS; clear hS; have hcc := hc; clear hcc
  have H := Ow.start w
  go_enter Tryd.func17, Tryd.ntmps17
  go_upto_region 0 with fail
  refine Kr.seqStartW ?_
  refine Kr.seqR (by rfl) (fun K hK => ?_)
  refine wp_runV rfl newI ?_
  obtain ⟨y1, hy⟩ : ∃ y, w.alloc (.cells ([.int .i64 0, .int .i64 0, .slice none 0 0, .slice none 0 0]).toArray 25) = y := ⟨_, rfl⟩
  obtain ⟨bz, hb⟩ : ∃ b, w.heap.size = b := ⟨_, rfl⟩
  rw [hy, hb]
  have hg : Gr w y1 := hy ▸ (Gr.refl _).alloc _
  replace H := H.alloc hy hb
  clear hy hb hg
  (refine Kr.outS hK (a' := ?_) ?_ ?_; rotate_left; (focus ((try simp only [Kr.PT]); first | done | rfl))); clear hK K
  (refine Kr.seqQ (v := ?_) (a' := ?_) (by rfl) ?_ ?_ ?_; rotate_left 2; (focus (go_simp; first | done | rfl)); (focus ((try simp only [Kr.PT]); first | done | rfl)))
  refine Kr.seqDoneW ?_
  have C1 : decide ((16384 : Int) < (n : Int)) = false := decide_eq_false (by omega)
  go_upto_region 1 with fail
  refine Kr.seqStartW ?_
  (refine Kr.seqQ (v := ?_) (a' := ?_) (by rfl) ?_ ?_ ?_; rotate_left 2; (focus (go_simp; first | done | rfl)); (focus ((try simp only [Kr.PT]); first | done | rfl)))
  (refine Kr.seqQ (v := .int .i64 (n : Int)) (a' := ?_) (by rfl) ?_ ?_ ?_; rotate_left 1; (focus (exact Kr.valOf rfl ((by go_simp)))); (focus ((try simp only [Kr.PT]); first | done | rfl)))
  (refine Kr.seqQ (v := .bool false) (a' := ?_) (by rfl) ?_ ?_ ?_; rotate_left 1; (focus (exact Kr.valOf rfl (gtrI C1))); (focus ((try simp only [Kr.PT]); first | done | rfl)))
  refine Kr.seqDoneW ?_
  go_upto_region 3 with fail
  refine Kr.seqStartW ?_
  (refine Kr.seqQ (v := ?_) (a' := ?_) (by rfl) ?_ ?_ ?_; rotate_left 2; (focus (go_simp; first | done | rfl)); (focus ((try simp only [Kr.PT]); first | done | rfl)))
  (refine Kr.seqQ (v := .agg #[.slice (some ⟨b, off, none⟩) n c, .int .i64 0, .int .i64 0]) (a' := ?_) (by rfl) ?_ ?_ ?_; rotate_left 1; (focus (go_simp; first | done | rfl)); (focus ((try simp only [Kr.PT]); first | done | rfl)))
  refine Kr.seqR (by rfl) (fun K hK => ?_)
  refine wp_runV rfl newR ?_
  obtain ⟨y2, hy⟩ : ∃ y, y1.alloc (.cells (rdr (.slice none 0 0) 0 0).toArray 60) = y := ⟨_, rfl⟩
  obtain ⟨br, hb⟩ : ∃ b, y1.heap.size = b := ⟨_, rfl⟩
  rw [hy, hb]
  have hg : Gr y1 y2 := hy ▸ (Gr.refl _).alloc _
  replace H := H.alloc hy hb
  clear hy hb hg
  (refine Kr.outS hK (a' := ?_) ?_ ?_; rotate_left; (focus ((try simp only [Kr.PT]); first | done | rfl))); clear hK K
  refine Kr.seqR (by rfl) (fun K hK => ?_)
  refine wp_run rfl (stR (H.at 0 rfl) rfl) ?_
  obtain ⟨y3, hy⟩ : ∃ y, y2.setRow br (rdr (.slice (some ⟨b, off, none⟩) n c) 0 0).toArray = y := ⟨_, rfl⟩
  rw [hy]
  replace H := H.put 0 hy rfl
  dsimp only [List.set] at H
  clear hy
  (refine Kr.outS hK (a' := ?_) ?_ ?_; rotate_left; (focus ((try simp only [Kr.PT]); first | done | rfl))); clear hK K
  refine Kr.seqDoneW ?_
  clear C1
  go_upto_region 4 with fail
  refine Kr.seqStartW ?_
  refine Kr.seqR (by rfl) (fun K hK => ?_)
  go_simp
  go_at_call 40
  have hbl : b < w.heap.size := src_lt HS.out rfl (by omega); have hbr : w.heap.size ≤ br := H.low _ (List.mem_of_getElem? (show [(br, 60, rdr (.slice (some ⟨b, off, none⟩) n c) 0 0), (bz, 25, [.int .i64 0, .int .i64 0, .slice none 0 0, .slice none 0 0])][0]? = some _ from rfl)); have hof : Off br (some ⟨b, off, none⟩) := fun a e => by cases e; show b ≠ br; omega
  refine (item_v 8 (by decide) (ps := 0) (H.at 0 rfl) (HS.out.grow H.g) hof hl (by omega) hc (by omega)).mono ?_
  rintro o9 y4 ⟨v0, v1, v2, v3, ps2, e2, rfl, hone, hh, hg, hp2, hout⟩
  rw [List.drop_zero] at hout; have HONE := Lib.hid hone; clear hone hbl hof
  rw [herr] at hout; obtain ⟨rfl, hne⟩ := hout
  replace H := H.callX 0 rfl hg hh; dsimp only [List.set] at H; clear hh hg
  (refine Kr.outS hK (a' := ?_) ?_ ?_; rotate_left; (focus ((try simp only [Kr.PT]); first | done | rfl))); clear hK K
  refine Kr.seqR (by rfl) (fun K hK => ?_)
  refine wp_runV rfl newI ?_
  obtain ⟨y5, hy⟩ : ∃ y, y4.alloc (.cells ([.int .i64 0, .int .i64 0, .slice none 0 0, .slice none 0 0]).toArray 25) = y := ⟨_, rfl⟩
  obtain ⟨bi, hb⟩ : ∃ b, y4.heap.size = b := ⟨_, rfl⟩
  rw [hy, hb]
  have hg : Gr y4 y5 := hy ▸ (Gr.refl _).alloc _
  replace H := H.alloc hy hb
  clear hy hb hg
  (refine Kr.outS hK (a' := ?_) ?_ ?_; rotate_left; (focus ((try simp only [Kr.PT]); first | done | rfl))); clear hK K
  refine Kr.seqR (by rfl) (fun K hK => ?_)
  refine wp_run rfl (stI (H.at 0 rfl) HONE.out) ?_
  obtain ⟨y6, hy⟩ : ∃ y, y5.setRow bi ([v0, v1, v2, v3]).toArray = y := ⟨_, rfl⟩
  rw [hy]
  replace H := H.put 0 hy rfl
  dsimp only [List.set] at H
  clear hy
  (refine Kr.outS hK (a' := ?_) ?_ ?_; rotate_left; (focus ((try simp only [Kr.PT]); first | done | rfl))); clear hK K
  refine Kr.seqDoneW ?_
  by_cases hlt : ps2 < n
  · have C5 : decide ((ps2 : Int) < (n : Int)) = true := decide_eq_true (by omega)
    go_upto_region 5 with fail
    refine Kr.seqStartW ?_
    (refine Kr.seqQ (v := .pointer (some ⟨br, 1, none⟩)) (a' := ?_) (by rfl) ?_ ?_ ?_; rotate_left 1; (focus (go_simp; first | done | rfl)); (focus ((try simp only [Kr.PT]); first | done | rfl)))
    (refine Kr.seqQ (v := .int .i64 ((ps2 : Nat) : Int)) (a' := ?_) (by rfl) ?_ ?_ ?_; rotate_left 1; (focus (exact Kr.valOf rfl (ldInt (rowCell (j := 1) (H.at 1 rfl) rfl)))); (focus ((try simp only [Kr.PT]); first | done | rfl)))
    (refine Kr.seqQ (v := ?_) (a' := ?_) (by rfl) ?_ ?_ ?_; rotate_left 2; (focus (go_simp; first | done | rfl)); (focus ((try simp only [Kr.PT]); first | done | rfl)))
    (refine Kr.seqQ (v := .int .i64 (n : Int)) (a' := ?_) (by rfl) ?_ ?_ ?_; rotate_left 1; (focus (exact Kr.valOf rfl ((by go_simp)))); (focus ((try simp only [Kr.PT]); first | done | rfl)))
    (refine Kr.seqQ (v := .bool true) (a' := ?_) (by rfl) ?_ ?_ ?_; rotate_left 1; (focus (exact Kr.valOf rfl (lssT C5))); (focus ((try simp only [Kr.PT]); first | done | rfl)))
    refine Kr.seqDoneW ?_
    go_upto_region 6 with fail
    refine Kr.seqStartW ?_
    refine Kr.seqR (by rfl) (fun K hK => ?_)
    go_simp
    go_at_call 41
    refine (fail_not (H.at 1 rfl) hne).mono ?_
    rintro o9 y7 ⟨rfl, hh, hg⟩
    replace H := H.callX 1 rfl hg hh; dsimp only [List.set] at H; clear hh hg
    (refine Kr.outS hK (a' := ?_) ?_ ?_; rotate_left; (focus ((try simp only [Kr.PT]); first | done | rfl))); clear hK K
    refine Kr.seqDoneW ?_
    have C7 : (!decide ((e2 : Int) = 0)) = true := by rw [decide_eq_false hne]; rfl
    go_upto_region 7 with fail
    refine Kr.seqStartW ?_
    (refine Kr.seqQ (v := .pointer (some ⟨br, 2, none⟩)) (a' := ?_) (by rfl) ?_ ?_ ?_; rotate_left 1; (focus (go_simp; first | done | rfl)); (focus ((try simp only [Kr.PT]); first | done | rfl)))
    (refine Kr.seqQ (v := .int .i64 e2) (a' := ?_) (by rfl) ?_ ?_ ?_; rotate_left 1; (focus (exact Kr.valOf rfl (ldErr (rowCell (j := 2) (H.at 1 rfl) rfl)))); (focus ((try simp only [Kr.PT]); first | done | rfl)))
    (refine Kr.seqQ (v := .bool true) (a' := ?_) (by rfl) ?_ ?_ ?_; rotate_left 1; (focus (exact Kr.valOf rfl (neqI C7))); (focus ((try simp only [Kr.PT]); first | done | rfl)))
    refine Kr.seqDoneW ?_
    go_upto_region 8 with fail
    refine Kr.startL (fun W' => True) [3] (by kernel_rfl) ?_
    have gd : Gr y7 y7.drew := (Gr.refl _).drew
    generalize y7.drew = d8 at gd ⊢
    replace H := H.grow gd
    clear gd
    (refine Kr.tPQ 0 (v := ?_) (a' := ?_) rfl (by kernel_rfl) (fun _ _ _ h => h) (by rfl) (fun _ => trivial) (fun wx => ?_) ?_ ?_; rotate_left 2; (focus (go_simp; first | done | rfl)); (focus ((try simp only [Kr.PT]); first | done | rfl)))
    (refine Kr.tPQ 1 (v := ?_) (a' := ?_) rfl (by kernel_rfl) (fun _ _ _ h => h) (by rfl) (fun _ => trivial) (fun wx => ?_) ?_ ?_; rotate_left 2; (focus (go_simp; first | done | rfl)); (focus ((try simp only [Kr.PT]); first | done | rfl)))
    refine Kr.readyL (rs := [2, 3]) (by kernel_rfl) (by simp) ?_
    refine Kr.AllL.cons rfl (fun K hK => ?_) ?_
    · rw [if_pos (by rfl)]
      refine wp_runV (v := .int .i64 e2) rfl (ldErr (H.cell 1 rfl (show _ = some _ from rfl))) ?_
      (refine Kr.outL hK (a' := ?_) ?_ (fun _ => trivial) ?_; rotate_left; (focus ((try simp only [Kr.PT]); first | done | rfl))); clear hK K
      refine Kr.readyL (rs := [3]) (by kernel_rfl) (by simp) ?_
      refine Kr.AllL.cons rfl (fun K hK => ?_) Kr.AllL.nil
      rw [if_pos (by rfl)]
      refine wp_run rfl (stI (H.at 2 rfl) one4) ?_
      obtain ⟨y9, hy⟩ : ∃ y, d8.setRow bz ([.int .i64 0, .int .i64 0, .slice none 0 0, .slice none 0 0]).toArray = y := ⟨_, rfl⟩
      rw [hy]
      replace H := H.put 2 hy rfl
      dsimp only [List.set] at H
      clear hy
      (refine Kr.outL hK (a' := ?_) ?_ (Kr.noStill (by kernel_rfl)) ?_; rotate_left; (focus ((try simp only [Kr.PT]); first | done | rfl))); clear hK K
      (refine Kr.tPQ 4 (v := ?_) (a' := ?_) rfl (by kernel_rfl) (fun _ _ _ h => h) (by rfl) (Kr.noStill (by kernel_rfl)) (fun wx => ?_) ?_ ?_; rotate_left 2; (focus (go_simp; first | done | rfl)); (focus ((try simp only [Kr.PT]); first | done | rfl)))
      refine Kr.doneL (by kernel_rfl) ?_ _
      go_wp2
      refine bodyPost_ret (v := .tuple #[.agg #[.int .i64 0, .int .i64 0, .slice none 0 0, .slice none 0 0], .int .i64 e2]) (results_row_tmp rfl _ _ bz 25 _ _ _ (by rfl) (H.at 2 rfl) Tryd.underlying25 rfl (show _ = some 4 from infoI) (by rfl)) rfl ⟨.int .i64 0, .int .i64 0, .slice none 0 0, .slice none 0 0, e2, rfl, H.g, one4, .inr ⟨hne, rfl, rfl, rfl, rfl, by rw [if_neg (by omega), herr]⟩⟩
    refine Kr.AllL.cons rfl (fun K hK => ?_) Kr.AllL.nil
    rw [if_pos (by rfl)]
    refine wp_run rfl (stI (H.at 2 rfl) one4) ?_
    obtain ⟨y10, hy⟩ : ∃ y, d8.setRow bz ([.int .i64 0, .int .i64 0, .slice none 0 0, .slice none 0 0]).toArray = y := ⟨_, rfl⟩
    rw [hy]
    replace H := H.put 2 hy rfl
    dsimp only [List.set] at H
    clear hy
    (refine Kr.outL hK (a' := ?_) ?_ (Kr.noStill (by kernel_rfl)) ?_; rotate_left; (focus ((try simp only [Kr.PT]); first | done | rfl))); clear hK K
    refine Kr.readyL (rs := [2]) (by kernel_rfl) (by simp) ?_
    refine Kr.AllL.cons rfl (fun K hK => ?_) Kr.AllL.nil
    rw [if_pos (by rfl)]
    refine wp_runV (v := .int .i64 e2) rfl (ldErr (H.cell 1 rfl (show _ = some _ from rfl))) ?_
    (refine Kr.outL hK (a' := ?_) ?_ (Kr.noStill (by kernel_rfl)) ?_; rotate_left; (focus ((try simp only [Kr.PT]); first | done | rfl))); clear hK K
    (refine Kr.tPQ 4 (v := ?_) (a' := ?_) rfl (by kernel_rfl) (fun _ _ _ h => h) (by rfl) (Kr.noStill (by kernel_rfl)) (fun wx => ?_) ?_ ?_; rotate_left 2; (focus (go_simp; first | done | rfl)); (focus ((try simp only [Kr.PT]); first | done | rfl)))
    refine Kr.doneL (by kernel_rfl) ?_ _
    go_wp2
    refine bodyPost_ret (v := .tuple #[.agg #[.int .i64 0, .int .i64 0, .slice none 0 0, .slice none 0 0], .int .i64 e2]) (results_row_tmp rfl _ _ bz 25 _ _ _ (by rfl) (H.at 2 rfl) Tryd.underlying25 rfl (show _ = some 4 from infoI) (by rfl)) rfl ⟨.int .i64 0, .int .i64 0, .slice none 0 0, .slice none 0 0, e2, rfl, H.g, one4, .inr ⟨hne, rfl, rfl, rfl, rfl, by rw [if_neg (by omega), herr]⟩⟩
  · have C5 : decide ((ps2 : Int) < (n : Int)) = false := decide_eq_false (by omega)
    go_upto_region 5 with fail
    refine Kr.seqStartW ?_
    (refine Kr.seqQ (v := .pointer (some ⟨br, 1, none⟩)) (a' := ?_) (by rfl) ?_ ?_ ?_; rotate_left 1; (focus (go_simp; first | done | rfl)); (focus ((try simp only [Kr.PT]); first | done | rfl)))
    (refine Kr.seqQ (v := .int .i64 ((ps2 : Nat) : Int)) (a' := ?_) (by rfl) ?_ ?_ ?_; rotate_left 1; (focus (exact Kr.valOf rfl (ldInt (rowCell (j := 1) (H.at 1 rfl) rfl)))); (focus ((try simp only [Kr.PT]); first | done | rfl)))
    (refine Kr.seqQ (v := ?_) (a' := ?_) (by rfl) ?_ ?_ ?_; rotate_left 2; (focus (go_simp; first | done | rfl)); (focus ((try simp only [Kr.PT]); first | done | rfl)))
    (refine Kr.seqQ (v := .int .i64 (n : Int)) (a' := ?_) (by rfl) ?_ ?_ ?_; rotate_left 1; (focus (exact Kr.valOf rfl ((by go_simp)))); (focus ((try simp only [Kr.PT]); first | done | rfl)))
    (refine Kr.seqQ (v := .bool false) (a' := ?_) (by rfl) ?_ ?_ ?_; rotate_left 1; (focus (exact Kr.valOf rfl (lssT C5))); (focus ((try simp only [Kr.PT]); first | done | rfl)))
    refine Kr.seqDoneW ?_
    have C7 : (!decide ((e2 : Int) = 0)) = true := by rw [decide_eq_false hne]; rfl
    go_upto_region 7 with fail
    refine Kr.seqStartW ?_
    (refine Kr.seqQ (v := .pointer (some ⟨br, 2, none⟩)) (a' := ?_) (by rfl) ?_ ?_ ?_; rotate_left 1; (focus (go_simp; first | done | rfl)); (focus ((try simp only [Kr.PT]); first | done | rfl)))
    (refine Kr.seqQ (v := .int .i64 e2) (a' := ?_) (by rfl) ?_ ?_ ?_; rotate_left 1; (focus (exact Kr.valOf rfl (ldErr (rowCell (j := 2) (H.at 1 rfl) rfl)))); (focus ((try simp only [Kr.PT]); first | done | rfl)))
    (refine Kr.seqQ (v := .bool true) (a' := ?_) (by rfl) ?_ ?_ ?_; rotate_left 1; (focus (exact Kr.valOf rfl (neqI C7))); (focus ((try simp only [Kr.PT]); first | done | rfl)))
    refine Kr.seqDoneW ?_
    go_upto_region 8 with fail
    refine Kr.startL (fun W' => True) [3] (by kernel_rfl) ?_
    have gd : Gr y6 y6.drew := (Gr.refl _).drew
    generalize y6.drew = d11 at gd ⊢
    replace H := H.grow gd
    clear gd
    (refine Kr.tPQ 0 (v := ?_) (a' := ?_) rfl (by kernel_rfl) (fun _ _ _ h => h) (by rfl) (fun _ => trivial) (fun wx => ?_) ?_ ?_; rotate_left 2; (focus (go_simp; first | done | rfl)); (focus ((try simp only [Kr.PT]); first | done | rfl)))
    (refine Kr.tPQ 1 (v := ?_) (a' := ?_) rfl (by kernel_rfl) (fun _ _ _ h => h) (by rfl) (fun _ => trivial) (fun wx => ?_) ?_ ?_; rotate_left 2; (focus (go_simp; first | done | rfl)); (focus ((try simp only [Kr.PT]); first | done | rfl)))
    refine Kr.readyL (rs := [2, 3]) (by kernel_rfl) (by simp) ?_
    refine Kr.AllL.cons rfl (fun K hK => ?_) ?_
    · rw [if_pos (by rfl)]
      refine wp_runV (v := .int .i64 e2) rfl (ldErr (H.cell 1 rfl (show _ = some _ from rfl))) ?_
      (refine Kr.outL hK (a' := ?_) ?_ (fun _ => trivial) ?_; rotate_left; (focus ((try simp only [Kr.PT]); first | done | rfl))); clear hK K
      refine Kr.readyL (rs := [3]) (by kernel_rfl) (by simp) ?_
      refine Kr.AllL.cons rfl (fun K hK => ?_) Kr.AllL.nil
      rw [if_pos (by rfl)]
      refine wp_run rfl (stI (H.at 2 rfl) one4) ?_
      obtain ⟨y12, hy⟩ : ∃ y, d11.setRow bz ([.int .i64 0, .int .i64 0, .slice none 0 0, .slice none 0 0]).toArray = y := ⟨_, rfl⟩
      rw [hy]
      replace H := H.put 2 hy rfl
      dsimp only [List.set] at H
      clear hy
      (refine Kr.outL hK (a' := ?_) ?_ (Kr.noStill (by kernel_rfl)) ?_; rotate_left; (focus ((try simp only [Kr.PT]); first | done | rfl))); clear hK K
      (refine Kr.tPQ 4 (v := ?_) (a' := ?_) rfl (by kernel_rfl) (fun _ _ _ h => h) (by rfl) (Kr.noStill (by kernel_rfl)) (fun wx => ?_) ?_ ?_; rotate_left 2; (focus (go_simp; first | done | rfl)); (focus ((try simp only [Kr.PT]); first | done | rfl)))
      refine Kr.doneL (by kernel_rfl) ?_ _
      go_wp2
      refine bodyPost_ret (v := .tuple #[.agg #[.int .i64 0, .int .i64 0, .slice none 0 0, .slice none 0 0], .int .i64 e2]) (results_row_tmp rfl _ _ bz 25 _ _ _ (by rfl) (H.at 2 rfl) Tryd.underlying25 rfl (show _ = some 4 from infoI) (by rfl)) rfl ⟨.int .i64 0, .int .i64 0, .slice none 0 0, .slice none 0 0, e2, rfl, H.g, one4, .inr ⟨hne, rfl, rfl, rfl, rfl, by rw [if_neg (by omega), herr]⟩⟩
    refine Kr.AllL.cons rfl (fun K hK => ?_) Kr.AllL.nil
    rw [if_pos (by rfl)]
    refine wp_run rfl (stI (H.at 2 rfl) one4) ?_
    obtain ⟨y13, hy⟩ : ∃ y, d11.setRow bz ([.int .i64 0, .int .i64 0, .slice none 0 0, .slice none 0 0]).toArray = y := ⟨_, rfl⟩
    rw [hy]
    replace H := H.put 2 hy rfl
    dsimp only [List.set] at H
    clear hy
    (refine Kr.outL hK (a' := ?_) ?_ (Kr.noStill (by kernel_rfl)) ?_; rotate_left; (focus ((try simp only [Kr.PT]); first | done | rfl))); clear hK K
    refine Kr.readyL (rs := [2]) (by kernel_rfl) (by simp) ?_
    refine Kr.AllL.cons rfl (fun K hK => ?_) Kr.AllL.nil
    rw [if_pos (by rfl)]
    refine wp_runV (v := .int .i64 e2) rfl (ldErr (H.cell 1 rfl (show _ = some _ from rfl))) ?_
    (refine Kr.outL hK (a' := ?_) ?_ (Kr.noStill (by kernel_rfl)) ?_; rotate_left; (focus ((try simp only [Kr.PT]); first | done | rfl))); clear hK K
    (refine Kr.tPQ 4 (v := ?_) (a' := ?_) rfl (by kernel_rfl) (fun _ _ _ h => h) (by rfl) (Kr.noStill (by kernel_rfl)) (fun wx => ?_) ?_ ?_; rotate_left 2; (focus (go_simp; first | done | rfl)); (focus ((try simp only [Kr.PT]); first | done | rfl)))
    refine Kr.doneL (by kernel_rfl) ?_ _
    go_wp2
    refine bodyPost_ret (v := .tuple #[.agg #[.int .i64 0, .int .i64 0, .slice none 0 0, .slice none 0 0], .int .i64 e2]) (results_row_tmp rfl _ _ bz 25 _ _ _ (by rfl) (H.at 2 rfl) Tryd.underlying25 rfl (show _ = some 4 from infoI) (by rfl)) rfl ⟨.int .i64 0, .int .i64 0, .slice none 0 0, .slice none 0 0, e2, rfl, H.g, one4, .inr ⟨hne, rfl, rfl, rfl, rfl, by rw [if_neg (by omega), herr]⟩⟩
set_option linter.unusedSimpArgs false in
set_option maxRecDepth 100000 in
set_option maxHeartbeats 16000000 in
theorem Decode_rest {w : World} {b off n c : Nat}  {l : List (BitVec 8)} (hS : SrcB (some ⟨b, off, none⟩) l w) (hl : l.length = n) (hc : n ≤ c) {t : It} {mm : Nat} (hn : n ≤ 16384) (h0 : 0 < n) (hok : rd 8 l = .ok (t, mm)) (hmm : mm < n) :
    Calls Tryd.prog 17 #[.slice (some ⟨b, off, none⟩) n c] w fun o w' => DecP w l o w' := by
  have HS := Lib.hid hS; clear hS; have hcc := hc; clear hcc
  have H := Ow.start w
  go_enter Tryd.func17, Tryd.ntmps17
  go_upto_region 0 with fail
  refine Kr.seqStartW ?_
  refine Kr.seqR (by rfl) (fun K hK => ?_)
  refine wp_runV rfl newI ?_
  obtain ⟨y1, hy⟩ : ∃ y, w.alloc (.cells ([.int .i64 0, .int .i64 0, .slice none 0 0, .slice none 0 0]).toArray 25) = y := ⟨_, rfl⟩
  obtain ⟨bz, hb⟩ : ∃ b, w.heap.size = b := ⟨_, rfl⟩
  rw [hy, hb]
  have hg : Gr w y1 := hy ▸ (Gr.refl _).alloc _
  replace H := H.alloc hy hb
  clear hy hb hg
  (refine Kr.outS hK (a' := ?_) ?_ ?_; rotate_left; (focus ((try simp only [Kr.PT]); first | done | rfl))); clear hK K
  (refine Kr.seqQ (v := ?_) (a' := ?_) (by rfl) ?_ ?_ ?_; rotate_left 2; (focus (go_simp; first | done | rfl)); (focus ((try simp only [Kr.PT]); first | done | rfl)))
  refine Kr.seqDoneW ?_
  have C1 : decide ((16384 : Int) < (n : Int)) = false := decide_eq_false (by omega)
  go_upto_region 1 with fail
  refine Kr.seqStartW ?_
  (refine Kr.seqQ (v := ?_) (a' := ?_) (by rfl) ?_ ?_ ?_; rotate_left 2; (focus (go_simp; first | done | rfl)); (focus ((try simp only [Kr.PT]); first | done | rfl)))
  (refine Kr.seqQ (v := .int .i64 (n : Int)) (a' := ?_) (by rfl) ?_ ?_ ?_; rotate_left 1; (focus (exact Kr.valOf rfl ((by go_simp)))); (focus ((try simp only [Kr.PT]); first | done | rfl)))
  (refine Kr.seqQ (v := .bool false) (a' := ?_) (by rfl) ?_ ?_ ?_; rotate_left 1; (focus (exact Kr.valOf rfl (gtrI C1))); (focus ((try simp only [Kr.PT]); first | done | rfl)))
  refine Kr.seqDoneW ?_
  go_upto_region 3 with fail
  refine Kr.seqStartW ?_
  (refine Kr.seqQ (v := ?_) (a' := ?_) (by rfl) ?_ ?_ ?_; rotate_left 2; (focus (go_simp; first | done | rfl)); (focus ((try simp only [Kr.PT]); first | done | rfl)))
  (refine Kr.seqQ (v := .agg #[.slice (some ⟨b, off, none⟩) n c, .int .i64 0, .int .i64 0]) (a' := ?_) (by rfl) ?_ ?_ ?_; rotate_left 1; (focus (go_simp; first | done | rfl)); (focus ((try simp only [Kr.PT]); first | done | rfl)))
  refine Kr.seqR (by rfl) (fun K hK => ?_)
  refine wp_runV rfl newR ?_
  obtain ⟨y2, hy⟩ : ∃ y, y1.alloc (.cells (rdr (.slice none 0 0) 0 0).toArray 60) = y := ⟨_, rfl⟩
  obtain ⟨br, hb⟩ : ∃ b, y1.heap.size = b := ⟨_, rfl⟩
  rw [hy, hb]
  have hg : Gr y1 y2 := hy ▸ (Gr.refl _).alloc _
  replace H := H.alloc hy hb
  clear hy hb hg
  (refine Kr.outS hK (a' := ?_) ?_ ?_; rotate_left; (focus ((try simp only [Kr.PT]); first | done | rfl))); clear hK K
  refine Kr.seqR (by rfl) (fun K hK => ?_)
  refine wp_run rfl (stR (H.at 0 rfl) rfl) ?_
  obtain ⟨y3, hy⟩ : ∃ y, y2.setRow br (rdr (.slice (some ⟨b, off, none⟩) n c) 0 0).toArray = y := ⟨_, rfl⟩
  rw [hy]
  replace H := H.put 0 hy rfl
  dsimp only [List.set] at H
  clear hy
  (refine Kr.outS hK (a' := ?_) ?_ ?_; rotate_left; (focus ((try simp only [Kr.PT]); first | done | rfl))); clear hK K
  refine Kr.seqDoneW ?_
  clear C1
  go_upto_region 4 with fail
  refine Kr.seqStartW ?_
  refine Kr.seqR (by rfl) (fun K hK => ?_)
  go_simp
  go_at_call 40
  have hbl : b < w.heap.size := src_lt HS.out rfl (by omega); have hbr : w.heap.size ≤ br := H.low _ (List.mem_of_getElem? (show [(br, 60, rdr (.slice (some ⟨b, off, none⟩) n c) 0 0), (bz, 25, [.int .i64 0, .int .i64 0, .slice none 0 0, .slice none 0 0])][0]? = some _ from rfl)); have hof : Off br (some ⟨b, off, none⟩) := fun a e => by cases e; show b ≠ br; omega
  refine (item_v 8 (by decide) (ps := 0) (H.at 0 rfl) (HS.out.grow H.g) hof hl (by omega) hc (by omega)).mono ?_
  rintro o9 y4 ⟨v0, v1, v2, v3, ps2, e2, rfl, hone, hh, hg, hp2, hout⟩
  rw [List.drop_zero] at hout; have HONE := Lib.hid hone; clear hone hbl hof
  rw [hok] at hout; obtain ⟨rfl, hpe, hit⟩ := hout; rw [Nat.zero_add] at hpe; have hpe2 := hpe.symm; clear hpe; subst hpe2
  replace H := H.callX 0 rfl hg hh; dsimp only [List.set] at H; clear hh hg
  (refine Kr.outS hK (a' := ?_) ?_ ?_; rotate_left; (focus ((try simp only [Kr.PT]); first | done | rfl))); clear hK K
  refine Kr.seqR (by rfl) (fun K hK => ?_)
  refine wp_runV rfl newI ?_
  obtain ⟨y5, hy⟩ : ∃ y, y4.alloc (.cells ([.int .i64 0, .int .i64 0, .slice none 0 0, .slice none 0 0]).toArray 25) = y := ⟨_, rfl⟩
  obtain ⟨bi, hb⟩ : ∃ b, y4.heap.size = b := ⟨_, rfl⟩
  rw [hy, hb]
  have hg : Gr y4 y5 := hy ▸ (Gr.refl _).alloc _
  replace H := H.alloc hy hb
  clear hy hb hg
  (refine Kr.outS hK (a' := ?_) ?_ ?_; rotate_left; (focus ((try simp only [Kr.PT]); first | done | rfl))); clear hK K
  refine Kr.seqR (by rfl) (fun K hK => ?_)
  refine wp_run rfl (stI (H.at 0 rfl) HONE.out) ?_
  obtain ⟨y6, hy⟩ : ∃ y, y5.setRow bi ([v0, v1, v2, v3]).toArray = y := ⟨_, rfl⟩
  rw [hy]
  replace H := H.put 0 hy rfl
  dsimp only [List.set] at H
  clear hy
  (refine Kr.outS hK (a' := ?_) ?_ ?_; rotate_left; (focus ((try simp only [Kr.PT]); first | done | rfl))); clear hK K
  refine Kr.seqDoneW ?_
  have C5 : decide ((mm : Int) < (n : Int)) = true := decide_eq_true (by omega)
  go_upto_region 5 with fail
  refine Kr.seqStartW ?_
  (refine Kr.seqQ (v := .pointer (some ⟨br, 1, none⟩)) (a' := ?_) (by rfl) ?_ ?_ ?_; rotate_left 1; (focus (go_simp; first | done | rfl)); (focus ((try simp only [Kr.PT]); first | done | rfl)))
  (refine Kr.seqQ (v := .int .i64 ((mm : Nat) : Int)) (a' := ?_) (by rfl) ?_ ?_ ?_; rotate_left 1; (focus (exact Kr.valOf rfl (ldInt (rowCell (j := 1) (H.at 1 rfl) rfl)))); (focus ((try simp only [Kr.PT]); first | done | rfl)))
  (refine Kr.seqQ (v := ?_) (a' := ?_) (by rfl) ?_ ?_ ?_; rotate_left 2; (focus (go_simp; first | done | rfl)); (focus ((try simp only [Kr.PT]); first | done | rfl)))
  (refine Kr.seqQ (v := .int .i64 (n : Int)) (a' := ?_) (by rfl) ?_ ?_ ?_; rotate_left 1; (focus (exact Kr.valOf rfl ((by go_simp)))); (focus ((try simp only [Kr.PT]); first | done | rfl)))
  (refine Kr.seqQ (v := .bool true) (a' := ?_) (by rfl) ?_ ?_ ?_; rotate_left 1; (focus (exact Kr.valOf rfl (lssT C5))); (focus ((try simp only [Kr.PT]); first | done | rfl)))
  refine Kr.seqDoneW ?_
  go_upto_region 6 with fail
  refine Kr.seqStartW ?_
  refine Kr.seqR (by rfl) (fun K hK => ?_)
  go_simp
  go_at_call 41
  refine (fail_set (H.at 1 rfl)).mono ?_
  rintro o9 y7 ⟨rfl, hh, hg⟩
  replace H := H.callX 1 rfl hg hh; dsimp only [List.set] at H; clear hh hg
  (refine Kr.outS hK (a' := ?_) ?_ ?_; rotate_left; (focus ((try simp only [Kr.PT]); first | done | rfl))); clear hK K
  refine Kr.seqDoneW ?_
  have C7 : (!decide ((3 : Int) = 0)) = true := by rw [decide_eq_false (by decide)]; rfl
  go_upto_region 7 with fail
  refine Kr.seqStartW ?_
  (refine Kr.seqQ (v := .pointer (some ⟨br, 2, none⟩)) (a' := ?_) (by rfl) ?_ ?_ ?_; rotate_left 1; (focus (go_simp; first | done | rfl)); (focus ((try simp only [Kr.PT]); first | done | rfl)))
  (refine Kr.seqQ (v := .int .i64 3) (a' := ?_) (by rfl) ?_ ?_ ?_; rotate_left 1; (focus (exact Kr.valOf rfl (ldErr (rowCell (j := 2) (H.at 1 rfl) rfl)))); (focus ((try simp only [Kr.PT]); first | done | rfl)))
  (refine Kr.seqQ (v := .bool true) (a' := ?_) (by rfl) ?_ ?_ ?_; rotate_left 1; (focus (exact Kr.valOf rfl (neqI C7))); (focus ((try simp only [Kr.PT]); first | done | rfl)))
  refine Kr.seqDoneW ?_
  go_upto_region 8 with fail
  refine Kr.startL (fun W' => True) [3] (by kernel_rfl) ?_
  have gd : Gr y7 y7.drew := (Gr.refl _).drew
  generalize y7.drew = d8 at gd ⊢
  replace H := H.grow gd
  clear gd
  (refine Kr.tPQ 0 (v := ?_) (a' := ?_) rfl (by kernel_rfl) (fun _ _ _ h => h) (by rfl) (fun _ => trivial) (fun wx => ?_) ?_ ?_; rotate_left 2; (focus (go_simp; first | done | rfl)); (focus ((try simp only [Kr.PT]); first | done | rfl)))
  (refine Kr.tPQ 1 (v := ?_) (a' := ?_) rfl (by kernel_rfl) (fun _ _ _ h => h) (by rfl) (fun _ => trivial) (fun wx => ?_) ?_ ?_; rotate_left 2; (focus (go_simp; first | done | rfl)); (focus ((try simp only [Kr.PT]); first | done | rfl)))
  refine Kr.readyL (rs := [2, 3]) (by kernel_rfl) (by simp) ?_
  refine Kr.AllL.cons rfl (fun K hK => ?_) ?_
  · rw [if_pos (by rfl)]
    refine wp_runV (v := .int .i64 3) rfl (ldErr (H.cell 1 rfl (show _ = some _ from rfl))) ?_
    (refine Kr.outL hK (a' := ?_) ?_ (fun _ => trivial) ?_; rotate_left; (focus ((try simp only [Kr.PT]); first | done | rfl))); clear hK K
    refine Kr.readyL (rs := [3]) (by kernel_rfl) (by simp) ?_
    refine Kr.AllL.cons rfl (fun K hK => ?_) Kr.AllL.nil
    rw [if_pos (by rfl)]
    refine wp_run rfl (stI (H.at 2 rfl) one4) ?_
    obtain ⟨y9, hy⟩ : ∃ y, d8.setRow bz ([.int .i64 0, .int .i64 0, .slice none 0 0, .slice none 0 0]).toArray = y := ⟨_, rfl⟩
    rw [hy]
    replace H := H.put 2 hy rfl
    dsimp only [List.set] at H
    clear hy
    (refine Kr.outL hK (a' := ?_) ?_ (Kr.noStill (by kernel_rfl)) ?_; rotate_left; (focus ((try simp only [Kr.PT]); first | done | rfl))); clear hK K
    (refine Kr.tPQ 4 (v := ?_) (a' := ?_) rfl (by kernel_rfl) (fun _ _ _ h => h) (by rfl) (Kr.noStill (by kernel_rfl)) (fun wx => ?_) ?_ ?_; rotate_left 2; (focus (go_simp; first | done | rfl)); (focus ((try simp only [Kr.PT]); first | done | rfl)))
    refine Kr.doneL (by kernel_rfl) ?_ _
    go_wp2
    refine bodyPost_ret (v := .tuple #[.agg #[.int .i64 0, .int .i64 0, .slice none 0 0, .slice none 0 0], .int .i64 3]) (results_row_tmp rfl _ _ bz 25 _ _ _ (by rfl) (H.at 2 rfl) Tryd.underlying25 rfl (show _ = some 4 from infoI) (by rfl)) rfl ⟨.int .i64 0, .int .i64 0, .slice none 0 0, .slice none 0 0, 3, rfl, H.g, one4, .inr ⟨by decide, rfl, rfl, rfl, rfl, by rw [if_neg (by omega), hok]; exact ⟨by omega, rfl⟩⟩⟩
  refine Kr.AllL.cons rfl (fun K hK => ?_) Kr.AllL.nil
  rw [if_pos (by rfl)]
  refine wp_run rfl (stI (H.at 2 rfl) one4) ?_
  obtain ⟨y10, hy⟩ : ∃ y, d8.setRow bz ([.int .i64 0, .int .i64 0, .slice none 0 0, .slice none 0 0]).toArray = y := ⟨_, rfl⟩
  rw [hy]
  replace H := H.put 2 hy rfl
  dsimp only [List.set] at H
  clear hy
  (refine Kr.outL hK (a' := ?_) ?_ (Kr.noStill (by kernel_rfl)) ?_; rotate_left; (focus ((try simp only [Kr.PT]); first | done | rfl))); clear hK K
  refine Kr.readyL (rs := [2]) (by kernel_rfl) (by simp) ?_
  refine Kr.AllL.cons rfl (fun K hK => ?_) Kr.AllL.nil
  rw [if_pos (by rfl)]
  refine wp_runV (v := .int .i64 3) rfl (ldErr (H.cell 1 rfl (show _ = some _ from rfl))) ?_
  (refine Kr.outL hK (a' := ?_) ?_ (Kr.noStill (by kernel_rfl)) ?_; rotate_left; (focus ((try simp only [Kr.PT]); first | done | rfl))); clear hK K
  (refine Kr.tPQ 4 (v := ?_) (a' := ?_) rfl (by kernel_rfl) (fun _ _ _ h => h) (by rfl) (Kr.noStill (by kernel_rfl)) (fun wx => ?_) ?_ ?_; rotate_left 2; (focus (go_simp; first | done | rfl)); (focus ((try simp only [Kr.PT]); first | done | rfl)))
  refine Kr.doneL (by kernel_rfl) ?_ _
  go_wp2
  refine bodyPost_ret (v := .tuple #[.agg #[.int .i64 0, .int .i64 0, .slice none 0 0, .slice none 0 0], .int .i64 3]) (results_row_tmp rfl _ _ bz 25 _ _ _ (by rfl) (H.at 2 rfl) Tryd.underlying25 rfl (show _ = some 4 from infoI) (by rfl)) rfl ⟨.int .i64 0, .int .i64 0, .slice none 0 0, .slice none 0 0, 3, rfl, H.g, one4, .inr ⟨by decide, rfl, rfl, rfl, rfl, by rw [if_neg (by omega), hok]; exact ⟨by omega, rfl⟩⟩⟩
set_option linter.unusedSimpArgs false in
set_option maxRecDepth 100000 in
set_option maxHeartbeats 16000000 in
theorem Decode_ok {w : World} {b off n c : Nat}  {l : List (BitVec 8)} (hS : SrcB (some ⟨b, off, none⟩) l w) (hl : l.length = n) (hc : n ≤ c) {t : It} (hn : n ≤ 16384) (h0 : 0 < n) (hok : rd 8 l = .ok (t, n)) :
    Calls Tryd.prog 17 #[.slice (some ⟨b, off, none⟩) n c] w fun o w' => DecP w l o w' := by
  have HS := Lib.hid hS; clear hS; have hcc := hc; clear hcc
  have H := Ow.start w
  go_enter Tryd.func17, Tryd.ntmps17
  go_upto_region 0 with fail
  refine Kr.seqStartW ?_
  refine Kr.seqR (by rfl) (fun K hK => ?_)
  refine wp_runV rfl newI ?_
  obtain ⟨y1, hy⟩ : ∃ y, w.alloc (.cells ([.int .i64 0, .int .i64 0, .slice none 0 0, .slice none 0 0]).toArray 25) = y := ⟨_, rfl⟩
  obtain ⟨bz, hb⟩ : ∃ b, w.heap.size = b := ⟨_, rfl⟩
  rw [hy, hb]
  have hg : Gr w y1 := hy ▸ (Gr.refl _).alloc _
  replace H := H.alloc hy hb
  clear hy hb hg
  (refine Kr.outS hK (a' := ?_) ?_ ?_; rotate_left; (focus ((try simp only [Kr.PT]); first | done | rfl))); clear hK K
  (refine Kr.seqQ (v := ?_) (a' := ?_) (by rfl) ?_ ?_ ?_; rotate_left 2; (focus (go_simp; first | done | rfl)); (focus ((try simp only [Kr.PT]); first | done | rfl)))
  refine Kr.seqDoneW ?_
  have C1 : decide ((16384 : Int) < (n : Int)) = false := decide_eq_false (by omega)
  go_upto_region 1 with fail
  refine Kr.seqStartW ?_
  (refine Kr.seqQ (v := ?_) (a' := ?_) (by rfl) ?_ ?_ ?_; rotate_left 2; (focus (go_simp; first | done | rfl)); (focus ((try simp only [Kr.PT]); first | done | rfl)))
  (refine Kr.seqQ (v := .int .i64 (n : Int)) (a' := ?_) (by rfl) ?_ ?_ ?_; rotate_left 1; (focus (exact Kr.valOf rfl ((by go_simp)))); (focus ((try simp only [Kr.PT]); first | done | rfl)))
  (refine Kr.seqQ (v := .bool false) (a' := ?_) (by rfl) ?_ ?_ ?_; rotate_left 1; (focus (exact Kr.valOf rfl (gtrI C1))); (focus ((try simp only [Kr.PT]); first | done | rfl)))
  refine Kr.seqDoneW ?_
  go_upto_region 3 with fail
  refine Kr.seqStartW ?_
  (refine Kr.seqQ (v := ?_) (a' := ?_) (by rfl) ?_ ?_ ?_; rotate_left 2; (focus (go_simp; first | done | rfl)); (focus ((try simp only [Kr.PT]); first | done | rfl)))
  (refine Kr.seqQ (v := .agg #[.slice (some ⟨b, off, none⟩) n c, .int .i64 0, .int .i64 0]) (a' := ?_) (by rfl) ?_ ?_ ?_; rotate_left 1; (focus (go_simp; first | done | rfl)); (focus ((try simp only [Kr.PT]); first | done | rfl)))
  refine Kr.seqR (by rfl) (fun K hK => ?_)
  refine wp_runV rfl newR ?_
  obtain ⟨y2, hy⟩ : ∃ y, y1.alloc (.cells (rdr (.slice none 0 0) 0 0).toArray 60) = y := ⟨_, rfl⟩
  obtain ⟨br, hb⟩ : ∃ b, y1.heap.size = b := ⟨_, rfl⟩
  rw [hy, hb]
  have hg : Gr y1 y2 := hy ▸ (Gr.refl _).alloc _
  replace H := H.alloc hy hb
  clear hy hb hg
  (refine Kr.outS hK (a' := ?_) ?_ ?_; rotate_left; (focus ((try simp only [Kr.PT]); first | done | rfl))); clear hK K
  refine Kr.seqR (by rfl) (fun K hK => ?_)
  refine wp_run rfl (stR (H.at 0 rfl) rfl) ?_
  obtain ⟨y3, hy⟩ : ∃ y, y2.setRow br (rdr (.slice (some ⟨b, off, none⟩) n c) 0 0).toArray = y := ⟨_, rfl⟩
  rw [hy]
  replace H := H.put 0 hy rfl
  dsimp only [List.set] at H
  clear hy
  (refine Kr.outS hK (a' := ?_) ?_ ?_; rotate_left; (focus ((try simp only [Kr.PT]); first | done | rfl))); clear hK K
  refine Kr.seqDoneW ?_
  clear C1
  go_upto_region 4 with fail
  refine Kr.seqStartW ?_
  refine Kr.seqR (by rfl) (fun K hK => ?_)
  go_simp
  go_at_call 40
  have hbl : b < w.heap.size := src_lt HS.out rfl (by omega); have hbr : w.heap.size ≤ br := H.low _ (List.mem_of_getElem? (show [(br, 60, rdr (.slice (some ⟨b, off, none⟩) n c) 0 0), (bz, 25, [.int .i64 0, .int .i64 0, .slice none 0 0, .slice none 0 0])][0]? = some _ from rfl)); have hof : Off br (some ⟨b, off, none⟩) := fun a e => by cases e; show b ≠ br; omega
  refine (item_v 8 (by decide) (ps := 0) (H.at 0 rfl) (HS.out.grow H.g) hof hl (by omega) hc (by omega)).mono ?_
  rintro o9 y4 ⟨v0, v1, v2, v3, ps2, e2, rfl, hone, hh, hg, hp2, hout⟩
  rw [List.drop_zero] at hout; have HONE := Lib.hid hone; clear hone hbl hof
  rw [hok] at hout; obtain ⟨rfl, hpe, hit⟩ := hout; rw [Nat.zero_add] at hpe; have hpe2 := hpe.symm; clear hpe; subst hpe2
  obtain ⟨FF, hFF⟩ : ∃ z : Nat → Prop, (fun b => y3.heap.size ≤ b ∧ b < y4.heap.size) = z := ⟨_, rfl⟩; rw [hFF] at hit; have hsw := H.g.size; have hbz : bz < y3.heap.size := lt_of_heap (H.at 1 rfl)
  have HFz : Hid (¬ FF bz) := Lib.hid (by rw [← hFF]; exact fun h => by have := h.1; omega)
  have HFn : Hid (∀ b, y4.heap.size ≤ b → ¬ FF b) := Lib.hid (fun b hb => by rw [← hFF]; exact fun h => by have := h.2; omega)
  have HFF : Hid (∀ b, FF b → w.heap.size ≤ b ∧ b < y4.heap.size) := Lib.hid (fun b hb => by rw [← hFF] at hb; exact ⟨Nat.le_trans hsw hb.1, hb.2⟩)
  have HIT := Lib.hid hit; have HSZ := Lib.hid (Nat.le_refl y4.heap.size); clear hit hFF hsw hbz
  replace H := H.callX 0 rfl hg hh; dsimp only [List.set] at H; clear hh hg
  (refine Kr.outS hK (a' := ?_) ?_ ?_; rotate_left; (focus ((try simp only [Kr.PT]); first | done | rfl))); clear hK K
  refine Kr.seqR (by rfl) (fun K hK => ?_)
  refine wp_runV rfl newI ?_
  obtain ⟨y5, hy⟩ : ∃ y, y4.alloc (.cells ([.int .i64 0, .int .i64 0, .slice none 0 0, .slice none 0 0]).toArray 25) = y := ⟨_, rfl⟩
  obtain ⟨bi, hb⟩ : ∃ b, y4.heap.size = b := ⟨_, rfl⟩
  rw [hy, hb]
  have HFi : Hid (¬ FF bi) := Lib.hid (HFn.out _ (by omega))
  have HSZ2 := Lib.hid (Nat.le_trans HSZ.out ((hy ▸ (Gr.refl _).alloc _ : Gr y4 y5).size))
  have hg : Gr y4 y5 := hy ▸ (Gr.refl _).alloc _
  replace H := H.alloc hy hb
  replace HIT := Lib.hid (HIT.out.grow hg)
  clear hy hb hg
  replace HSZ := HSZ2; clear HSZ2
  (refine Kr.outS hK (a' := ?_) ?_ ?_; rotate_left; (focus ((try simp only [Kr.PT]); first | done | rfl))); clear hK K
  refine Kr.seqR (by rfl) (fun K hK => ?_)
  refine wp_run rfl (stI (H.at 0 rfl) HONE.out) ?_
  have hkp := HIT.out.kept (same_put (W := y5) (b := bi) (cs := ([v0, v1, v2, v3] : List Value).toArray) HFi.out); have hsz := Nat.le_trans HSZ.out (Nat.le_of_eq (size_put (W := y5) (b := bi) (cs := ([v0, v1, v2, v3] : List Value).toArray)).symm)
  obtain ⟨y6, hy⟩ : ∃ y, y5.setRow bi ([v0, v1, v2, v3] : List Value).toArray = y := ⟨_, rfl⟩; rw [hy]; rw [hy] at hkp hsz; replace HIT := Lib.hid hkp; replace HSZ := Lib.hid hsz; clear hkp hsz
  replace H := H.put 0 hy rfl; dsimp only [List.set] at H; clear hy
  (refine Kr.outS hK (a' := ?_) ?_ ?_; rotate_left; (focus ((try simp only [Kr.PT]); first | done | rfl))); clear hK K
  refine Kr.seqDoneW ?_
  have C5 : decide ((n : Int) < (n : Int)) = false := decide_eq_false (by omega)
  go_upto_region 5 with fail
  refine Kr.seqStartW ?_
  (refine Kr.seqQ (v := .pointer (some ⟨br, 1, none⟩)) (a' := ?_) (by rfl) ?_ ?_ ?_; rotate_left 1; (focus (go_simp; first | done | rfl)); (focus ((try simp only [Kr.PT]); first | done | rfl)))
  (refine Kr.seqQ (v := .int .i64 ((n : Nat) : Int)) (a' := ?_) (by rfl) ?_ ?_ ?_; rotate_left 1; (focus (exact Kr.valOf rfl (ldInt (rowCell (j := 1) (H.at 1 rfl) rfl)))); (focus ((try simp only [Kr.PT]); first | done | rfl)))
  (refine Kr.seqQ (v := ?_) (a' := ?_) (by rfl) ?_ ?_ ?_; rotate_left 2; (focus (go_simp; first | done | rfl)); (focus ((try simp only [Kr.PT]); first | done | rfl)))
  (refine Kr.seqQ (v := .int .i64 (n : Int)) (a' := ?_) (by rfl) ?_ ?_ ?_; rotate_left 1; (focus (exact Kr.valOf rfl ((by go_simp)))); (focus ((try simp only [Kr.PT]); first | done | rfl)))
  (refine Kr.seqQ (v := .bool false) (a' := ?_) (by rfl) ?_ ?_ ?_; rotate_left 1; (focus (exact Kr.valOf rfl (lssT C5))); (focus ((try simp only [Kr.PT]); first | done | rfl)))
  refine Kr.seqDoneW ?_
  have C7 : (!decide ((0 : Int) = 0)) = false := rfl
  go_upto_region 7 with fail
  refine Kr.seqStartW ?_
  (refine Kr.seqQ (v := .pointer (some ⟨br, 2, none⟩)) (a' := ?_) (by rfl) ?_ ?_ ?_; rotate_left 1; (focus (go_simp; first | done | rfl)); (focus ((try simp only [Kr.PT]); first | done | rfl)))
  (refine Kr.seqQ (v := .int .i64 0) (a' := ?_) (by rfl) ?_ ?_ ?_; rotate_left 1; (focus (exact Kr.valOf rfl (ldErr (rowCell (j := 2) (H.at 1 rfl) rfl)))); (focus ((try simp only [Kr.PT]); first | done | rfl)))
  (refine Kr.seqQ (v := .bool false) (a' := ?_) (by rfl) ?_ ?_ ?_; rotate_left 1; (focus (exact Kr.valOf rfl (neqI C7))); (focus ((try simp only [Kr.PT]); first | done | rfl)))
  refine Kr.seqDoneW ?_
  go_upto_region 9 with fail
  refine Kr.seqStartW ?_
  (refine Kr.seqQ (v := .agg #[v0, v1, v2, v3]) (a' := ?_) (by rfl) ?_ ?_ ?_; rotate_left 1; (focus (exact Kr.valOf rfl (ldI (H.at 0 rfl)))); (focus ((try simp only [Kr.PT]); first | done | rfl)))
  refine Kr.seqR (by rfl) (fun K hK => ?_)
  refine wp_run rfl (stI (H.at 2 rfl) HONE.out) ?_
  have hkp := HIT.out.kept (same_put (W := y6) (b := bz) (cs := ([v0, v1, v2, v3] : List Value).toArray) HFz.out); have hsz := Nat.le_trans HSZ.out (Nat.le_of_eq (size_put (W := y6) (b := bz) (cs := ([v0, v1, v2, v3] : List Value).toArray)).symm)
  obtain ⟨y7, hy⟩ : ∃ y, y6.setRow bz ([v0, v1, v2, v3] : List Value).toArray = y := ⟨_, rfl⟩; rw [hy]; rw [hy] at hkp hsz; replace HIT := Lib.hid hkp; replace HSZ := Lib.hid hsz; clear hkp hsz
  replace H := H.put 2 hy rfl; dsimp only [List.set] at H; clear hy
  (refine Kr.outS hK (a' := ?_) ?_ ?_; rotate_left; (focus ((try simp only [Kr.PT]); first | done | rfl))); clear hK K
  (refine Kr.seqQ (v := ?_) (a' := ?_) (by rfl) ?_ ?_ ?_; rotate_left 2; (focus (go_simp; first | done | rfl)); (focus ((try simp only [Kr.PT]); first | done | rfl)))
  refine Kr.seqDoneW ?_
  go_wp2
  refine bodyPost_ret (v := .tuple #[.agg #[v0, v1, v2, v3], .int .i64 0]) (results_row_tmp rfl _ _ bz 25 _ _ _ (by rfl) (H.at 2 rfl) Tryd.underlying25 rfl (show _ = some 4 from infoI) (by rfl)) rfl ⟨v0, v1, v2, v3, 0, rfl, H.g, HONE.out, .inl ⟨rfl, t, by omega, by rw [hok, hl], HIT.out.mono (fun b hb => ⟨(HFF.out b hb).1, Nat.lt_of_lt_of_le (HFF.out b hb).2 HSZ.out⟩)⟩⟩
end Go.Proofs.YtcngcdfngifjnaaDoor.Dg


/- What is read is what was written. -/
namespace Go.Proofs.YtcngcdfngifjnaaDoor.Dg
open Go Go.RowKit Go.Proofs.YtcngcdfngifjnaaDoor.Ne Go.Proofs.YtcngcdfngifjnaaDoor.Kr

/-- The bytes as one number. -/
def nbN : List (BitVec 8) → Nat → Nat
  | [], a => a
  | x :: l, a => nbN l (a * 256 + x.toNat)
theorem nb_fold : ∀ (l : List (BitVec 8)) (a : BitVec 64), a.toNat < 256 ^ (8 - l.length) → l.length ≤ 8 → (l.foldl (fun (a : BitVec 64) (x : BitVec 8) => (a <<< 8) ||| x.setWidth 64) a).toNat = nbN l a.toNat
  | [], a, _, _ => rfl
  | x :: l, a, h, hl => by
    have hx := x.isLt
    rw [List.length_cons] at h hl
    have h7 : (256 : Nat) ^ (8 - (l.length + 1)) ≤ 72057594037927936 := by
      have : (256 : Nat) ^ (8 - (l.length + 1)) ≤ 256 ^ 7 := Nat.pow_le_pow_right (by decide) (by omega)
      exact this
    have hs := nb_step a x (by omega)
    have hp : (256 : Nat) ^ (8 - l.length) = 256 ^ (8 - (l.length + 1)) * 256 := by rw [← Nat.pow_succ]; congr 1; omega
    rw [List.foldl_cons, nb_fold l _ (by rw [hs, hp]; omega) (by omega), hs]
    rfl
theorem nb_nat {l : List (BitVec 8)} (h : l.length ≤ 8) : (nb l).toNat = nbN l 0 := nb_fold l 0#64 (by show 0 < _; exact Nat.pow_pos (by decide)) h
theorem byt_nat (N : Nat) (j : Nat) : byt (N : Int) j = BitVec.ofNat 8 (N / 2 ^ (8 * j)) := by
  unfold byt
  rw [show ((N : Int) / 2 ^ (8 * j)) = ((N / 2 ^ (8 * j) : Nat) : Int) by simp, BitVec.ofInt_natCast]
theorem byt_int (X : BitVec 64) : ∀ j, j < 8 → byt X.toInt j = BitVec.ofNat 8 (X.toNat / 2 ^ (8 * j))
  | 0, _ => by
    unfold byt
    apply BitVec.eq_of_toNat_eq
    rw [BitVec.toNat_ofInt, BitVec.toNat_ofNat, BitVec.toInt_eq_toNat_cond]
    have := X.isLt
    have e1 : ((2 : Int) ^ (8 * 0)) = 1 := by decide
    have e2 : ((2 : Nat) ^ (8 * 0)) = 1 := by decide
    rw [e1, e2]
    split <;> omega
  | 1, _ => by
    unfold byt
    apply BitVec.eq_of_toNat_eq
    rw [BitVec.toNat_ofInt, BitVec.toNat_ofNat, BitVec.toInt_eq_toNat_cond]
    have := X.isLt
    have e1 : ((2 : Int) ^ (8 * 1)) = 256 := by decide
    have e2 : ((2 : Nat) ^ (8 * 1)) = 256 := by decide
    rw [e1, e2]
    split <;> omega
  | 2, _ => by
    unfold byt
    apply BitVec.eq_of_toNat_eq
    rw [BitVec.toNat_ofInt, BitVec.toNat_ofNat, BitVec.toInt_eq_toNat_cond]
    have := X.isLt
    have e1 : ((2 : Int) ^ (8 * 2)) = 65536 := by decide
    have e2 : ((2 : Nat) ^ (8 * 2)) = 65536 := by decide
    rw [e1, e2]
    split <;> omega
  | 3, _ => by
    unfold byt
    apply BitVec.eq_of_toNat_eq
    rw [BitVec.toNat_ofInt, BitVec.toNat_ofNat, BitVec.toInt_eq_toNat_cond]
    have := X.isLt
    have e1 : ((2 : Int) ^ (8 * 3)) = 16777216 := by decide
    have e2 : ((2 : Nat) ^ (8 * 3)) = 16777216 := by decide
    rw [e1, e2]
    split <;> omega
  | 4, _ => by
    unfold byt
    apply BitVec.eq_of_toNat_eq
    rw [BitVec.toNat_ofInt, BitVec.toNat_ofNat, BitVec.toInt_eq_toNat_cond]
    have := X.isLt
    have e1 : ((2 : Int) ^ (8 * 4)) = 4294967296 := by decide
    have e2 : ((2 : Nat) ^ (8 * 4)) = 4294967296 := by decide
    rw [e1, e2]
    split <;> omega
  | 5, _ => by
    unfold byt
    apply BitVec.eq_of_toNat_eq
    rw [BitVec.toNat_ofInt, BitVec.toNat_ofNat, BitVec.toInt_eq_toNat_cond]
    have := X.isLt
    have e1 : ((2 : Int) ^ (8 * 5)) = 1099511627776 := by decide
    have e2 : ((2 : Nat) ^ (8 * 5)) = 1099511627776 := by decide
    rw [e1, e2]
    split <;> omega
  | 6, _ => by
    unfold byt
    apply BitVec.eq_of_toNat_eq
    rw [BitVec.toNat_ofInt, BitVec.toNat_ofNat, BitVec.toInt_eq_toNat_cond]
    have := X.isLt
    have e1 : ((2 : Int) ^ (8 * 6)) = 281474976710656 := by decide
    have e2 : ((2 : Nat) ^ (8 * 6)) = 281474976710656 := by decide
    rw [e1, e2]
    split <;> omega
  | 7, _ => by
    unfold byt
    apply BitVec.eq_of_toNat_eq
    rw [BitVec.toNat_ofInt, BitVec.toNat_ofNat, BitVec.toInt_eq_toNat_cond]
    have := X.isLt
    have e1 : ((2 : Int) ^ (8 * 7)) = 72057594037927936 := by decide
    have e2 : ((2 : Nat) ^ (8 * 7)) = 72057594037927936 := by decide
    rw [e1, e2]
    split <;> omega
  | _ + 8, h => absurd h (by omega)
theorem beI4 {q : List (BitVec 8)} (h : q.length = 4) : beI 4 ((nb q).toNat : Int) = q := by
  rw [nb_nat (by omega)]
  match q, h with
  | [x, y, z, t], _ =>
    have b1 := x.isLt; have b2 := y.isLt; have b3 := z.isLt; have b4 := t.isLt
    show [byt _ 3, byt _ 2, byt _ 1, byt _ 0] = _
    rw [byt_nat, byt_nat, byt_nat, byt_nat]
    show [BitVec.ofNat 8 (((((0 * 256 + x.toNat) * 256 + y.toNat) * 256 + z.toNat) * 256 + t.toNat) / 16777216), BitVec.ofNat 8 (((((0 * 256 + x.toNat) * 256 + y.toNat) * 256 + z.toNat) * 256 + t.toNat) / 65536), BitVec.ofNat 8 (((((0 * 256 + x.toNat) * 256 + y.toNat) * 256 + z.toNat) * 256 + t.toNat) / 256), BitVec.ofNat 8 (((((0 * 256 + x.toNat) * 256 + y.toNat) * 256 + z.toNat) * 256 + t.toNat) / 1)] = _
    congr 1
    · apply BitVec.eq_of_toNat_eq; rw [BitVec.toNat_ofNat]; omega
    congr 1
    · apply BitVec.eq_of_toNat_eq; rw [BitVec.toNat_ofNat]; omega
    congr 1
    · apply BitVec.eq_of_toNat_eq; rw [BitVec.toNat_ofNat]; omega
    congr 1
    · apply BitVec.eq_of_toNat_eq; rw [BitVec.toNat_ofNat]; omega
theorem step8 (a x k : Nat) (hx : x < 256) (h : 256 ∣ k) (hk : 0 < k) : (a * 256 + x) / k = a / (k / 256) := by
  obtain ⟨m, rfl⟩ := h
  rw [Nat.mul_div_cancel_left _ (by decide), ← Nat.div_div_eq_div_mul]
  congr 1
  omega
theorem beI8 {q : List (BitVec 8)} (h : q.length = 8) : beI 8 (nb q).toInt = q := by
  match q, h with
  | [a, b, c, d, e, f, g, i], hq =>
    have hb := fun (x : BitVec 8) => x.isLt
    show [byt _ 7, byt _ 6, byt _ 5, byt _ 4, byt _ 3, byt _ 2, byt _ 1, byt _ 0] = _
    rw [byt_int _ 7 (by decide), byt_int _ 6 (by decide), byt_int _ 5 (by decide), byt_int _ 4 (by decide), byt_int _ 3 (by decide), byt_int _ 2 (by decide), byt_int _ 1 (by decide), byt_int _ 0 (by decide), nb_nat (by omega)]
    have key : ∀ (A x : Nat) (y : BitVec 8), x = A * 256 + y.toNat → BitVec.ofNat 8 x = y := fun A x y hx => by
      apply BitVec.eq_of_toNat_eq
      rw [BitVec.toNat_ofNat, hx]
      have := y.isLt
      omega
    simp only [nbN]
    have b1 := a.isLt; have b2 := b.isLt; have b3 := c.isLt; have b4 := d.isLt; have b5 := e.isLt; have b6 := f.isLt; have b7 := g.isLt; have b8 := i.isLt
    obtain ⟨n1, h1⟩ : ∃ z, 0 * 256 + a.toNat = z := ⟨_, rfl⟩
    obtain ⟨n2, h2⟩ : ∃ z, n1 * 256 + b.toNat = z := ⟨_, rfl⟩
    obtain ⟨n3, h3⟩ : ∃ z, n2 * 256 + c.toNat = z := ⟨_, rfl⟩
    obtain ⟨n4, h4⟩ : ∃ z, n3 * 256 + d.toNat = z := ⟨_, rfl⟩
    obtain ⟨n5, h5⟩ : ∃ z, n4 * 256 + e.toNat = z := ⟨_, rfl⟩
    obtain ⟨n6, h6⟩ : ∃ z, n5 * 256 + f.toNat = z := ⟨_, rfl⟩
    obtain ⟨n7, h7⟩ : ∃ z, n6 * 256 + g.toNat = z := ⟨_, rfl⟩
    obtain ⟨n8, h8⟩ : ∃ z, n7 * 256 + i.toNat = z := ⟨_, rfl⟩
    rw [h1, h2, h3, h4, h5, h6, h7, h8]
    have e7 : n8 / 256 = n7 := by omega
    have e6 : n7 / 256 = n6 := by omega
    have e5 : n6 / 256 = n5 := by omega
    have e4 : n5 / 256 = n4 := by omega
    have e3 : n4 / 256 = n3 := by omega
    have e2 : n3 / 256 = n2 := by omega
    have e1 : n2 / 256 = n1 := by omega
    have d1 : n8 / 2 ^ (8 * 1) = n7 := e7
    have d2 : n8 / 2 ^ (8 * 2) = n6 := by rw [show (2 : Nat) ^ (8 * 2) = 256 * 256 by decide, ← Nat.div_div_eq_div_mul, e7, e6]
    have d3 : n8 / 2 ^ (8 * 3) = n5 := by rw [show (2 : Nat) ^ (8 * 3) = 256 * 256 * 256 by decide, ← Nat.div_div_eq_div_mul, ← Nat.div_div_eq_div_mul, e7, e6, e5]
    have d4 : n8 / 2 ^ (8 * 4) = n4 := by rw [show (2 : Nat) ^ (8 * 4) = 256 * 256 * 256 * 256 by decide, ← Nat.div_div_eq_div_mul, ← Nat.div_div_eq_div_mul, ← Nat.div_div_eq_div_mul, e7, e6, e5, e4]
    have d5 : n8 / 2 ^ (8 * 5) = n3 := by rw [show (2 : Nat) ^ (8 * 5) = 256 * 256 * 256 * 256 * 256 by decide, ← Nat.div_div_eq_div_mul, ← Nat.div_div_eq_div_mul, ← Nat.div_div_eq_div_mul, ← Nat.div_div_eq_div_mul, e7, e6, e5, e4, e3]
    have d6 : n8 / 2 ^ (8 * 6) = n2 := by rw [show (2 : Nat) ^ (8 * 6) = 256 * 256 * 256 * 256 * 256 * 256 by decide, ← Nat.div_div_eq_div_mul, ← Nat.div_div_eq_div_mul, ← Nat.div_div_eq_div_mul, ← Nat.div_div_eq_div_mul, ← Nat.div_div_eq_div_mul, e7, e6, e5, e4, e3, e2]
    have d7 : n8 / 2 ^ (8 * 7) = n1 := by rw [show (2 : Nat) ^ (8 * 7) = 256 * 256 * 256 * 256 * 256 * 256 * 256 by decide, ← Nat.div_div_eq_div_mul, ← Nat.div_div_eq_div_mul, ← Nat.div_div_eq_div_mul, ← Nat.div_div_eq_div_mul, ← Nat.div_div_eq_div_mul, ← Nat.div_div_eq_div_mul, e7, e6, e5, e4, e3, e2, e1]
    have d0 : n8 / 2 ^ (8 * 0) = n8 := Nat.div_one _
    rw [d0, d1, d2, d3, d4, d5, d6, d7, key 0 n1 a h1.symm, key n1 n2 b h2.symm, key n2 n3 c h3.symm, key n3 n4 d h4.symm, key n4 n5 e h5.symm, key n5 n6 f h6.symm, key n6 n7 g h7.symm, key n7 n8 i h8.symm]
theorem rdl_enc {d : Nat} (ih : ∀ (l : List (BitVec 8)) (t : It) (m : Nat), rd d l = .ok (t, m) → m ≤ l.length ∧ vld d t = true ∧ enc d t = l.take m) :
    ∀ (n : Nat) (l : List (BitVec 8)) (ts : List It) (m : Nat), rdl (rd d) n l = .ok (ts, m) → m ≤ l.length ∧ ts.length = n ∧ (∀ x ∈ ts, vld d x = true) ∧ ts.flatMap (enc d) = l.take m
  | 0, l, ts, m, h => by
    rw [rdl] at h
    injection h with h
    injection h with h1 h2
    subst h1 h2
    exact ⟨Nat.zero_le _, rfl, (fun x hx => by cases hx), rfl⟩
  | n + 1, l, ts, m, h => by
    rw [rdl] at h
    cases hr : rd d l with
    | error e => rw [hr] at h; cases h
    | ok r =>
      obtain ⟨x, m1⟩ := r
      rw [hr] at h
      dsimp only at h
      cases hs : rdl (rd d) n (l.drop m1) with
      | error e => rw [hs] at h; cases h
      | ok r2 =>
        obtain ⟨xs, m2⟩ := r2
        rw [hs] at h
        injection h with h
        injection h with h1 h2
        subst h1 h2
        obtain ⟨a1, a2, a3⟩ := ih l x m1 hr
        obtain ⟨b1, b2, b3, b4⟩ := rdl_enc ih n _ xs m2 hs
        rw [List.length_drop] at b1
        refine ⟨by omega, by rw [List.length_cons, b2], fun y hy => ?_, ?_⟩
        · rcases List.mem_cons.1 hy with rfl | hy
          · exact a2
          · exact b3 y hy
        · rw [List.flatMap_cons, a3, b4, List.take_add]
theorem rdN_enc {d : Nat} {b : List (BitVec 8)} {t : It} {m : Nat} (h : rdN b = .ok (t, m)) : m ≤ (1#8 :: b).length ∧ vld d t = true ∧ enc d t = (1#8 :: b).take m := by
  unfold rdN at h
  split at h
  · cases h
  · injection h with h
    injection h with h1 h2
    subst h1 h2
    refine ⟨by rw [List.length_cons]; omega, by rw [vld1 (show It.k (.mk 1 _ [] []) = 1 from rfl)]; rfl, ?_⟩
    rw [enc1 (show It.k (.mk 1 _ [] []) = 1 from rfl)]
    show 1 :: beI 8 (nb (b.take 8)).toInt = _
    rw [beI8 (by rw [List.length_take]; omega)]
    rfl
theorem rdS_enc {d : Nat} {b : List (BitVec 8)} {t : It} {m : Nat} (h : rdS b = .ok (t, m)) : m ≤ (2#8 :: b).length ∧ vld d t = true ∧ enc d t = (2#8 :: b).take m := by
  unfold rdS at h
  split at h
  · cases h
  · split at h
    · cases h
    · injection h with h
      injection h with h1 h2
      subst h1 h2
      rename_i hb hn
      have hd : (b.drop 4).length = b.length - 4 := List.length_drop
      refine ⟨by rw [List.length_cons]; omega, by rw [vld2 (show It.k (.mk 2 0 _ []) = 2 from rfl)]; rfl, ?_⟩
      rw [enc2 (show It.k (.mk 2 0 _ []) = 2 from rfl)]
      show 2 :: (beI 4 ((((b.drop 4).take (nb (b.take 4)).toNat).length : Nat) : Int) ++ (b.drop 4).take (nb (b.take 4)).toNat) = _
      rw [List.length_take, Nat.min_eq_left (by omega), beI4 (by rw [List.length_take]; omega), ← List.take_add, show 5 + (nb (b.take 4)).toNat = 4 + (nb (b.take 4)).toNat + 1 by omega]
      rfl
/-- What is read is valid, and its encoding is what was read. -/
theorem rd_enc : ∀ (d : Nat) (l : List (BitVec 8)) (t : It) (m : Nat), rd d l = .ok (t, m) → m ≤ l.length ∧ vld d t = true ∧ enc d t = l.take m
  | d, [], t, m, h => by rw [rd_nil] at h; cases h
  | d, k :: b, t, m, h => by
    by_cases k1 : k = 1#8
    · subst k1; rw [rd_1] at h; exact rdN_enc h
    by_cases k2 : k = 2#8
    · subst k2; rw [rd_2] at h; exact rdS_enc h
    by_cases k3 : k = 3#8
    · subst k3
      cases d with
      | zero => rw [rd_30] at h; cases h
      | succ d =>
        rw [rd_3] at h
        unfold rdB at h
        split at h
        · cases h
        · split at h
          · cases h
          · rename_i hb hn
            cases hr : rdl (rd d) (nb (b.take 4)).toNat (b.drop 4) with
            | error e => rw [hr] at h; cases h
            | ok r =>
              obtain ⟨ts, m2⟩ := r
              rw [hr] at h
              injection h with h
              injection h with h1 h2
              subst h1 h2
              obtain ⟨a1, a2, a3, a4⟩ := rdl_enc (fun l t m => rd_enc d l t m) _ _ _ _ hr
              rw [List.length_drop] at a1
              refine ⟨by rw [List.length_cons]; omega, ?_, ?_⟩
              · rw [vld3 (show It.k (.mk 3 0 [] ts) = 3 from rfl)]
                show (true && (true && (decide (ts.length ≤ 1000) && ts.all (vld d)))) = true
                rw [decide_eq_true (by omega), List.all_eq_true.2 a3]; rfl
              · rw [enc3 (show It.k (.mk 3 0 [] ts) = 3 from rfl)]
                show 3 :: (beI 4 ((ts.length : Nat) : Int) ++ ts.flatMap (enc d)) = _
                rw [a2, beI4 (by rw [List.length_take]; omega), a4, ← List.take_add, show 1 + (4 + m2) = 4 + m2 + 1 by omega]
                rfl
    · rw [rd_x b k1 k2 k3] at h; cases h
theorem Decode_v {w : World} {n c : Nat} {p : Option Addr} {l : List (BitVec 8)} (hS : SrcB p l w) (hl : l.length = n) (hc : n ≤ c) :
    Calls Tryd.prog 17 #[.slice p n c] w fun o w' => DecP w l o w' := by
  rcases Nat.lt_or_ge 16384 n with h | h
  · exact Decode_big hS hl hc h
  rcases Nat.eq_zero_or_pos n with h0 | h0
  · exact Decode_nil hS hl hc h0
  obtain ⟨b, off, rfl, _⟩ := src_some hS (by omega)
  cases hr : rd 8 l with
  | error e => exact Decode_err hS hl hc h h0 hr
  | ok r =>
    obtain ⟨t, m⟩ := r
    have hm := (rd_enc 8 l t m hr).1
    rcases Nat.lt_or_ge m n with h1 | h1
    · exact Decode_rest hS hl hc h h0 hr h1
    · obtain rfl : m = n := by omega
      exact Decode_ok hS hl hc h h0 hr

end Go.Proofs.YtcngcdfngifjnaaDoor.Dg


/- awake. -/
namespace Go.Proofs.YtcngcdfngifjnaaDoor.Dg
open Go Go.RowKit Go.Proofs.YtcngcdfngifjnaaDoor.Ne Go.Proofs.YtcngcdfngifjnaaDoor.Kr

/-- All blocks of an item lie in the memory. -/
theorem ItV.inHeap {W : World} {F G : Nat → Prop} : ∀ {d : Nat} {v : Value} {t : It}, ItV W d F v t → (∀ k, k < W.heap.size → G k) → ItV W d G v t
  | 0, _, _, h, _ => h
  | _ + 1, _, t, ⟨pb, cb, pl, cl, e, h1, h2, h3, h4, h5, h6, hb, hl⟩, g => by
    have lt : ∀ (b o : Nat) (u : Value), W.cell? ⟨b, o, none⟩ = some u → b < W.heap.size := fun b o u h => by
      rcases Nat.lt_or_ge b W.heap.size with h' | h'
      · exact h'
      · simp [World.cell?, Array.getElem?_eq_none h'] at h
    refine ⟨pb, cb, pl, cl, e, h1, h2, h3, h4, h5, h6, ?_, fun j x hx => ?_⟩
    · rcases hb with hb | ⟨b, off, e, f, h⟩
      · exact .inl hb
      · cases hq : t.b with
        | nil => exact .inl rfl
        | cons y r => exact .inr ⟨b, off, e, g b (lt b (off + 0) (w8 y) (h 0 y (by rw [hq]; rfl))), by rw [← hq]; exact h⟩
    · obtain ⟨b, off, v0, v1, v2, v3, e, f, c0, c1, c2, c3, h⟩ := hl j x hx
      exact ⟨b, off, v0, v1, v2, v3, e, g b (lt _ _ _ c0), c0, c1, c2, c3, h.inHeap g⟩

/-- The chapter's item. -/
def exI : It := .mk 3 0 [] [.mk 1 (-1) [] [], .mk 2 0 [5#8] []]
theorem exI_v : vld 8 exI = true := by decide +kernel
theorem exI_e : enc 8 exI = [3#8, 0#8, 0#8, 0#8, 2#8, 1#8, 255#8, 255#8, 255#8, 255#8, 255#8, 255#8, 255#8, 255#8, 2#8, 0#8, 0#8, 0#8, 1#8, 5#8] := by decide +kernel
theorem itoa1 : Lib.itoa (-1) = [45, 49] := by
  unfold Lib.itoa
  rw [if_pos (by decide)]
  show 45 :: Lib.decDigits 1 = _
  unfold Lib.decDigits
  simp
theorem exI_t : strB (txt 8 exI) = ⟨#[40, 45, 49, 32, 120, 48, 53, 41]⟩ := by
  have h : itB (-1) = [45#8, 49#8] := by unfold itB; rw [itoa1]; rfl
  have h1 : txt 7 (.mk 1 (-1) [] []) = [45#8, 49#8] := by rw [txt1 rfl]; exact h
  have h2 : txt 7 (.mk 2 0 [5#8] []) = [120#8, 48#8, 53#8] := by rw [txt2 rfl]; rfl
  have h3 : txt 8 exI = [40#8, 45#8, 49#8, 32#8, 120#8, 48#8, 53#8, 41#8] := by
    unfold exI
    rw [txt3 (show It.k (.mk 3 0 [] [.mk 1 (-1) [] [], .mk 2 0 [5#8] []]) = 3 from rfl) 7]
    show 40 :: (jn (txt 7) [.mk 1 (-1) [] [], .mk 2 0 [5#8] []] 2 ++ [41]) = _
    rw [jn, jn, jn]
    dsimp only [List.getElem?_cons_zero, List.getElem?_cons_succ]
    rw [h1, h2]
    rfl
  rw [h3]; rfl
theorem exI_tl : (txt 8 exI).length ≤ 99999000 := by
  have h := congrArg (fun s : ByteArray => s.data.size) exI_t
  have h2 : (txt 8 exI).length = 8 := by simpa [strB] using h
  omega
theorem exI_rd : rd 8 [2#8, 0#8, 0#8, 0#8, 2#8, 7#8] = .error 4 := by rfl
theorem itv_ex {W : World} {b5 bI : Nat} (h5 : SrcG (some ⟨b5, 0, none⟩) [.int .u8 5] W) (hI : SrcG (some ⟨bI, 0, none⟩) [.int .i64 1, .int .i64 (-1), .slice none 0 0, .slice none 0 0, .int .i64 2, .int .i64 0, .slice (some ⟨b5, 0, none⟩) 1 1, .slice none 0 0] W) : ItV W 3 (fun _ => True) (.agg #[.int .i64 3, .int .i64 0, .slice none 0 0, .slice (some ⟨bI, 0, none⟩) 2 2]) exI := by
  have c := fun j u (hu : ([.int .i64 1, .int .i64 (-1), .slice none 0 0, .slice none 0 0, .int .i64 2, .int .i64 0, .slice (some ⟨b5, 0, none⟩) 1 1, .slice none 0 0] : List Value)[j]? = some u) => srcG_get hI hu
  have hb : BytesAt b5 0 [5#8] W := fun j x hx => by
    have := srcG_get h5 (show [Value.int .u8 5][j]? = some (w8 x) by
      match j, hx with
      | 0, hx => obtain rfl : 5#8 = x := by simpa using hx
                 rfl
      | j + 1, hx => simp at hx)
    exact this
  have hls : LsV W 2 (fun _ => True) (some ⟨bI, 0, none⟩) [.mk 1 (-1) [] [], .mk 2 0 [5#8] []] := fun j x hx => by
    match j, hx with
    | 0, hx =>
      obtain rfl : It.mk 1 (-1) [] [] = x := by simpa using hx
      exact ⟨bI, 0, _, _, _, _, rfl, trivial, c 0 _ rfl, c 1 _ rfl, c 2 _ rfl, c 3 _ rfl, itv_int ⟨by decide, by decide⟩⟩
    | 1, hx =>
      obtain rfl : It.mk 2 0 [5#8] [] = x := by simpa using hx
      exact ⟨bI, 0, _, _, _, _, rfl, trivial, c 4 _ rfl, c 5 _ rfl, c 6 _ rfl, c 7 _ rfl, itv_str rfl (fun e => by cases e) (Nat.le_refl _) (by decide) (.inr ⟨b5, 0, rfl, trivial, hb⟩)⟩
    | j + 2, hx => simp at hx
  exact itv_lst rfl (by decide) hls

theorem itv_ne {W : World} {b : Nat} {d : Nat} {F : Nat → Prop} {v : Value} {t : It} (h : ItV W d F v t) (hb : W.heap.size = b) : ItV W d (fun k => k ≠ b) v t := by
  refine ItV.inHeap h (fun k hk => ?_)
  omega
theorem srcB_ofRow {B : Nat} {W : World} {p : Option Addr} {k c : Nat} {l : List (BitVec 8)} (h : RowG 5 B (.slice p k c) (l.map w8) W) (hl : l.length = k) : SrcB p l W := by
  rcases row_bytes h hl with h | ⟨b, off, e, _, h⟩
  · exact .inl h
  · exact .inr ⟨b, off, e, h⟩
theorem srcB_new {p : Option Addr} {l : List (BitVec 8)} {W : World} {b : Nat} (h : SrcB p l W) (hl : 0 < l.length) (hb : W.heap.size = b) : p ≠ none ∧ ∀ a, p = some a → a.block ≠ b := by
  obtain ⟨b2, off, e, _⟩ := src_some h hl
  have := src_lt h e hl
  subst e
  exact ⟨fun e => (by cases e), fun a ha => by cases ha; show b2 ≠ b; omega⟩
theorem srcB_put {p : Option Addr} {l : List (BitVec 8)} {W : World} {b : Nat} {cs : Array Value} (h : SrcB p l W) (hne : ∀ a, p = some a → a.block ≠ b) : SrcB p l (W.setRow b cs) :=
  h.imp id (fun ⟨b2, off, e, h⟩ => ⟨b2, off, e, fun j x hx => (World.cell?_of_block (a := ⟨b2, off + j, none⟩) (setRow_other W b b2 cs (hne _ e))).trans (h j x hx)⟩)
set_option linter.unusedSimpArgs false in
set_option maxRecDepth 100000 in
set_option maxHeartbeats 16000000 in
theorem awake_v {w : World} (hT : Tab w) :
    Calls Tryd.prog 10 #[] w fun e w' => e = .returned (.bool true) ∧ Gr w w' := by
  have HTAB := Lib.hid hT; clear hT
  have H := Ow.start w
  go_enter Tryd.func10, Tryd.ntmps10
  go_upto_region 0 with fail
  refine Kr.seqStartW ?_
  (refine Kr.seqQ (v := ?_) (a' := ?_) (by rfl) ?_ ?_ ?_; rotate_left 2; (focus (go_simp; first | done | rfl)); (focus ((try simp only [Kr.PT]); first | done | rfl)))
  refine Kr.seqDoneW ?_
  go_upto_region 1 with fail
  refine Kr.seqStartW ?_
  (refine Kr.seqQ (v := .agg #[.int .i64 1, .int .i64 (-1), .slice none 0 0, .slice none 0 0]) (a' := ?_) (by rfl) ?_ ?_ ?_; rotate_left 1; (focus (go_simp; first | done | rfl)); (focus ((try simp only [Kr.PT]); first | done | rfl)))
  refine Kr.seqR (by rfl) (fun K hK => ?_)
  go_simp
  obtain ⟨y1, hy⟩ : ∃ y, w.alloc (.cells #[.int .u8 5] 5) = y := ⟨_, rfl⟩
  obtain ⟨b5, hbn⟩ : ∃ b, w.heap.size = b := ⟨_, rfl⟩
  rw [hy, hbn]
  have hy2 : w.alloc (.cells ([.int .u8 5] : List Value).toArray 5) = y1 := hy
  have hg : Gr w y1 := hy ▸ (Gr.refl _).alloc _
  have HL5 := Lib.hid (hbn ▸ hy2 ▸ lit_src (W := w) (T := 5) [.int .u8 5]); clear hy2
  replace H := H.grow hg
  clear hg hy hbn
  (refine Kr.outS hK (a' := ?_) ?_ ?_; rotate_left; (focus ((try simp only [Kr.PT]); first | done | rfl))); clear hK K
  (refine Kr.seqQ (v := .agg #[.int .i64 2, .int .i64 0, .slice (some ⟨b5, 0, none⟩) 1 1, .slice none 0 0]) (a' := ?_) (by rfl) ?_ ?_ ?_; rotate_left 1; (focus (go_simp; first | done | rfl)); (focus ((try simp only [Kr.PT]); first | done | rfl)))
  refine Kr.seqR (by rfl) (fun K hK => ?_)
  go_simp
  obtain ⟨y2, hy⟩ : ∃ y, y1.alloc (.cells #[.int .i64 1, .int .i64 (-1), .slice none 0 0, .slice none 0 0, .int .i64 2, .int .i64 0, .slice (some ⟨b5, 0, none⟩) 1 1, .slice none 0 0] 25) = y := ⟨_, rfl⟩
  obtain ⟨bI, hbn⟩ : ∃ b, y1.heap.size = b := ⟨_, rfl⟩
  rw [hy, hbn]
  have hy2 : y1.alloc (.cells ([.int .i64 1, .int .i64 (-1), .slice none 0 0, .slice none 0 0, .int .i64 2, .int .i64 0, .slice (some ⟨b5, 0, none⟩) 1 1, .slice none 0 0] : List Value).toArray 25) = y2 := hy
  have hg : Gr y1 y2 := hy ▸ (Gr.refl _).alloc _
  have HLI := Lib.hid (hbn ▸ hy2 ▸ lit_src (W := y1) (T := 25) [.int .i64 1, .int .i64 (-1), .slice none 0 0, .slice none 0 0, .int .i64 2, .int .i64 0, .slice (some ⟨b5, 0, none⟩) 1 1, .slice none 0 0]); clear hy2
  replace H := H.grow hg
  replace HL5 := Lib.hid (HL5.out.grow hg)
  clear hg hy hbn
  have HIT := Lib.hid (itv_ex HL5.out HLI.out); clear HL5 HLI
  (refine Kr.outS hK (a' := ?_) ?_ ?_; rotate_left; (focus ((try simp only [Kr.PT]); first | done | rfl))); clear hK K
  (refine Kr.seqQ (v := .agg #[.int .i64 3, .int .i64 0, .slice none 0 0, .slice (some ⟨bI, 0, none⟩) 2 2]) (a' := ?_) (by rfl) ?_ ?_ ?_; rotate_left 1; (focus (go_simp; first | done | rfl)); (focus ((try simp only [Kr.PT]); first | done | rfl)))
  refine Kr.seqR (by rfl) (fun K hK => ?_)
  refine wp_runV rfl newI ?_
  obtain ⟨y3, hy⟩ : ∃ y, y2.alloc (.cells ([.int .i64 0, .int .i64 0, .slice none 0 0, .slice none 0 0]).toArray 25) = y := ⟨_, rfl⟩
  obtain ⟨ba, hb⟩ : ∃ b, y2.heap.size = b := ⟨_, rfl⟩
  rw [hy, hb]
  have HIT2 := Lib.hid ((itv_ne HIT.out hb).grow (hy ▸ (Gr.refl _).alloc _ : Gr y2 y3))
  have hg : Gr y2 y3 := hy ▸ (Gr.refl _).alloc _
  replace H := H.alloc hy hb
  replace HIT := Lib.hid (HIT.out.grow hg)
  clear hy hb hg
  (refine Kr.outS hK (a' := ?_) ?_ ?_; rotate_left; (focus ((try simp only [Kr.PT]); first | done | rfl))); clear hK K
  refine Kr.seqR (by rfl) (fun K hK => ?_)
  refine wp_run rfl (stI (H.at 0 rfl) one4) ?_
  have hkp : ItV (y3.setRow ba ([.int .i64 3, .int .i64 0, .slice none 0 0, .slice (some ⟨bI, 0, none⟩) 2 2] : List Value).toArray) 3 (fun b => b ≠ ba) (.agg #[.int .i64 3, .int .i64 0, .slice none 0 0, .slice (some ⟨bI, 0, none⟩) 2 2]) exI := ItV.kept (same_put (W := y3) (b := ba) (cs := ([.int .i64 3, .int .i64 0, .slice none 0 0, .slice (some ⟨bI, 0, none⟩) 2 2] : List Value).toArray) (fun h => h rfl)) (HIT2.out)
  obtain ⟨y4, hy⟩ : ∃ y, y3.setRow ba ([.int .i64 3, .int .i64 0, .slice none 0 0, .slice (some ⟨bI, 0, none⟩) 2 2] : List Value).toArray = y := ⟨_, rfl⟩; rw [hy]; rw [hy] at hkp; have HIX := Lib.hid hkp; clear hkp
  replace H := H.put 0 hy rfl; dsimp only [List.set] at H; clear hy
  (refine Kr.outS hK (a' := ?_) ?_ ?_; rotate_left; (focus ((try simp only [Kr.PT]); first | done | rfl))); clear hK K
  refine Kr.seqDoneW ?_
  go_upto_region 2 with fail
  refine Kr.seqStartW ?_
  (refine Kr.seqQ (v := .agg #[.int .i64 3, .int .i64 0, .slice none 0 0, .slice (some ⟨bI, 0, none⟩) 2 2]) (a' := ?_) (by rfl) ?_ ?_ ?_; rotate_left 1; (focus (exact Kr.valOf rfl (ldI (H.at 0 rfl)))); (focus ((try simp only [Kr.PT]); first | done | rfl)))
  refine Kr.seqR (by rfl) (fun K hK => ?_)
  go_simp
  go_at_call 12
  have hP := Encode_ok HIX.out exI_v (by rw [exI_e]; decide); rw [exI_e] at hP
  refine hP.mono ?_; clear hP
  rintro e y5 ⟨p2, c2, rfl, hR, hg⟩
  have HB := Lib.hid (srcB_ofRow hR rfl); clear hR
  replace H := H.grow hg
  replace HIX := Lib.hid (HIX.out.grow hg)
  clear hg
  (refine Kr.outS hK (a' := ?_) ?_ ?_; rotate_left; (focus ((try simp only [Kr.PT]); first | done | rfl))); clear hK K
  (refine Kr.seqQ (v := ?_) (a' := ?_) (by rfl) ?_ ?_ ?_; rotate_left 2; (focus (go_simp; first | done | rfl)); (focus ((try simp only [Kr.PT]); first | done | rfl)))
  (refine Kr.seqQ (v := .slice p2 20 c2) (a' := ?_) (by rfl) ?_ ?_ ?_; rotate_left 1; (focus (go_simp; first | done | rfl)); (focus ((try simp only [Kr.PT]); first | done | rfl)))
  (refine Kr.seqQ (v := .int .i64 0) (a' := ?_) (by rfl) ?_ ?_ ?_; rotate_left 1; (focus (go_simp; first | done | rfl)); (focus ((try simp only [Kr.PT]); first | done | rfl)))
  (refine Kr.seqQ (v := ?_) (a' := ?_) (by rfl) ?_ ?_ ?_; rotate_left 2; (focus (go_simp; first | done | rfl)); (focus ((try simp only [Kr.PT]); first | done | rfl)))
  (refine Kr.seqQ (v := ?_) (a' := ?_) (by rfl) ?_ ?_ ?_; rotate_left 2; (focus (go_simp; first | done | rfl)); (focus ((try simp only [Kr.PT]); first | done | rfl)))
  refine Kr.seqDoneW ?_
  go_upto_region 3 with fail
  refine Kr.seqStartW ?_
  (refine Kr.seqQ (v := .agg #[.int .i64 3, .int .i64 0, .slice none 0 0, .slice (some ⟨bI, 0, none⟩) 2 2]) (a' := ?_) (by rfl) ?_ ?_ ?_; rotate_left 1; (focus (exact Kr.valOf rfl (ldI (H.at 0 rfl)))); (focus ((try simp only [Kr.PT]); first | done | rfl)))
  refine Kr.seqR (by rfl) (fun K hK => ?_)
  go_simp
  go_at_call 22
  have hP := Text_ok HIX.out exI_v (HTAB.out.grow H.g) exI_tl; rw [exI_t] at hP
  refine (hP).mono ?_
  rintro e y6 ⟨rfl, hg⟩
  replace H := H.grow hg
  replace HIX := Lib.hid (HIX.out.grow hg)
  replace HB := Lib.hid (HB.out.grow hg)
  clear hg
  clear hP
  (refine Kr.outS hK (a' := ?_) ?_ ?_; rotate_left; (focus ((try simp only [Kr.PT]); first | done | rfl))); clear hK K
  (refine Kr.seqQ (v := ?_) (a' := ?_) (by rfl) ?_ ?_ ?_; rotate_left 2; (focus (go_simp; first | done | rfl)); (focus ((try simp only [Kr.PT]); first | done | rfl)))
  (refine Kr.seqQ (v := .string ⟨#[40, 45, 49, 32, 120, 48, 53, 41]⟩) (a' := ?_) (by rfl) ?_ ?_ ?_; rotate_left 1; (focus (go_simp; first | done | rfl)); (focus ((try simp only [Kr.PT]); first | done | rfl)))
  (refine Kr.seqQ (v := .int .i64 0) (a' := ?_) (by rfl) ?_ ?_ ?_; rotate_left 1; (focus (go_simp; first | done | rfl)); (focus ((try simp only [Kr.PT]); first | done | rfl)))
  (refine Kr.seqQ (v := ?_) (a' := ?_) (by rfl) ?_ ?_ ?_; rotate_left 2; (focus (go_simp; first | done | rfl)); (focus ((try simp only [Kr.PT]); first | done | rfl)))
  (refine Kr.seqQ (v := ?_) (a' := ?_) (by rfl) ?_ ?_ ?_; rotate_left 2; (focus (go_simp; first | done | rfl)); (focus ((try simp only [Kr.PT]); first | done | rfl)))
  refine Kr.seqDoneW ?_
  go_upto_region 4 with fail
  refine Kr.seqStartW ?_
  refine Kr.seqR (by rfl) (fun K hK => ?_)
  go_simp
  obtain ⟨y7, hy⟩ : ∃ y, y6.alloc (.cells #[.int .u8 2, .int .u8 0, .int .u8 0, .int .u8 0, .int .u8 2, .int .u8 7] 5) = y := ⟨_, rfl⟩
  obtain ⟨b6, hbn⟩ : ∃ b, y6.heap.size = b := ⟨_, rfl⟩
  rw [hy, hbn]
  have hy2 : y6.alloc (.cells ([.int .u8 2, .int .u8 0, .int .u8 0, .int .u8 0, .int .u8 2, .int .u8 7] : List Value).toArray 5) = y7 := hy
  have hg : Gr y6 y7 := hy ▸ (Gr.refl _).alloc _
  have HL6 := Lib.hid (hbn ▸ hy2 ▸ lit_src (W := y6) (T := 5) [.int .u8 2, .int .u8 0, .int .u8 0, .int .u8 0, .int .u8 2, .int .u8 7]); clear hy2
  replace H := H.grow hg
  replace HIX := Lib.hid (HIX.out.grow hg)
  replace HB := Lib.hid (HB.out.grow hg)
  clear hg hy hbn
  (refine Kr.outS hK (a' := ?_) ?_ ?_; rotate_left; (focus ((try simp only [Kr.PT]); first | done | rfl))); clear hK K
  refine Kr.seqR (by rfl) (fun K hK => ?_)
  go_simp
  go_at_call 17
  refine (Decode_v (w := y7) (l := [2#8, 0#8, 0#8, 0#8, 2#8, 7#8]) (srcB_of (show SrcG (some ⟨b6, 0, none⟩) ([2#8, 0#8, 0#8, 0#8, 2#8, 7#8].map w8) _ from HL6.out)) rfl (Nat.le_refl 6)).mono ?_
  rintro e y8 hdec
  obtain ⟨v0, v1, v2, v3, er, rfl, hg, hone, hcs⟩ := hdec
  have her : er = 4 := by
    rcases hcs with ⟨_, t, _, h, _⟩ | ⟨_, _, _, _, _, h⟩
    · rw [exI_rd] at h; cases h
    · rw [if_neg (by decide), exI_rd] at h; exact h
  subst her; have HONE := Lib.hid hone; clear hcs hone HL6
  replace H := H.grow hg
  replace HIX := Lib.hid (HIX.out.grow hg)
  replace HB := Lib.hid (HB.out.grow hg)
  clear hg
  (refine Kr.outS hK (a' := ?_) ?_ ?_; rotate_left; (focus ((try simp only [Kr.PT]); first | done | rfl))); clear hK K
  (refine Kr.seqQ (v := ?_) (a' := ?_) (by rfl) ?_ ?_ ?_; rotate_left 2; (focus (go_simp; first | done | rfl)); (focus ((try simp only [Kr.PT]); first | done | rfl)))
  (refine Kr.seqQ (v := .agg #[v0, v1, v2, v3]) (a' := ?_) (by rfl) ?_ ?_ ?_; rotate_left 1; (focus (go_simp; first | done | rfl)); (focus ((try simp only [Kr.PT]); first | done | rfl)))
  (refine Kr.seqQ (v := .int .i64 4) (a' := ?_) (by rfl) ?_ ?_ ?_; rotate_left 1; (focus (go_simp; first | done | rfl)); (focus ((try simp only [Kr.PT]); first | done | rfl)))
  refine Kr.seqR (by rfl) (fun K hK => ?_)
  refine wp_runV rfl newI ?_
  obtain ⟨y9, hy⟩ : ∃ y, y8.alloc (.cells ([.int .i64 0, .int .i64 0, .slice none 0 0, .slice none 0 0]).toArray 25) = y := ⟨_, rfl⟩
  obtain ⟨bd, hb⟩ : ∃ b, y8.heap.size = b := ⟨_, rfl⟩
  rw [hy, hb]
  have HBD := Lib.hid (srcB_new HB.out (by decide) hb)
  have hg : Gr y8 y9 := hy ▸ (Gr.refl _).alloc _
  replace H := H.alloc hy hb
  replace HIX := Lib.hid (HIX.out.grow hg)
  replace HB := Lib.hid (HB.out.grow hg)
  clear hy hb hg
  (refine Kr.outS hK (a' := ?_) ?_ ?_; rotate_left; (focus ((try simp only [Kr.PT]); first | done | rfl))); clear hK K
  refine Kr.seqR (by rfl) (fun K hK => ?_)
  clear HIX
  have HBk := HB
  refine wp_run rfl (stI (H.at 0 rfl) HONE.out) ?_
  have hbd : p2 ≠ none ∧ ∀ a, p2 = some a → a.block ≠ bd := HBD.out
  have hkp := srcB_put (cs := ([v0, v1, v2, v3] : List Value).toArray) (b := bd) HB.out hbd.2
  obtain ⟨y10, hy⟩ : ∃ y, y9.setRow bd ([v0, v1, v2, v3] : List Value).toArray = y := ⟨_, rfl⟩; rw [hy]; rw [hy] at hkp; replace HB := Lib.hid hkp; clear hkp HBk
  replace H := H.put 0 hy rfl; dsimp only [List.set] at H; clear hy
  (refine Kr.outS hK (a' := ?_) ?_ ?_; rotate_left; (focus ((try simp only [Kr.PT]); first | done | rfl))); clear hK K
  (refine Kr.seqQ (v := ?_) (a' := ?_) (by rfl) ?_ ?_ ?_; rotate_left 2; (focus (go_simp; first | done | rfl)); (focus ((try simp only [Kr.PT]); first | done | rfl)))
  refine Kr.seqDoneW ?_
  go_upto_region 5 with fail
  refine Kr.seqStartW ?_
  (refine Kr.seqQ (v := ?_) (a' := ?_) (by rfl) ?_ ?_ ?_; rotate_left 2; (focus (go_simp; first | done | rfl)); (focus ((try simp only [Kr.PT]); first | done | rfl)))
  refine Kr.seqR (by rfl) (fun K hK => ?_)
  go_simp
  obtain ⟨y11, hy⟩ : ∃ y, y10.alloc (.cells #[.int .u8 3, .int .u8 0, .int .u8 0, .int .u8 0, .int .u8 2, .int .u8 1, .int .u8 255, .int .u8 255, .int .u8 255, .int .u8 255, .int .u8 255, .int .u8 255, .int .u8 255, .int .u8 255, .int .u8 2, .int .u8 0, .int .u8 0, .int .u8 0, .int .u8 1, .int .u8 5] 5) = y := ⟨_, rfl⟩
  obtain ⟨b20, hbn⟩ : ∃ b, y10.heap.size = b := ⟨_, rfl⟩
  rw [hy, hbn]
  have hy2 : y10.alloc (.cells ([.int .u8 3, .int .u8 0, .int .u8 0, .int .u8 0, .int .u8 2, .int .u8 1, .int .u8 255, .int .u8 255, .int .u8 255, .int .u8 255, .int .u8 255, .int .u8 255, .int .u8 255, .int .u8 255, .int .u8 2, .int .u8 0, .int .u8 0, .int .u8 0, .int .u8 1, .int .u8 5] : List Value).toArray 5) = y11 := hy
  have hg : Gr y10 y11 := hy ▸ (Gr.refl _).alloc _
  have HL20 := Lib.hid (hbn ▸ hy2 ▸ lit_src (W := y10) (T := 5) [.int .u8 3, .int .u8 0, .int .u8 0, .int .u8 0, .int .u8 2, .int .u8 1, .int .u8 255, .int .u8 255, .int .u8 255, .int .u8 255, .int .u8 255, .int .u8 255, .int .u8 255, .int .u8 255, .int .u8 2, .int .u8 0, .int .u8 0, .int .u8 0, .int .u8 1, .int .u8 5]); clear hy2
  replace H := H.grow hg
  replace HB := Lib.hid (HB.out.grow hg)
  clear hg hy hbn
  (refine Kr.outS hK (a' := ?_) ?_ ?_; rotate_left; (focus ((try simp only [Kr.PT]); first | done | rfl))); clear hK K
  refine Kr.seqR (by rfl) (fun K hK => ?_)
  go_simp
  go_at_call 16
  have hP := Equal_v (w := y11) (c := c2) (d := 20) (b := true) HB.out (show ([3#8, 0#8, 0#8, 0#8, 2#8, 1#8, 255#8, 255#8, 255#8, 255#8, 255#8, 255#8, 255#8, 255#8, 2#8, 0#8, 0#8, 0#8, 1#8, 5#8] : List (BitVec 8)).length = 20 from rfl) (srcB_of (show SrcG (some ⟨b20, 0, none⟩) (([3#8, 0#8, 0#8, 0#8, 2#8, 1#8, 255#8, 255#8, 255#8, 255#8, 255#8, 255#8, 255#8, 255#8, 2#8, 0#8, 0#8, 0#8, 1#8, 5#8] : List (BitVec 8)).map w8) _ from HL20.out)) rfl (decide_eq_true rfl)
  refine hP.mono ?_
  rintro e w9 ⟨rfl, hw⟩
  rw [hw]
  clear hw w9 hP
  (refine Kr.outS hK (a' := ?_) ?_ ?_; rotate_left; (focus ((try simp only [Kr.PT]); first | done | rfl))); clear hK K
  (refine Kr.seqQ (v := ?_) (a' := ?_) (by rfl) ?_ ?_ ?_; rotate_left 2; (focus (go_simp; first | done | rfl)); (focus ((try simp only [Kr.PT]); first | done | rfl)))
  (refine Kr.seqQ (v := ?_) (a' := ?_) (by rfl) ?_ ?_ ?_; rotate_left 2; (focus (go_simp; first | done | rfl)); (focus ((try simp only [Kr.PT]); first | done | rfl)))
  (refine Kr.seqQ (v := ?_) (a' := ?_) (by rfl) ?_ ?_ ?_; rotate_left 2; (focus (go_simp; first | done | rfl)); (focus ((try simp only [Kr.PT]); first | done | rfl)))
  (refine Kr.seqQ (v := ?_) (a' := ?_) (by rfl) ?_ ?_ ?_; rotate_left 2; (focus (go_simp; first | done | rfl)); (focus ((try simp only [Kr.PT]); first | done | rfl)))
  (refine Kr.seqQ (v := ?_) (a' := ?_) (by rfl) ?_ ?_ ?_; rotate_left 2; (focus (go_simp; first | done | rfl)); (focus ((try simp only [Kr.PT]); first | done | rfl)))
  (refine Kr.seqQ (v := ?_) (a' := ?_) (by rfl) ?_ ?_ ?_; rotate_left 2; (focus (go_simp; first | done | rfl)); (focus ((try simp only [Kr.PT]); first | done | rfl)))
  (refine Kr.seqQ (v := .bool true) (a' := ?_) (by rfl) ?_ ?_ ?_; rotate_left 1; (focus (exact Kr.valOf rfl (eqS (decide_eq_true rfl)))); (focus ((try simp only [Kr.PT]); first | done | rfl)))
  (refine Kr.seqQ (v := ?_) (a' := ?_) (by rfl) ?_ ?_ ?_; rotate_left 2; (focus (go_simp; first | done | rfl)); (focus ((try simp only [Kr.PT]); first | done | rfl)))
  (refine Kr.seqQ (v := ?_) (a' := ?_) (by rfl) ?_ ?_ ?_; rotate_left 2; (focus (go_simp; first | done | rfl)); (focus ((try simp only [Kr.PT]); first | done | rfl)))
  (refine Kr.seqQ (v := ?_) (a' := ?_) (by rfl) ?_ ?_ ?_; rotate_left 2; (focus (go_simp; first | done | rfl)); (focus ((try simp only [Kr.PT]); first | done | rfl)))
  (refine Kr.seqQ (v := ?_) (a' := ?_) (by rfl) ?_ ?_ ?_; rotate_left 2; (focus (go_simp; first | done | rfl)); (focus ((try simp only [Kr.PT]); first | done | rfl)))
  (refine Kr.seqQ (v := ?_) (a' := ?_) (by rfl) ?_ ?_ ?_; rotate_left 2; (focus (go_simp; first | done | rfl)); (focus ((try simp only [Kr.PT]); first | done | rfl)))
  (refine Kr.seqQ (v := ?_) (a' := ?_) (by rfl) ?_ ?_ ?_; rotate_left 2; (focus (go_simp; first | done | rfl)); (focus ((try simp only [Kr.PT]); first | done | rfl)))
  (refine Kr.seqQ (v := ?_) (a' := ?_) (by rfl) ?_ ?_ ?_; rotate_left 2; (focus (go_simp; first | done | rfl)); (focus ((try simp only [Kr.PT]); first | done | rfl)))
  (refine Kr.seqQ (v := ?_) (a' := ?_) (by rfl) ?_ ?_ ?_; rotate_left 2; (focus (go_simp; first | done | rfl)); (focus ((try simp only [Kr.PT]); first | done | rfl)))
  (refine Kr.seqQ (v := ?_) (a' := ?_) (by rfl) ?_ ?_ ?_; rotate_left 2; (focus (go_simp; first | done | rfl)); (focus ((try simp only [Kr.PT]); first | done | rfl)))
  (refine Kr.seqQ (v := ?_) (a' := ?_) (by rfl) ?_ ?_ ?_; rotate_left 2; (focus (go_simp; first | done | rfl)); (focus ((try simp only [Kr.PT]); first | done | rfl)))
  refine Kr.seqDoneW ?_
  have hk := trivial
  go_wp2
  refine bodyPost_ret (v := .bool true) (by simp [results, Tryd.results10, go_sem, hk]) rfl ⟨rfl, H.g⟩
end Go.Proofs.YtcngcdfngifjnaaDoor.Dg


/- bytes.Clone. -/
namespace Go.Proofs.YtcngcdfngifjnaaDoor.Dg
open Go Go.RowKit Go.Proofs.YtcngcdfngifjnaaDoor.Ne Go.Proofs.YtcngcdfngifjnaaDoor.Kr

theorem isNil {w : World} {n c : Nat} : (binOp .eql 22 (.slice none n c) (.slice none 0 0)).run Tryd.prog w = .ok (.bool true) w := by
  kernel_rfl

set_option linter.unusedSimpArgs false in
set_option maxRecDepth 100000 in
set_option maxHeartbeats 16000000 in
theorem BClone_nil {n c : Nat} {w : World} :
    Calls Tryd.prog 33 #[.slice none n c] w fun e w' => ∃ q cap, e = .returned (.slice q 0 cap) ∧ RowG 5 w.heap.size (.slice q 0 cap) [] w' ∧ Gr w w' := by
  have H := Ow.start w
  go_enter Tryd.func33, Tryd.ntmps33
  go_upto_region 0 with fail
  refine Kr.seqStartW ?_
  (refine Kr.seqQ (v := ?_) (a' := ?_) (by rfl) ?_ ?_ ?_; rotate_left 2; (focus (go_simp; first | done | rfl)); (focus ((try simp only [Kr.PT]); first | done | rfl)))
  refine Kr.seqDoneW ?_
  go_upto_region 1 with fail
  refine Kr.seqStartW ?_
  (refine Kr.seqQ (v := ?_) (a' := ?_) (by rfl) ?_ ?_ ?_; rotate_left 2; (focus (go_simp; first | done | rfl)); (focus ((try simp only [Kr.PT]); first | done | rfl)))
  (refine Kr.seqQ (v := .bool true) (a' := ?_) (by rfl) ?_ ?_ ?_; rotate_left 1; (focus (exact Kr.valOf rfl (isNil))); (focus ((try simp only [Kr.PT]); first | done | rfl)))
  refine Kr.seqDoneW ?_
  go_upto_region 2 with fail
  refine Kr.seqStartW ?_
  (refine Kr.seqQ (v := ?_) (a' := ?_) (by rfl) ?_ ?_ ?_; rotate_left 2; (focus (go_simp; first | done | rfl)); (focus ((try simp only [Kr.PT]); first | done | rfl)))
  refine Kr.seqDoneW ?_
  have hk := trivial
  go_wp2
  refine bodyPost_ret (v := .slice none 0 0) (by simp [results, Tryd.results33, go_sem, hk]) rfl ⟨none, 0, rfl, RowG.nil _ _ _, H.g⟩
set_option linter.unusedSimpArgs false in
set_option maxRecDepth 100000 in
set_option maxHeartbeats 16000000 in
theorem BClone_some {ad : Addr} {n c : Nat} {l : List (BitVec 8)} {w : World} (hS : SrcB (some ad) l w) (hl : l.length = n) (hn : n ≤ 1000000) :
    Calls Tryd.prog 33 #[.slice (some ad) n c] w fun e w' => ∃ q cap, e = .returned (.slice q n cap) ∧ RowG 5 w.heap.size (.slice q n cap) (l.map w8) w' ∧ Gr w w' := by
  have HS := Lib.hid hS; clear hS
  have H := Ow.start w
  go_enter Tryd.func33, Tryd.ntmps33
  go_upto_region 0 with fail
  refine Kr.seqStartW ?_
  (refine Kr.seqQ (v := ?_) (a' := ?_) (by rfl) ?_ ?_ ?_; rotate_left 2; (focus (go_simp; first | done | rfl)); (focus ((try simp only [Kr.PT]); first | done | rfl)))
  refine Kr.seqDoneW ?_
  go_upto_region 1 with fail
  refine Kr.seqStartW ?_
  (refine Kr.seqQ (v := ?_) (a' := ?_) (by rfl) ?_ ?_ ?_; rotate_left 2; (focus (go_simp; first | done | rfl)); (focus ((try simp only [Kr.PT]); first | done | rfl)))
  (refine Kr.seqQ (v := .bool false) (a' := ?_) (by rfl) ?_ ?_ ?_; rotate_left 1; (focus (exact Kr.valOf rfl (notNil))); (focus ((try simp only [Kr.PT]); first | done | rfl)))
  refine Kr.seqDoneW ?_
  go_upto_region 3 with fail
  refine Kr.seqStartW ?_
  refine Kr.seqR (by rfl) (fun K hK => ?_)
  go_simp
  obtain ⟨y1, hy⟩ : ∃ y, w.alloc (.cells #[] 5) = y := ⟨_, rfl⟩
  obtain ⟨bnew, hbn⟩ : ∃ b, w.heap.size = b := ⟨_, rfl⟩
  have hnew := row_new2 H hy hbn; rw [hy, hbn]
  have hg : Gr w y1 := hy ▸ (Gr.refl _).alloc _
  obtain ⟨hR, HA⟩ := hnew; have HR := Lib.hid hR; clear hR
  replace H := H.grow hg
  clear hg hy hbn
  (refine Kr.outS hK (a' := ?_) ?_ ?_; rotate_left; (focus ((try simp only [Kr.PT]); first | done | rfl))); clear hK K
  (refine Kr.seqQ (v := ?_) (a' := ?_) (by rfl) ?_ ?_ ?_; rotate_left 2; (focus (go_simp; first | done | rfl)); (focus ((try simp only [Kr.PT]); first | done | rfl)))
  refine Kr.seqR (by rfl) (fun K hK => ?_)
  refine wp_appG (T := 5) (TS := 22) Tryd.underlying22 info8 rfl (.tmp 5) (.tmp 6) rfl (v := .slice (some ⟨bnew, 0, none⟩) 0 0) (r := []) (d := (l.map w8)) (p := some ad) (m := n) (c := c) (rs := []) rfl rfl (by rw [List.length_map]; exact hl) ((HS.out.grow H.g).srcG) (one_lit8 l) ((fun e => by cases e)) H HR.out HA (by show 0 + n ≤ _; omega) (by decide) ?_
  intro q3 y2 H3 hR3 hA3
  clear H HR HA ; have H := H3; have HR := Lib.hid hR3; have HA := hA3; clear H3 hR3 hA3
  (refine Kr.outS hK (a' := ?_) ?_ ?_; rotate_left; (focus ((try simp only [Kr.PT]); first | done | rfl))); clear hK K
  (refine Kr.seqQ (v := ?_) (a' := ?_) (by rfl) ?_ ?_ ?_; rotate_left 2; (focus (go_simp; first | done | rfl)); (focus ((try simp only [Kr.PT]); first | done | rfl)))
  refine Kr.seqDoneW ?_
  rw [List.nil_append] at HR; obtain ⟨p5, c5, hv5, _⟩ := HR.out.src; rw [List.length_map, hl] at hv5; subst hv5; have HR5 := Lib.hid HR.out; clear HR HA
  have hk := trivial
  go_wp2
  refine bodyPost_ret (v := .slice p5 n c5) (by simp [results, Tryd.results33, go_sem, hk]) rfl ⟨p5, c5, rfl, HR5.out, H.g⟩
theorem BClone_v {p : Option Addr} {n c : Nat} {l : List (BitVec 8)} {w : World} (hS : SrcB p l w) (hl : l.length = n) (hn : n ≤ 1000000) (hp : p = none → n = 0) :
    Calls Tryd.prog 33 #[.slice p n c] w fun e w' => ∃ q cap, e = .returned (.slice q n cap) ∧ RowG 5 w.heap.size (.slice q n cap) (l.map w8) w' ∧ Gr w w' := by
  cases p with
  | none =>
    obtain rfl := hp rfl
    obtain rfl : l = [] := List.eq_nil_of_length_eq_zero hl
    exact BClone_nil
  | some ad => exact BClone_some hS hl hn

end Go.Proofs.YtcngcdfngifjnaaDoor.Dg


/- EncodeOwn. -/
namespace Go.Proofs.YtcngcdfngifjnaaDoor.Dg
open Go Go.RowKit Go.Proofs.YtcngcdfngifjnaaDoor.Ne Go.Proofs.YtcngcdfngifjnaaDoor.Kr

set_option linter.unusedSimpArgs false in
set_option maxRecDepth 100000 in
set_option maxHeartbeats 16000000 in
theorem own_big {w : World} {p : Option Addr} {n c : Nat} (hn : 3000 < n) (hT : Tab w) :
    Calls Tryd.prog 9 #[.slice p n c] w fun e w' => e = .returned (.bool true) ∧ Gr w w' := by
  have HTAB := Lib.hid hT; clear hT
  have H := Ow.start w
  go_enter Tryd.func9, Tryd.ntmps9
  go_upto_region 0 with fail
  refine Kr.seqStartW ?_
  (refine Kr.seqQ (v := ?_) (a' := ?_) (by rfl) ?_ ?_ ?_; rotate_left 2; (focus (go_simp; first | done | rfl)); (focus ((try simp only [Kr.PT]); first | done | rfl)))
  refine Kr.seqDoneW ?_
  have C1 : decide ((3000 : Int) < (n : Int)) = true := decide_eq_true (by omega)
  go_upto_region 1 with fail
  refine Kr.seqStartW ?_
  refine Kr.seqR (by rfl) (fun K hK => ?_)
  go_simp
  go_at_call 10
  refine (awake_v (HTAB.out.grow H.g)).mono ?_
  rintro e y1 ⟨rfl, hg⟩
  replace H := H.grow hg
  clear hg
  (refine Kr.outS hK (a' := ?_) ?_ ?_; rotate_left; (focus ((try simp only [Kr.PT]); first | done | rfl))); clear hK K
  (refine Kr.seqQ (v := ?_) (a' := ?_) (by rfl) ?_ ?_ ?_; rotate_left 2; (focus (go_simp; first | done | rfl)); (focus ((try simp only [Kr.PT]); first | done | rfl)))
  (refine Kr.seqQ (v := ?_) (a' := ?_) (by rfl) ?_ ?_ ?_; rotate_left 2; (focus (go_simp; first | done | rfl)); (focus ((try simp only [Kr.PT]); first | done | rfl)))
  (refine Kr.seqQ (v := ?_) (a' := ?_) (by rfl) ?_ ?_ ?_; rotate_left 2; (focus (go_simp; first | done | rfl)); (focus ((try simp only [Kr.PT]); first | done | rfl)))
  (refine Kr.seqQ (v := .int .i64 (n : Int)) (a' := ?_) (by rfl) ?_ ?_ ?_; rotate_left 1; (focus (exact Kr.valOf rfl ((by go_simp)))); (focus ((try simp only [Kr.PT]); first | done | rfl)))
  (refine Kr.seqQ (v := .bool true) (a' := ?_) (by rfl) ?_ ?_ ?_; rotate_left 1; (focus (exact Kr.valOf rfl (gtrI C1))); (focus ((try simp only [Kr.PT]); first | done | rfl)))
  (refine Kr.seqQ (v := ?_) (a' := ?_) (by rfl) ?_ ?_ ?_; rotate_left 2; (focus (go_simp; first | done | rfl)); (focus ((try simp only [Kr.PT]); first | done | rfl)))
  refine Kr.seqDoneW ?_
  go_upto_region 2 with fail
  refine Kr.seqStartW ?_
  refine Kr.seqR (by rfl) (fun K hK => ?_)
  go_simp
  go_at_call 10
  refine (awake_v (HTAB.out.grow H.g)).mono ?_
  rintro e y2 ⟨rfl, hg⟩
  replace H := H.grow hg
  clear hg
  (refine Kr.outS hK (a' := ?_) ?_ ?_; rotate_left; (focus ((try simp only [Kr.PT]); first | done | rfl))); clear hK K
  (refine Kr.seqQ (v := ?_) (a' := ?_) (by rfl) ?_ ?_ ?_; rotate_left 2; (focus (go_simp; first | done | rfl)); (focus ((try simp only [Kr.PT]); first | done | rfl)))
  refine Kr.seqDoneW ?_
  have hk := trivial
  go_wp2
  refine bodyPost_ret (v := .bool true) (by simp [results, Tryd.results9, go_sem, hk]) rfl ⟨rfl, H.g⟩
theorem srcB_old {p : Option Addr} {l : List (BitVec 8)} {W : World} {b : Nat} (h : SrcB p l W) (hb : W.heap.size = b) : l = [] ∨ ∀ a, p = some a → a.block ≠ b := by
  rcases Nat.eq_zero_or_pos l.length with h0 | h0
  · exact .inl (List.eq_nil_of_length_eq_zero h0)
  · exact .inr (srcB_new h h0 hb).2
theorem srcB_keep {p : Option Addr} {l : List (BitVec 8)} {W : World} {b : Nat} {cs : Array Value} (h : SrcB p l W) (hne : l = [] ∨ ∀ a, p = some a → a.block ≠ b) : SrcB p l (W.setRow b cs) := by
  rcases hne with h0 | h0
  · exact .inl h0
  · exact srcB_put h h0
theorem rowG_cap {T : TypeId} {B n c : Nat} {p : Option Addr} {xs : List Value} {W : World} (h : RowG T B (.slice p n c) xs W) (hl : xs.length = n) : n ≤ c := by
  obtain ⟨p2, c2, e, hc, _⟩ := h.src
  rw [hl] at e hc
  cases e
  exact hc
set_option linter.unusedSimpArgs false in
set_option maxRecDepth 100000 in
set_option maxHeartbeats 16000000 in
theorem own_err {w : World} {p : Option Addr} {n c : Nat} {l : List (BitVec 8)} (hS : SrcB p l w) (hl : l.length = n) (hp : p = none → n = 0) (hn : n ≤ 3000) (hno : ∀ t, rd 8 l ≠ .ok (t, l.length)) (hT : Tab w) :
    Calls Tryd.prog 9 #[.slice p n c] w fun e w' => e = .returned (.bool true) ∧ Gr w w' := by
  have HTAB := Lib.hid hT; clear hT
  have HS := Lib.hid hS; clear hS
  have H := Ow.start w
  go_enter Tryd.func9, Tryd.ntmps9
  go_upto_region 0 with fail
  refine Kr.seqStartW ?_
  (refine Kr.seqQ (v := ?_) (a' := ?_) (by rfl) ?_ ?_ ?_; rotate_left 2; (focus (go_simp; first | done | rfl)); (focus ((try simp only [Kr.PT]); first | done | rfl)))
  refine Kr.seqDoneW ?_
  have C1 : decide ((3000 : Int) < (n : Int)) = false := decide_eq_false (by omega)
  go_upto_region 1 with fail
  refine Kr.seqStartW ?_
  refine Kr.seqR (by rfl) (fun K hK => ?_)
  go_simp
  go_at_call 10
  refine (awake_v (HTAB.out.grow H.g)).mono ?_
  rintro e y1 ⟨rfl, hg⟩
  replace H := H.grow hg
  clear hg
  (refine Kr.outS hK (a' := ?_) ?_ ?_; rotate_left; (focus ((try simp only [Kr.PT]); first | done | rfl))); clear hK K
  (refine Kr.seqQ (v := ?_) (a' := ?_) (by rfl) ?_ ?_ ?_; rotate_left 2; (focus (go_simp; first | done | rfl)); (focus ((try simp only [Kr.PT]); first | done | rfl)))
  (refine Kr.seqQ (v := ?_) (a' := ?_) (by rfl) ?_ ?_ ?_; rotate_left 2; (focus (go_simp; first | done | rfl)); (focus ((try simp only [Kr.PT]); first | done | rfl)))
  (refine Kr.seqQ (v := ?_) (a' := ?_) (by rfl) ?_ ?_ ?_; rotate_left 2; (focus (go_simp; first | done | rfl)); (focus ((try simp only [Kr.PT]); first | done | rfl)))
  (refine Kr.seqQ (v := .int .i64 (n : Int)) (a' := ?_) (by rfl) ?_ ?_ ?_; rotate_left 1; (focus (exact Kr.valOf rfl ((by go_simp)))); (focus ((try simp only [Kr.PT]); first | done | rfl)))
  (refine Kr.seqQ (v := .bool false) (a' := ?_) (by rfl) ?_ ?_ ?_; rotate_left 1; (focus (exact Kr.valOf rfl (gtrI C1))); (focus ((try simp only [Kr.PT]); first | done | rfl)))
  (refine Kr.seqQ (v := ?_) (a' := ?_) (by rfl) ?_ ?_ ?_; rotate_left 2; (focus (go_simp; first | done | rfl)); (focus ((try simp only [Kr.PT]); first | done | rfl)))
  refine Kr.seqDoneW ?_
  go_upto_region 3 with fail
  refine Kr.seqStartW ?_
  (refine Kr.seqQ (v := ?_) (a' := ?_) (by rfl) ?_ ?_ ?_; rotate_left 2; (focus (go_simp; first | done | rfl)); (focus ((try simp only [Kr.PT]); first | done | rfl)))
  refine Kr.seqR (by rfl) (fun K hK => ?_)
  go_simp
  go_at_call 33
  refine (BClone_v (c := c) (HS.out.grow H.g) hl (by omega) hp).mono ?_
  rintro e y2 ⟨q, cq, rfl, hR, hg⟩
  have HQ := Lib.hid (srcB_ofRow hR hl); obtain ⟨hcq, _⟩ : n ≤ cq ∧ True := ⟨rowG_cap hR (by rw [List.length_map]; exact hl), trivial⟩; clear hR
  replace H := H.grow hg
  clear hg
  (refine Kr.outS hK (a' := ?_) ?_ ?_; rotate_left; (focus ((try simp only [Kr.PT]); first | done | rfl))); clear hK K
  (refine Kr.seqQ (v := ?_) (a' := ?_) (by rfl) ?_ ?_ ?_; rotate_left 2; (focus (go_simp; first | done | rfl)); (focus ((try simp only [Kr.PT]); first | done | rfl)))
  refine Kr.seqDoneW ?_
  go_upto_region 4 with fail
  refine Kr.seqStartW ?_
  (refine Kr.seqQ (v := ?_) (a' := ?_) (by rfl) ?_ ?_ ?_; rotate_left 2; (focus (go_simp; first | done | rfl)); (focus ((try simp only [Kr.PT]); first | done | rfl)))
  refine Kr.seqR (by rfl) (fun K hK => ?_)
  go_simp
  go_at_call 17
  refine (Decode_v (w := y2) (l := l) (c := cq) (HQ.out) hl hcq).mono ?_
  rintro e y3 hdec; obtain ⟨v0, v1, v2, v3, er, rfl, hg, hone, hcs⟩ := hdec
  have her : er ≠ 0 := by
    rcases hcs with ⟨_, t, _, h, _⟩ | ⟨h, _⟩
    · exact absurd h (hno t)
    · exact h
  have HONE := Lib.hid hone; clear hone hcs
  replace H := H.grow hg
  replace HQ := Lib.hid (HQ.out.grow hg)
  clear hg
  (refine Kr.outS hK (a' := ?_) ?_ ?_; rotate_left; (focus ((try simp only [Kr.PT]); first | done | rfl))); clear hK K
  (refine Kr.seqQ (v := ?_) (a' := ?_) (by rfl) ?_ ?_ ?_; rotate_left 2; (focus (go_simp; first | done | rfl)); (focus ((try simp only [Kr.PT]); first | done | rfl)))
  (refine Kr.seqQ (v := .agg #[v0, v1, v2, v3]) (a' := ?_) (by rfl) ?_ ?_ ?_; rotate_left 1; (focus (go_simp; first | done | rfl)); (focus ((try simp only [Kr.PT]); first | done | rfl)))
  (refine Kr.seqQ (v := .int .i64 er) (a' := ?_) (by rfl) ?_ ?_ ?_; rotate_left 1; (focus (go_simp; first | done | rfl)); (focus ((try simp only [Kr.PT]); first | done | rfl)))
  refine Kr.seqR (by rfl) (fun K hK => ?_)
  refine wp_runV rfl newI ?_
  obtain ⟨y4, hy⟩ : ∃ y, y3.alloc (.cells ([.int .i64 0, .int .i64 0, .slice none 0 0, .slice none 0 0]).toArray 25) = y := ⟨_, rfl⟩
  obtain ⟨bi, hb⟩ : ∃ b, y3.heap.size = b := ⟨_, rfl⟩
  rw [hy, hb]
  have HQN := Lib.hid (srcB_old HQ.out hb)
  have hg : Gr y3 y4 := hy ▸ (Gr.refl _).alloc _
  replace H := H.alloc hy hb
  replace HQ := Lib.hid (HQ.out.grow hg)
  clear hy hb hg
  (refine Kr.outS hK (a' := ?_) ?_ ?_; rotate_left; (focus ((try simp only [Kr.PT]); first | done | rfl))); clear hK K
  refine Kr.seqR (by rfl) (fun K hK => ?_)
  refine wp_run rfl (stI (H.at 0 rfl) HONE.out) ?_
  have hkp := srcB_keep (cs := ([v0, v1, v2, v3] : List Value).toArray) HQ.out HQN.out
  obtain ⟨y5, hy⟩ : ∃ y, y4.setRow bi ([v0, v1, v2, v3] : List Value).toArray = y := ⟨_, rfl⟩; rw [hy]; rw [hy] at hkp; replace HQ := Lib.hid hkp; clear hkp
  replace H := H.put 0 hy rfl; dsimp only [List.set] at H; clear hy
  (refine Kr.outS hK (a' := ?_) ?_ ?_; rotate_left; (focus ((try simp only [Kr.PT]); first | done | rfl))); clear hK K
  (refine Kr.seqQ (v := ?_) (a' := ?_) (by rfl) ?_ ?_ ?_; rotate_left 2; (focus (go_simp; first | done | rfl)); (focus ((try simp only [Kr.PT]); first | done | rfl)))
  refine Kr.seqDoneW ?_
  have C2 : (!decide (er = 0)) = true := by rw [decide_eq_false her]; rfl
  go_upto_region 5 with fail
  refine Kr.seqStartW ?_
  (refine Kr.seqQ (v := ?_) (a' := ?_) (by rfl) ?_ ?_ ?_; rotate_left 2; (focus (go_simp; first | done | rfl)); (focus ((try simp only [Kr.PT]); first | done | rfl)))
  (refine Kr.seqQ (v := .bool true) (a' := ?_) (by rfl) ?_ ?_ ?_; rotate_left 1; (focus (exact Kr.valOf rfl (neqI C2))); (focus ((try simp only [Kr.PT]); first | done | rfl)))
  refine Kr.seqDoneW ?_
  go_upto_region 6 with fail
  refine Kr.seqStartW ?_
  (refine Kr.seqQ (v := ?_) (a' := ?_) (by rfl) ?_ ?_ ?_; rotate_left 2; (focus (go_simp; first | done | rfl)); (focus ((try simp only [Kr.PT]); first | done | rfl)))
  (refine Kr.seqQ (v := ?_) (a' := ?_) (by rfl) ?_ ?_ ?_; rotate_left 2; (focus (go_simp; first | done | rfl)); (focus ((try simp only [Kr.PT]); first | done | rfl)))
  refine Kr.seqR (by rfl) (fun K hK => ?_)
  go_simp
  go_at_call 16
  have hP := Equal_v (w := y5) (c := cq) (d := c) (b := true) HQ.out hl (HS.out.grow H.g) hl (decide_eq_true rfl)
  refine hP.mono ?_
  rintro e w9 ⟨rfl, hw⟩
  rw [hw]
  clear hw w9 hP
  (refine Kr.outS hK (a' := ?_) ?_ ?_; rotate_left; (focus ((try simp only [Kr.PT]); first | done | rfl))); clear hK K
  (refine Kr.seqQ (v := ?_) (a' := ?_) (by rfl) ?_ ?_ ?_; rotate_left 2; (focus (go_simp; first | done | rfl)); (focus ((try simp only [Kr.PT]); first | done | rfl)))
  refine Kr.seqDoneW ?_
  have hk := trivial
  go_wp2
  refine bodyPost_ret (v := .bool true) (by simp [results, Tryd.results9, go_sem, hk]) rfl ⟨rfl, H.g⟩
end Go.Proofs.YtcngcdfngifjnaaDoor.Dg


/- EncodeOwn. -/
namespace Go.Proofs.YtcngcdfngifjnaaDoor.Dg
open Go Go.RowKit Go.Proofs.YtcngcdfngifjnaaDoor.Ne Go.Proofs.YtcngcdfngifjnaaDoor.Kr

set_option linter.unusedSimpArgs false in
set_option maxRecDepth 100000 in
set_option maxHeartbeats 16000000 in
theorem own_ok {w : World} {p : Option Addr} {n c : Nat} {l : List (BitVec 8)} {t : It} (hS : SrcB p l w) (hl : l.length = n) (hp : p = none → n = 0) (hn : n ≤ 3000) (h0 : 0 < n) (hok : rd 8 l = .ok (t, n)) (hvl : vld 8 t = true) (hel : enc 8 t = l) (hT : Tab w) :
    Calls Tryd.prog 9 #[.slice p n c] w fun e w' => e = .returned (.bool true) ∧ Gr w w' := by
  have HTAB := Lib.hid hT; clear hT
  have HS := Lib.hid hS; clear hS
  have H := Ow.start w
  go_enter Tryd.func9, Tryd.ntmps9
  go_upto_region 0 with fail
  refine Kr.seqStartW ?_
  (refine Kr.seqQ (v := ?_) (a' := ?_) (by rfl) ?_ ?_ ?_; rotate_left 2; (focus (go_simp; first | done | rfl)); (focus ((try simp only [Kr.PT]); first | done | rfl)))
  refine Kr.seqDoneW ?_
  have C1 : decide ((3000 : Int) < (n : Int)) = false := decide_eq_false (by omega)
  go_upto_region 1 with fail
  refine Kr.seqStartW ?_
  refine Kr.seqR (by rfl) (fun K hK => ?_)
  go_simp
  go_at_call 10
  refine (awake_v (HTAB.out.grow H.g)).mono ?_
  rintro e y1 ⟨rfl, hg⟩
  replace H := H.grow hg
  clear hg
  (refine Kr.outS hK (a' := ?_) ?_ ?_; rotate_left; (focus ((try simp only [Kr.PT]); first | done | rfl))); clear hK K
  (refine Kr.seqQ (v := ?_) (a' := ?_) (by rfl) ?_ ?_ ?_; rotate_left 2; (focus (go_simp; first | done | rfl)); (focus ((try simp only [Kr.PT]); first | done | rfl)))
  (refine Kr.seqQ (v := ?_) (a' := ?_) (by rfl) ?_ ?_ ?_; rotate_left 2; (focus (go_simp; first | done | rfl)); (focus ((try simp only [Kr.PT]); first | done | rfl)))
  (refine Kr.seqQ (v := ?_) (a' := ?_) (by rfl) ?_ ?_ ?_; rotate_left 2; (focus (go_simp; first | done | rfl)); (focus ((try simp only [Kr.PT]); first | done | rfl)))
  (refine Kr.seqQ (v := .int .i64 (n : Int)) (a' := ?_) (by rfl) ?_ ?_ ?_; rotate_left 1; (focus (exact Kr.valOf rfl ((by go_simp)))); (focus ((try simp only [Kr.PT]); first | done | rfl)))
  (refine Kr.seqQ (v := .bool false) (a' := ?_) (by rfl) ?_ ?_ ?_; rotate_left 1; (focus (exact Kr.valOf rfl (gtrI C1))); (focus ((try simp only [Kr.PT]); first | done | rfl)))
  (refine Kr.seqQ (v := ?_) (a' := ?_) (by rfl) ?_ ?_ ?_; rotate_left 2; (focus (go_simp; first | done | rfl)); (focus ((try simp only [Kr.PT]); first | done | rfl)))
  refine Kr.seqDoneW ?_
  go_upto_region 3 with fail
  refine Kr.seqStartW ?_
  (refine Kr.seqQ (v := ?_) (a' := ?_) (by rfl) ?_ ?_ ?_; rotate_left 2; (focus (go_simp; first | done | rfl)); (focus ((try simp only [Kr.PT]); first | done | rfl)))
  refine Kr.seqR (by rfl) (fun K hK => ?_)
  go_simp
  go_at_call 33
  refine (BClone_v (c := c) (HS.out.grow H.g) hl (by omega) hp).mono ?_
  rintro e y2 ⟨q, cq, rfl, hR, hg⟩
  obtain ⟨go, co, curo, hvo, hco, hge, hh, htk⟩ := rowG_own hR (by rw [List.length_map]; omega); rw [List.length_map, hl] at hvo hco htk; cases hvo; have HTO := Lib.hid htk; clear htk hR
  replace H := H.made hg hge hh; clear hg hge hh
  (refine Kr.outS hK (a' := ?_) ?_ ?_; rotate_left; (focus ((try simp only [Kr.PT]); first | done | rfl))); clear hK K
  (refine Kr.seqQ (v := ?_) (a' := ?_) (by rfl) ?_ ?_ ?_; rotate_left 2; (focus (go_simp; first | done | rfl)); (focus ((try simp only [Kr.PT]); first | done | rfl)))
  refine Kr.seqDoneW ?_
  go_upto_region 4 with fail
  refine Kr.seqStartW ?_
  (refine Kr.seqQ (v := ?_) (a' := ?_) (by rfl) ?_ ?_ ?_; rotate_left 2; (focus (go_simp; first | done | rfl)); (focus ((try simp only [Kr.PT]); first | done | rfl)))
  refine Kr.seqR (by rfl) (fun K hK => ?_)
  go_simp
  go_at_call 17
  have hgo : go < y2.heap.size := lt_of_heap (H.at 0 rfl)
  refine (Decode_v (w := y2) (l := l) (c := cq) (.inr ⟨go, 0, rfl, bytes_drop (a := 0) (H.at 0 rfl) HTO.out hl⟩) hl hco).mono ?_
  rintro e y3 hdec; obtain ⟨v0, v1, v2, v3, er, rfl, hg, hone, hcs⟩ := hdec
  have hq : er = 0 ∧ ItV y3 9 (fun b => y2.heap.size ≤ b ∧ b < y3.heap.size) (.agg #[v0, v1, v2, v3]) t := by
    rcases hcs with ⟨h0, t2, _, h, hi⟩ | ⟨_, _, _, _, _, h⟩
    · rw [hok, hl] at h; cases h; exact ⟨h0, hi⟩
    · rw [if_neg (by omega), hok] at h; have := h.1; omega
  obtain ⟨rfl, hit⟩ := hq; obtain ⟨FF, hFF⟩ : ∃ z : Nat → Prop, (fun b => y2.heap.size ≤ b ∧ b < y3.heap.size) = z := ⟨_, rfl⟩; rw [hFF] at hit
  have HFo : Hid (¬ FF go) := Lib.hid (by rw [← hFF]; exact fun h => by have := h.1; omega)
  have HFn : Hid (∀ b, y3.heap.size ≤ b → ¬ FF b) := Lib.hid (fun b hb => by rw [← hFF]; exact fun h => by have := h.2; omega)
  have HIT := Lib.hid hit; have HONE := Lib.hid hone; clear hit hone hcs hFF hgo
  replace H := H.grow hg
  have HSZ := Lib.hid (Nat.le_refl y3.heap.size); clear hg
  (refine Kr.outS hK (a' := ?_) ?_ ?_; rotate_left; (focus ((try simp only [Kr.PT]); first | done | rfl))); clear hK K
  (refine Kr.seqQ (v := ?_) (a' := ?_) (by rfl) ?_ ?_ ?_; rotate_left 2; (focus (go_simp; first | done | rfl)); (focus ((try simp only [Kr.PT]); first | done | rfl)))
  (refine Kr.seqQ (v := .agg #[v0, v1, v2, v3]) (a' := ?_) (by rfl) ?_ ?_ ?_; rotate_left 1; (focus (go_simp; first | done | rfl)); (focus ((try simp only [Kr.PT]); first | done | rfl)))
  (refine Kr.seqQ (v := .int .i64 0) (a' := ?_) (by rfl) ?_ ?_ ?_; rotate_left 1; (focus (go_simp; first | done | rfl)); (focus ((try simp only [Kr.PT]); first | done | rfl)))
  refine Kr.seqR (by rfl) (fun K hK => ?_)
  refine wp_runV rfl newI ?_
  obtain ⟨y4, hy⟩ : ∃ y, y3.alloc (.cells ([.int .i64 0, .int .i64 0, .slice none 0 0, .slice none 0 0]).toArray 25) = y := ⟨_, rfl⟩
  obtain ⟨bi, hb⟩ : ∃ b, y3.heap.size = b := ⟨_, rfl⟩
  rw [hy, hb]
  have HFi : Hid (¬ FF bi) := Lib.hid (HFn.out _ (by have := HSZ.out; omega))
  have HSZ2 := Lib.hid (Nat.le_trans HSZ.out ((hy ▸ (Gr.refl _).alloc _ : Gr y3 y4).size))
  have hg : Gr y3 y4 := hy ▸ (Gr.refl _).alloc _
  replace H := H.alloc hy hb
  replace HIT := Lib.hid (HIT.out.grow hg)
  clear hy hb hg
  replace HSZ := HSZ2; clear HSZ2
  (refine Kr.outS hK (a' := ?_) ?_ ?_; rotate_left; (focus ((try simp only [Kr.PT]); first | done | rfl))); clear hK K
  refine Kr.seqR (by rfl) (fun K hK => ?_)
  refine wp_run rfl (stI (H.at 0 rfl) HONE.out) ?_
  have hkp := HIT.out.kept (same_put (W := y4) (b := bi) (cs := ([v0, v1, v2, v3] : List Value).toArray) HFi.out); have hsz := Nat.le_trans HSZ.out (Nat.le_of_eq (size_put (W := y4) (b := bi) (cs := ([v0, v1, v2, v3] : List Value).toArray)).symm)
  obtain ⟨y5, hy⟩ : ∃ y, y4.setRow bi ([v0, v1, v2, v3] : List Value).toArray = y := ⟨_, rfl⟩; rw [hy]; rw [hy] at hkp hsz; replace HIT := Lib.hid hkp; replace HSZ := Lib.hid hsz; clear hkp hsz
  replace H := H.put 0 hy rfl; dsimp only [List.set] at H; clear hy
  (refine Kr.outS hK (a' := ?_) ?_ ?_; rotate_left; (focus ((try simp only [Kr.PT]); first | done | rfl))); clear hK K
  (refine Kr.seqQ (v := ?_) (a' := ?_) (by rfl) ?_ ?_ ?_; rotate_left 2; (focus (go_simp; first | done | rfl)); (focus ((try simp only [Kr.PT]); first | done | rfl)))
  refine Kr.seqDoneW ?_
  have C2 : (!decide ((0 : Int) = 0)) = false := rfl
  go_upto_region 5 with fail
  refine Kr.seqStartW ?_
  (refine Kr.seqQ (v := ?_) (a' := ?_) (by rfl) ?_ ?_ ?_; rotate_left 2; (focus (go_simp; first | done | rfl)); (focus ((try simp only [Kr.PT]); first | done | rfl)))
  (refine Kr.seqQ (v := .bool false) (a' := ?_) (by rfl) ?_ ?_ ?_; rotate_left 1; (focus (exact Kr.valOf rfl (neqI C2))); (focus ((try simp only [Kr.PT]); first | done | rfl)))
  refine Kr.seqDoneW ?_
  go_upto_region 7 with fail
  refine Kr.seqStartW ?_
  (refine Kr.seqQ (v := .agg #[v0, v1, v2, v3]) (a' := ?_) (by rfl) ?_ ?_ ?_; rotate_left 1; (focus (exact Kr.valOf rfl (ldI (H.at 0 rfl)))); (focus ((try simp only [Kr.PT]); first | done | rfl)))
  refine Kr.seqR (by rfl) (fun K hK => ?_)
  go_simp
  go_at_call 12
  have hP := Encode_ok (w := y5) HIT.out hvl (by rw [hel, hl]; omega); rw [hel, hl] at hP
  refine hP.mono ?_; clear hP
  rintro e y6 ⟨p2, c2, rfl, hR, hg⟩
  obtain ⟨gx, cx, curx, hvx, hcx, hge, hh, htk⟩ := rowG_own hR (by rw [List.length_map]; omega); rw [List.length_map, hl] at hvx hcx htk; cases hvx; have HTX := Lib.hid htk; clear htk hR
  have HFx : Hid (¬ FF gx) := Lib.hid (HFn.out _ (by have := HSZ.out; omega)); replace HIT := Lib.hid (HIT.out.grow hg); clear HSZ
  replace H := H.made hg hge hh; clear hg hge hh
  (refine Kr.outS hK (a' := ?_) ?_ ?_; rotate_left; (focus ((try simp only [Kr.PT]); first | done | rfl))); clear hK K
  (refine Kr.seqQ (v := ?_) (a' := ?_) (by rfl) ?_ ?_ ?_; rotate_left 2; (focus (go_simp; first | done | rfl)); (focus ((try simp only [Kr.PT]); first | done | rfl)))
  (refine Kr.seqQ (v := .slice (some ⟨gx, 0, none⟩) n c2) (a' := ?_) (by rfl) ?_ ?_ ?_; rotate_left 1; (focus (go_simp; first | done | rfl)); (focus ((try simp only [Kr.PT]); first | done | rfl)))
  (refine Kr.seqQ (v := .int .i64 0) (a' := ?_) (by rfl) ?_ ?_ ?_; rotate_left 1; (focus (go_simp; first | done | rfl)); (focus ((try simp only [Kr.PT]); first | done | rfl)))
  (refine Kr.seqQ (v := ?_) (a' := ?_) (by rfl) ?_ ?_ ?_; rotate_left 2; (focus (go_simp; first | done | rfl)); (focus ((try simp only [Kr.PT]); first | done | rfl)))
  (refine Kr.seqQ (v := ?_) (a' := ?_) (by rfl) ?_ ?_ ?_; rotate_left 2; (focus (go_simp; first | done | rfl)); (focus ((try simp only [Kr.PT]); first | done | rfl)))
  refine Kr.seqDoneW ?_
  go_upto_region 8 with fail
  refine Kr.seqStartW ?_
  (refine Kr.seqQ (v := ?_) (a' := ?_) (by rfl) ?_ ?_ ?_; rotate_left 2; (focus (go_simp; first | done | rfl)); (focus ((try simp only [Kr.PT]); first | done | rfl)))
  (refine Kr.seqQ (v := .bool false) (a' := ?_) (by rfl) ?_ ?_ ?_; rotate_left 1; (focus (exact Kr.valOf rfl (neqI C2))); (focus ((try simp only [Kr.PT]); first | done | rfl)))
  refine Kr.seqDoneW ?_
  have HTM : Hid (∀ m : List (BitVec 8), m.length = n → True) := Lib.hid (fun _ _ => trivial); clear HTM
  go_upto_region 10 with fail
  refine Kr.seqStartW ?_
  (refine Kr.seqQ (v := ?_) (a' := ?_) (by rfl) ?_ ?_ ?_; rotate_left 2; (focus (go_simp; first | done | rfl)); (focus ((try simp only [Kr.PT]); first | done | rfl)))
  (refine Kr.seqQ (v := .int .i64 (n : Int)) (a' := ?_) (by rfl) ?_ ?_ ?_; rotate_left 1; (focus (exact Kr.valOf rfl ((by go_simp)))); (focus ((try simp only [Kr.PT]); first | done | rfl)))
  (refine Kr.seqQ (v := ?_) (a' := ?_) (by rfl) ?_ ?_ ?_; rotate_left 2; (focus (go_simp; first | done | rfl)); (focus ((try simp only [Kr.PT]); first | done | rfl)))
  refine Kr.seqDoneW ?_
  have hm0 : ∃ m : List (BitVec 8), m.length = n ∧ curx.take n = m.map w8 := ⟨l, hl, HTX.out⟩; have HM0 := Lib.hid hm0; clear hm0
  have H2 := Lib.hid H; clear H
  go_wp2_with fail
  go_loopw [41] (fun iv wr => ∃ (j : Nat) (cur9 : List Value), j ≤ n ∧ iv = .int .i64 (j : Int) ∧ Hid (∃ m : List (BitVec 8), m.length = n ∧ cur9.take n = m.map w8) ∧ Hid (ItV wr 9 FF (.agg #[v0, v1, v2, v3]) t) ∧ Hid (Ow w wr [(gx, 5, cur9), (bi, 25, [v0, v1, v2, v3]), (go, 5, curo)])) (fun iv _ => (n - (intOf iv).toNat))
  case atStart => exact ⟨0, curx, by omega, rfl, HM0, HIT, H2⟩
  case round =>
    clear H2 HM0 HIT; obtain ⟨j, cur9, hj, rfl, HM, HIT, HH⟩ := hrel; have H := HH.out; clear HH
    by_cases hje : j = n
    · have C3 : decide ((j : Int) < (n : Int)) = false := decide_eq_false (by omega)
      clear hje
      go_upto_region 11 with fail
      refine Kr.seqStartW ?_
      (refine Kr.seqQ (v := .bool false) (a' := ?_) (by rfl) ?_ ?_ ?_; rotate_left 1; (focus (exact Kr.valOf rfl (lssT C3))); (focus ((try simp only [Kr.PT]); first | done | rfl)))
      refine Kr.seqDoneW ?_
      obtain ⟨curxz, hcz⟩ : ∃ z, cur9 = z := ⟨_, rfl⟩; rw [hcz] at H; clear hcz HM C3
      go_upto_region 15 with fail
      refine Kr.seqStartW ?_
      (refine Kr.seqQ (v := ?_) (a' := ?_) (by rfl) ?_ ?_ ?_; rotate_left 2; (focus (go_simp; first | done | rfl)); (focus ((try simp only [Kr.PT]); first | done | rfl)))
      (refine Kr.seqQ (v := .int .i64 (n : Int)) (a' := ?_) (by rfl) ?_ ?_ ?_; rotate_left 1; (focus (exact Kr.valOf rfl ((by go_simp)))); (focus ((try simp only [Kr.PT]); first | done | rfl)))
      (refine Kr.seqQ (v := ?_) (a' := ?_) (by rfl) ?_ ?_ ?_; rotate_left 2; (focus (go_simp; first | done | rfl)); (focus ((try simp only [Kr.PT]); first | done | rfl)))
      refine Kr.seqDoneW ?_
      have hm0 : ∃ m : List (BitVec 8), m.length = n ∧ curo.take n = m.map w8 := ⟨l, hl, HTO.out⟩; have HM0 := Lib.hid hm0; clear hm0
      have H2 := Lib.hid H; clear H
      go_wp2_with fail
      go_loopw [53] (fun iv wr => ∃ (j : Nat) (cur9 : List Value), j ≤ n ∧ iv = .int .i64 (j : Int) ∧ Hid (∃ m : List (BitVec 8), m.length = n ∧ cur9.take n = m.map w8) ∧ Hid (ItV wr 9 FF (.agg #[v0, v1, v2, v3]) t) ∧ Hid (Ow w wr [(gx, 5, curxz), (bi, 25, [v0, v1, v2, v3]), (go, 5, cur9)])) (fun iv _ => (n - (intOf iv).toNat))
      case atStart => exact ⟨0, curo, by omega, rfl, HM0, HIT, H2⟩
      case round =>
        clear H2 HM0 HIT; obtain ⟨j, cur9, hj, rfl, HM, HIT, HH⟩ := hrel; have H := HH.out; clear HH
        by_cases hje : j = n
        · have C3 : decide ((j : Int) < (n : Int)) = false := decide_eq_false (by omega)
          clear hje
          go_upto_region 16 with fail
          refine Kr.seqStartW ?_
          (refine Kr.seqQ (v := .bool false) (a' := ?_) (by rfl) ?_ ?_ ?_; rotate_left 1; (focus (exact Kr.valOf rfl (lssT C3))); (focus ((try simp only [Kr.PT]); first | done | rfl)))
          refine Kr.seqDoneW ?_
          obtain ⟨curoz, hcz⟩ : ∃ z, cur9 = z := ⟨_, rfl⟩; rw [hcz] at H; clear hcz HM C3
          go_upto_region 20 with fail
          refine Kr.seqStartW ?_
          (refine Kr.seqQ (v := .agg #[v0, v1, v2, v3]) (a' := ?_) (by rfl) ?_ ?_ ?_; rotate_left 1; (focus (exact Kr.valOf rfl (ldI (H.at 1 rfl)))); (focus ((try simp only [Kr.PT]); first | done | rfl)))
          refine Kr.seqR (by rfl) (fun K hK => ?_)
          go_simp
          go_at_call 12
          have hP := Encode_ok (w := wr) HIT.out hvl (by rw [hel, hl]; omega); rw [hel, hl] at hP
          refine hP.mono ?_; clear hP
          rintro e y7 ⟨p3, c3, rfl, hR, hg⟩
          have HY := Lib.hid (srcB_ofRow hR hl); clear hR
          replace H := H.grow hg
          clear hg
          (refine Kr.outS hK (a' := ?_) ?_ ?_; rotate_left; (focus ((try simp only [Kr.PT]); first | done | rfl))); clear hK K
          (refine Kr.seqQ (v := ?_) (a' := ?_) (by rfl) ?_ ?_ ?_; rotate_left 2; (focus (go_simp; first | done | rfl)); (focus ((try simp only [Kr.PT]); first | done | rfl)))
          (refine Kr.seqQ (v := .slice p3 n c3) (a' := ?_) (by rfl) ?_ ?_ ?_; rotate_left 1; (focus (go_simp; first | done | rfl)); (focus ((try simp only [Kr.PT]); first | done | rfl)))
          (refine Kr.seqQ (v := .int .i64 0) (a' := ?_) (by rfl) ?_ ?_ ?_; rotate_left 1; (focus (go_simp; first | done | rfl)); (focus ((try simp only [Kr.PT]); first | done | rfl)))
          (refine Kr.seqQ (v := ?_) (a' := ?_) (by rfl) ?_ ?_ ?_; rotate_left 2; (focus (go_simp; first | done | rfl)); (focus ((try simp only [Kr.PT]); first | done | rfl)))
          (refine Kr.seqQ (v := ?_) (a' := ?_) (by rfl) ?_ ?_ ?_; rotate_left 2; (focus (go_simp; first | done | rfl)); (focus ((try simp only [Kr.PT]); first | done | rfl)))
          refine Kr.seqDoneW ?_
          go_upto_region 21 with fail
          refine Kr.seqStartW ?_
          (refine Kr.seqQ (v := ?_) (a' := ?_) (by rfl) ?_ ?_ ?_; rotate_left 2; (focus (go_simp; first | done | rfl)); (focus ((try simp only [Kr.PT]); first | done | rfl)))
          (refine Kr.seqQ (v := ?_) (a' := ?_) (by rfl) ?_ ?_ ?_; rotate_left 2; (focus (go_simp; first | done | rfl)); (focus ((try simp only [Kr.PT]); first | done | rfl)))
          (refine Kr.seqQ (v := ?_) (a' := ?_) (by rfl) ?_ ?_ ?_; rotate_left 2; (focus (go_simp; first | done | rfl)); (focus ((try simp only [Kr.PT]); first | done | rfl)))
          (refine Kr.seqQ (v := ?_) (a' := ?_) (by rfl) ?_ ?_ ?_; rotate_left 2; (focus (go_simp; first | done | rfl)); (focus ((try simp only [Kr.PT]); first | done | rfl)))
          (refine Kr.seqQ (v := ?_) (a' := ?_) (by rfl) ?_ ?_ ?_; rotate_left 2; (focus (go_simp; first | done | rfl)); (focus ((try simp only [Kr.PT]); first | done | rfl)))
          refine Kr.seqR (by rfl) (fun K hK => ?_)
          go_simp
          go_at_call 16
          have hP := Equal_v (w := y7) (c := c3) (d := c) (b := true) HY.out hl (HS.out.grow H.g) hl (decide_eq_true rfl)
          refine hP.mono ?_
          rintro e w9 ⟨rfl, hw⟩
          rw [hw]
          clear hw w9 hP
          (refine Kr.outS hK (a' := ?_) ?_ ?_; rotate_left; (focus ((try simp only [Kr.PT]); first | done | rfl))); clear hK K
          (refine Kr.seqQ (v := ?_) (a' := ?_) (by rfl) ?_ ?_ ?_; rotate_left 2; (focus (go_simp; first | done | rfl)); (focus ((try simp only [Kr.PT]); first | done | rfl)))
          (refine Kr.seqQ (v := ?_) (a' := ?_) (by rfl) ?_ ?_ ?_; rotate_left 2; (focus (go_simp; first | done | rfl)); (focus ((try simp only [Kr.PT]); first | done | rfl)))
          refine Kr.seqDoneW ?_
          have hk := trivial
          go_wp2
          refine bodyPost_ret (v := .bool true) (by simp [results, Tryd.results9, go_sem, hk]) rfl ⟨rfl, H.g⟩
        · have hjl : j < n := by omega
          have C3 : decide ((j : Int) < (n : Int)) = true := decide_eq_true (by omega)
          obtain ⟨m, hml, hmt⟩ := HM.out; obtain ⟨x0, hx0⟩ : ∃ x, m[j]? = some x := ⟨_, List.getElem?_eq_getElem (by omega)⟩; obtain ⟨z0, hz0⟩ : ∃ z, x0 ^^^ 255#8 = z := ⟨_, rfl⟩
          have HCI := Lib.hid (cur_get hmt hjl hx0); have HM2 : Hid (∃ m2 : List (BitVec 8), m2.length = n ∧ (cur9.set j (.int .u8 (z0.toNat : Int))).take n = m2.map w8) := Lib.hid ⟨m.set j z0, by rw [List.length_set]; exact hml, take_set8 hmt⟩; clear hx0 hmt hml hje
          go_upto_region 16 with fail
          refine Kr.seqStartW ?_
          (refine Kr.seqQ (v := .bool true) (a' := ?_) (by rfl) ?_ ?_ ?_; rotate_left 1; (focus (exact Kr.valOf rfl (lssT C3))); (focus ((try simp only [Kr.PT]); first | done | rfl)))
          refine Kr.seqDoneW ?_
          go_upto_region 17 with fail
          refine Kr.seqStartW ?_
          (refine Kr.seqQ (v := ?_) (a' := ?_) (by rfl) ?_ ?_ ?_; rotate_left 2; (focus (go_simp; first | done | rfl)); (focus ((try simp only [Kr.PT]); first | done | rfl)))
          (refine Kr.seqQ (v := ?_) (a' := ?_) (by rfl) ?_ ?_ ?_; rotate_left 2; (focus (go_simp; first | done | rfl)); (focus ((try simp only [Kr.PT]); first | done | rfl)))
          refine Kr.seqDoneW ?_
          go_upto_region 18 with fail
          refine Kr.seqStartW ?_
          (refine Kr.seqQ (v := ?_) (a' := ?_) (by rfl) ?_ ?_ ?_; rotate_left 2; (focus (go_simp; first | done | rfl)); (focus ((try simp only [Kr.PT]); first | done | rfl)))
          (refine Kr.seqQ (v := ?_) (a' := ?_) (by rfl) ?_ ?_ ?_; rotate_left 2; (focus (go_simp; first | done | rfl)); (focus ((try simp only [Kr.PT]); first | done | rfl)))
          (refine Kr.seqQ (v := .pointer (some ⟨go, j, none⟩)) (a' := ?_) (by rfl) ?_ ?_ ?_; rotate_left 1; (focus (exact Kr.valOf rfl (ixB0 hjl))); (focus ((try simp only [Kr.PT]); first | done | rfl)))
          (refine Kr.seqQ (v := .int .u8 ((x0).toNat : Int)) (a' := ?_) (by rfl) ?_ ?_ ?_; rotate_left 1; (focus (exact Kr.valOf rfl (ldE8 (rowCell (H.at 2 rfl) HCI.out)))); (focus ((try simp only [Kr.PT]); first | done | rfl)))
          (refine Kr.seqQ (v := .int .u8 ((z0).toNat : Int)) (a' := ?_) (by rfl) ?_ ?_ ?_; rotate_left 1; (focus (exact Kr.valOf rfl (xor8 (y := 255#8) hz0))); (focus ((try simp only [Kr.PT]); first | done | rfl)))
          (refine Kr.seqQ (v := .pointer (some ⟨go, j, none⟩)) (a' := ?_) (by rfl) ?_ ?_ ?_; rotate_left 1; (focus (exact Kr.valOf rfl (ixB0 hjl))); (focus ((try simp only [Kr.PT]); first | done | rfl)))
          refine Kr.seqR (by rfl) (fun K hK => ?_)
          refine wp_run rfl (stE8 (H.cell 2 rfl HCI.out) (H.frozen 2 rfl j)) ?_
          have hkp := HIT.out.kept (same_set (W := wr) (b := go) (j := j) (u := .int .u8 (z0.toNat : Int)) HFo.out)
          obtain ⟨y8, hy⟩ : ∃ y, wr.setCell ⟨go, j, none⟩ (.int .u8 (z0.toNat : Int)) = y := ⟨_, rfl⟩; rw [hy]; rw [hy] at hkp; replace HIT := Lib.hid hkp; clear hkp
          replace H := H.set 2 (j) hy rfl; dsimp only [List.set] at H; clear hy
          (refine Kr.outS hK (a' := ?_) ?_ ?_; rotate_left; (focus ((try simp only [Kr.PT]); first | done | rfl))); clear hK K
          refine Kr.seqDoneW ?_
          have HADD : IntKind.i64.wrap ((j : Int) + 1) = ((j + 1 : Nat) : Int) := wrap_nat (by omega) (by omega)
          go_upto_region 19 with fail
          refine Kr.seqStartW ?_
          (refine Kr.seqQ (v := .int .i64 ((j + 1 : Nat) : Int)) (a' := ?_) (by rfl) ?_ ?_ ?_; rotate_left 1; (focus (exact Kr.valOf rfl (addI HADD))); (focus ((try simp only [Kr.PT]); first | done | rfl)))
          (refine Kr.seqQ (v := ?_) (a' := ?_) (by rfl) ?_ ?_ ?_; rotate_left 2; (focus (go_simp; first | done | rfl)); (focus ((try simp only [Kr.PT]); first | done | rfl)))
          refine Kr.seqDoneW ?_
          go_wp2; go_roundw
          case rel =>
            first
            | exact ⟨j + 1, _, by omega, rfl, HM2, HIT, Lib.hid H⟩
            | (repeat apply Exists.intro); exact ⟨⟨j + 1, _, by omega, rfl, HM2, HIT, Lib.hid H⟩, rfl⟩
            | (repeat apply Exists.intro); refine ⟨⟨j + 1, _, by omega, rfl, HM2, HIT, Lib.hid H⟩, ?_⟩; refine ⟨?_, ?_⟩ <;> (repeat apply And.intro) <;> rfl
          case measure => simp [intOf]; omega
    · have hjl : j < n := by omega
      have C3 : decide ((j : Int) < (n : Int)) = true := decide_eq_true (by omega)
      obtain ⟨m, hml, hmt⟩ := HM.out; obtain ⟨x0, hx0⟩ : ∃ x, m[j]? = some x := ⟨_, List.getElem?_eq_getElem (by omega)⟩; obtain ⟨z0, hz0⟩ : ∃ z, x0 ^^^ 255#8 = z := ⟨_, rfl⟩
      have HCI := Lib.hid (cur_get hmt hjl hx0); have HM2 : Hid (∃ m2 : List (BitVec 8), m2.length = n ∧ (cur9.set j (.int .u8 (z0.toNat : Int))).take n = m2.map w8) := Lib.hid ⟨m.set j z0, by rw [List.length_set]; exact hml, take_set8 hmt⟩; clear hx0 hmt hml hje
      go_upto_region 11 with fail
      refine Kr.seqStartW ?_
      (refine Kr.seqQ (v := .bool true) (a' := ?_) (by rfl) ?_ ?_ ?_; rotate_left 1; (focus (exact Kr.valOf rfl (lssT C3))); (focus ((try simp only [Kr.PT]); first | done | rfl)))
      refine Kr.seqDoneW ?_
      go_upto_region 12 with fail
      refine Kr.seqStartW ?_
      (refine Kr.seqQ (v := ?_) (a' := ?_) (by rfl) ?_ ?_ ?_; rotate_left 2; (focus (go_simp; first | done | rfl)); (focus ((try simp only [Kr.PT]); first | done | rfl)))
      (refine Kr.seqQ (v := ?_) (a' := ?_) (by rfl) ?_ ?_ ?_; rotate_left 2; (focus (go_simp; first | done | rfl)); (focus ((try simp only [Kr.PT]); first | done | rfl)))
      refine Kr.seqDoneW ?_
      go_upto_region 13 with fail
      refine Kr.seqStartW ?_
      (refine Kr.seqQ (v := ?_) (a' := ?_) (by rfl) ?_ ?_ ?_; rotate_left 2; (focus (go_simp; first | done | rfl)); (focus ((try simp only [Kr.PT]); first | done | rfl)))
      (refine Kr.seqQ (v := ?_) (a' := ?_) (by rfl) ?_ ?_ ?_; rotate_left 2; (focus (go_simp; first | done | rfl)); (focus ((try simp only [Kr.PT]); first | done | rfl)))
      (refine Kr.seqQ (v := .pointer (some ⟨gx, j, none⟩)) (a' := ?_) (by rfl) ?_ ?_ ?_; rotate_left 1; (focus (exact Kr.valOf rfl (ixB0 hjl))); (focus ((try simp only [Kr.PT]); first | done | rfl)))
      (refine Kr.seqQ (v := .int .u8 ((x0).toNat : Int)) (a' := ?_) (by rfl) ?_ ?_ ?_; rotate_left 1; (focus (exact Kr.valOf rfl (ldE8 (rowCell (H.at 0 rfl) HCI.out)))); (focus ((try simp only [Kr.PT]); first | done | rfl)))
      (refine Kr.seqQ (v := .int .u8 ((z0).toNat : Int)) (a' := ?_) (by rfl) ?_ ?_ ?_; rotate_left 1; (focus (exact Kr.valOf rfl (xor8 (y := 255#8) hz0))); (focus ((try simp only [Kr.PT]); first | done | rfl)))
      (refine Kr.seqQ (v := .pointer (some ⟨gx, j, none⟩)) (a' := ?_) (by rfl) ?_ ?_ ?_; rotate_left 1; (focus (exact Kr.valOf rfl (ixB0 hjl))); (focus ((try simp only [Kr.PT]); first | done | rfl)))
      refine Kr.seqR (by rfl) (fun K hK => ?_)
      refine wp_run rfl (stE8 (H.cell 0 rfl HCI.out) (H.frozen 0 rfl j)) ?_
      have hkp := HIT.out.kept (same_set (W := wr) (b := gx) (j := j) (u := .int .u8 (z0.toNat : Int)) HFx.out)
      obtain ⟨y9, hy⟩ : ∃ y, wr.setCell ⟨gx, j, none⟩ (.int .u8 (z0.toNat : Int)) = y := ⟨_, rfl⟩; rw [hy]; rw [hy] at hkp; replace HIT := Lib.hid hkp; clear hkp
      replace H := H.set 0 (j) hy rfl; dsimp only [List.set] at H; clear hy
      (refine Kr.outS hK (a' := ?_) ?_ ?_; rotate_left; (focus ((try simp only [Kr.PT]); first | done | rfl))); clear hK K
      refine Kr.seqDoneW ?_
      have HADD : IntKind.i64.wrap ((j : Int) + 1) = ((j + 1 : Nat) : Int) := wrap_nat (by omega) (by omega)
      go_upto_region 14 with fail
      refine Kr.seqStartW ?_
      (refine Kr.seqQ (v := .int .i64 ((j + 1 : Nat) : Int)) (a' := ?_) (by rfl) ?_ ?_ ?_; rotate_left 1; (focus (exact Kr.valOf rfl (addI HADD))); (focus ((try simp only [Kr.PT]); first | done | rfl)))
      (refine Kr.seqQ (v := ?_) (a' := ?_) (by rfl) ?_ ?_ ?_; rotate_left 2; (focus (go_simp; first | done | rfl)); (focus ((try simp only [Kr.PT]); first | done | rfl)))
      refine Kr.seqDoneW ?_
      go_wp2; go_roundw
      case rel =>
        first
        | exact ⟨j + 1, _, by omega, rfl, HM2, HIT, Lib.hid H⟩
        | (repeat apply Exists.intro); exact ⟨⟨j + 1, _, by omega, rfl, HM2, HIT, Lib.hid H⟩, rfl⟩
        | (repeat apply Exists.intro); refine ⟨⟨j + 1, _, by omega, rfl, HM2, HIT, Lib.hid H⟩, ?_⟩; refine ⟨?_, ?_⟩ <;> (repeat apply And.intro) <;> rfl
      case measure => simp [intOf]; omega
end Go.Proofs.YtcngcdfngifjnaaDoor.Dg
