/- Expand. -/
import Derived.Test.YtilbojcghladjaaDoorQEm
import Derived.Deep.Cut
namespace Go.Proofs.YtilbojcghladjaaDoor.Dg
open Go Go.RowKit Go.Proofs.YtilbojcghladjaaDoor.Ne Go.Proofs.YtilbojcghladjaaDoor.Kr

theorem eqS {w : World} {a b : ByteArray} {c : Bool} (h : decide (a = b) = c) : (binOp .eql 9 (.string a) (.string b)).run Tryd.prog w = .ok (.bool c) w := by
  rw [← h]; exact run_eqlS _ _ _
theorem strB_dec {l k : List (BitVec 8)} {b : Bool} (h : decide (l = k) = b) : decide (strB l = strB k) = b := by
  rw [← h]
  exact decide_eq_decide.2 ⟨strB_inj, fun e => by rw [e]⟩
theorem apt_new {W : World} {T T2 : TypeId} {rs : List Blk} {v : Value} {xs l : List Value} {b B : Nat} (h : RowG T B v xs W) (HA : Apt v rs) (hb : W.heap.size = b) : Apt v ((b, T2, l) :: rs) := fun k hk x hx e => by
  rcases List.mem_cons.1 hx with rfl | hx
  · have := (h.lt k hk).2
    have e2 : b = k := e
    omega
  · exact HA k hk x hx e
theorem apt_tail {rs : List Blk} {v : Value} {x : Blk} (h : Apt v (x :: rs)) : Apt v rs := fun k hk y hy => h k hk y (List.mem_cons_of_mem _ hy)
theorem apt_set {rs : List Blk} {v : Value} {b : Nat} {T : TypeId} {l l2 : List Value} (h : Apt v rs) (i : Nat) (hi : rs[i]? = some (b, T, l)) : Apt v (rs.set i (b, T, l2)) := fun k hk y hy => by
  rcases List.mem_or_eq_of_mem_set hy with hy | rfl
  · exact h k hk y hy
  · exact h k hk (b, T, l) (List.mem_of_getElem? hi)
theorem rowG_putA {T T2 : TypeId} {rs : List Blk} {v : Value} {xs l : List Value} {b B : Nat} {W : World} {cs : Array Value} (h : RowG T B v xs W) (HA : Apt v rs) (i : Nat) (hi : rs[i]? = some (b, T2, l)) : RowG T B v xs (W.setRow b cs) := by
  obtain ⟨h1, h2 | ⟨g, cap, cur, e1, e2, e3, e4⟩⟩ := h
  · exact ⟨h1, .inl h2⟩
  · refine ⟨h1, .inr ⟨g, cap, cur, e1, e2, ?_, e4⟩⟩
    rw [setRow_other]
    · exact e3
    · intro e
      exact HA g (by rw [e1]; rfl) _ (List.mem_of_getElem? hi) e.symm
theorem rowG_ptr {T : TypeId} {B n c : Nat} {p : Option Addr} {xs : List Value} {W : World} (h : RowG T B (.slice p n c) xs W) : ∀ ad, p = some ad → ∃ g, ad = ⟨g, 0, none⟩ := fun ad e => by
  rcases h.2 with ⟨h1, _⟩ | ⟨g, cap, cur, h1, _⟩
  · cases h1; cases e
  · cases h1; exact ⟨g, (Option.some.inj e).symm⟩
def Shp (p : Option Addr) (n : Nat) : Prop := (p = none ∧ n = 0) ∨ ∃ g, p = some ⟨g, 0, none⟩
/-- The stream of a digest: so many blocks. -/
def stm (S : List (BitVec 8)) : Nat → List (BitVec 8)
  | 0 => []
  | i + 1 => stm S i ++ sha (S ++ be8 i)
theorem stm_length (S : List (BitVec 8)) : ∀ i, (stm S i).length = 32 * i
  | 0 => rfl
  | i + 1 => by rw [stm, List.length_append, stm_length S i, sha_length]; omega
theorem stm_take (S : List (BitVec 8)) {i : Nat} : ∀ {j : Nat}, i ≤ j → (stm S j).take (32 * i) = stm S i
  | 0, h => by
    obtain rfl : i = 0 := by omega
    rfl
  | j + 1, h => by
    rcases Nat.lt_or_ge j i with h1 | h1
    · obtain rfl : i = j + 1 := by omega
      exact List.take_of_length_le (by rw [stm_length]; exact Nat.le_refl _)
    · rw [stm, List.take_append_of_le_length (by rw [stm_length]; omega)]
      exact stm_take S h1
/-- The first n bytes of the stream. -/
def ex (S : List (BitVec 8)) (n : Nat) : List (BitVec 8) := (stm S ((n + 31) / 32)).take n
theorem ex_length (S : List (BitVec 8)) (n : Nat) : (ex S n).length = n := by rw [ex, List.length_take, stm_length]; omega
theorem stm_ex (S : List (BitVec 8)) {i n : Nat} (h : n ≤ 32 * i) : (stm S i).take n = ex S n := by
  have h1 : (n + 31) / 32 ≤ i := by omega
  rw [ex, ← stm_take S h1, List.take_take, Nat.min_eq_left (by omega)]
theorem ex_take (S : List (BitVec 8)) {k n : Nat} (h : k ≤ n) : (ex S n).take k = ex S k := by
  rw [ex, List.take_take, Nat.min_eq_left h, stm_ex S (by omega)]
theorem srcB_take {p : Option Addr} {l : List (BitVec 8)} {W : World} (h : SrcB p l W) (k : Nat) : SrcB p (l.take k) W := by
  rcases h with h | ⟨b, off, e, h⟩
  · exact .inl (by rw [h, List.take_nil])
  · refine .inr ⟨b, off, e, fun j x hx => h j x ?_⟩
    rw [List.getElem?_take] at hx
    split at hx
    · exact hx
    · cases hx
theorem slTo {w : World} {b off n c k : Nat} (h : k ≤ c) : (Instr.sliceAt 22 (.slice (some ⟨b, off, none⟩) n c) none (some (.int .i64 (k : Int))) none).run Tryd.prog w = .ok (.slice (some ⟨b, off, none⟩) k c) w := by
  have h5 : (k : Int) ≤ (c : Int) := by omega
  have h6 : (0 : Int) ≤ (k : Int) := by omega
  go_simp
theorem slTo0 {w : World} : (Instr.sliceAt 22 (.slice none 0 0) none (some (.int .i64 ((0 : Nat) : Int))) none).run Tryd.prog w = .ok (.slice none 0 0) w := by
  go_simp
theorem slTo3 {w : World} {b off n c k : Nat} (h : k ≤ c) : (Instr.sliceAt 22 (.slice (some ⟨b, off, none⟩) n c) none (some (.int .i64 (k : Int))) (some (.int .i64 (k : Int)))).run Tryd.prog w = .ok (.slice (some ⟨b, off, none⟩) k k) w := by
  have h5 : (k : Int) ≤ (c : Int) := by omega
  have h6 : (0 : Int) ≤ (k : Int) := by omega
  go_simp
theorem slTo30 {w : World} {m c n : Nat} (hm : m = 0) (hc : c = 0) (hn : n = 0) : (Instr.sliceAt 22 (.slice none m c) none (some (.int .i64 (n : Int))) (some (.int .i64 (n : Int)))).run Tryd.prog w = .ok (.slice none n n) w := by
  subst hm hc hn
  go_simp
theorem slToP {w : World} {p : Option Addr} {m c k : Nat} (h : Shp p c) (hk : k ≤ c) (hm : p = none → m = 0) : (Instr.sliceAt 22 (.slice p m c) none (some (.int .i64 (k : Int))) none).run Tryd.prog w = .ok (.slice p k c) w := by
  rcases h with ⟨rfl, rfl⟩ | ⟨g, rfl⟩
  · obtain rfl : k = 0 := by omega
    obtain rfl := hm rfl
    exact slTo0
  · exact slTo hk

set_option linter.unusedSimpArgs false in
set_option maxRecDepth 100000 in
set_option maxHeartbeats 16000000 in
theorem Equal_v {p q : Option Addr} {n c m d : Nat} {l k : List (BitVec 8)} {b : Bool} {w : World} (hl : SrcB p l w) (hln : l.length = n) (hk : SrcB q k w) (hkn : k.length = m) (hb : decide (l = k) = b) :
    Calls Tryd.prog 19 #[.slice p n c, .slice q m d] w fun e w' => e = .returned (.bool b) ∧ w' = w := by
  have hB := strB_dec hb
  have H := Ow.start w
  go_enter Tryd.func19, Tryd.ntmps19
  go_upto_region 0 with fail
  refine Kr.seqStartW ?_
  (refine Kr.seqQ (v := ?_) (a' := ?_) (by rfl) ?_ ?_ ?_; rotate_left 2; (focus (go_simp; first | done | rfl)); (focus ((try simp only [Kr.PT]); first | done | rfl)))
  refine Kr.seqDoneW ?_
  go_upto_region 1 with fail
  refine Kr.seqStartW ?_
  (refine Kr.seqQ (v := ?_) (a' := ?_) (by rfl) ?_ ?_ ?_; rotate_left 2; (focus (go_simp; first | done | rfl)); (focus ((try simp only [Kr.PT]); first | done | rfl)))
  (refine Kr.seqQ (v := .string (strB l)) (a' := ?_) (by rfl) ?_ ?_ ?_; rotate_left 1; (focus (exact Kr.valOf rfl (run_str hl hln))); (focus ((try simp only [Kr.PT]); first | done | rfl)))
  (refine Kr.seqQ (v := ?_) (a' := ?_) (by rfl) ?_ ?_ ?_; rotate_left 2; (focus (go_simp; first | done | rfl)); (focus ((try simp only [Kr.PT]); first | done | rfl)))
  (refine Kr.seqQ (v := .string (strB k)) (a' := ?_) (by rfl) ?_ ?_ ?_; rotate_left 1; (focus (exact Kr.valOf rfl (run_str hk hkn))); (focus ((try simp only [Kr.PT]); first | done | rfl)))
  (refine Kr.seqQ (v := .bool b) (a' := ?_) (by rfl) ?_ ?_ ?_; rotate_left 1; (focus (exact Kr.valOf rfl (eqS hB))); (focus ((try simp only [Kr.PT]); first | done | rfl)))
  (refine Kr.seqQ (v := ?_) (a' := ?_) (by rfl) ?_ ?_ ?_; rotate_left 2; (focus (go_simp; first | done | rfl)); (focus ((try simp only [Kr.PT]); first | done | rfl)))
  refine Kr.seqDoneW ?_
  have hk := trivial
  go_wp2
  refine bodyPost_ret (v := .bool b) (by simp [results, Tryd.results19, go_sem, hk]) rfl ⟨rfl, rfl⟩
set_option linter.unusedSimpArgs false in
set_option maxRecDepth 100000 in
set_option maxHeartbeats 16000000 in
theorem Expand_neg {S : List (BitVec 8)} {m : Int} {w : World} (hl : S.length = 32) (hm : m < 0) :
    Calls Tryd.prog 18 #[.agg (S.map w8).toArray, .int .i64 m] w fun e w' => e = .returned (.tuple #[.slice none 0 0, .int .i64 2]) ∧ Gr w w' := by
  have hl32 : (S.map w8).length = 32 := by rw [List.length_map]; exact hl
  have H := Ow.start w
  go_enter Tryd.func18, Tryd.ntmps18
  go_upto_region 0 with fail
  refine Kr.seqStartW ?_
  refine Kr.seqR (by rfl) (fun K hK => ?_)
  refine wp_runV rfl boxH ?_
  obtain ⟨y1, hy⟩ : ∃ y, w.alloc (.cells (S.map w8).toArray 25) = y := ⟨_, rfl⟩
  obtain ⟨ba, hb⟩ : ∃ b, w.heap.size = b := ⟨_, rfl⟩
  rw [hy, hb]
  have hg : Gr w y1 := hy ▸ (Gr.refl _).alloc _
  replace H := H.alloc hy hb
  clear hy hb hg
  (refine Kr.outS hK (a' := ?_) ?_ ?_; rotate_left; (focus ((try simp only [Kr.PT]); first | done | rfl))); clear hK K
  (refine Kr.seqQ (v := ?_) (a' := ?_) (by rfl) ?_ ?_ ?_; rotate_left 2; (focus (go_simp; first | done | rfl)); (focus ((try simp only [Kr.PT]); first | done | rfl)))
  (refine Kr.seqQ (v := ?_) (a' := ?_) (by rfl) ?_ ?_ ?_; rotate_left 2; (focus (go_simp; first | done | rfl)); (focus ((try simp only [Kr.PT]); first | done | rfl)))
  refine Kr.seqDoneW ?_
  have HC : decide (m < 0) = true := decide_eq_true hm
  go_upto_region 1 with fail
  refine Kr.seqStartW ?_
  (refine Kr.seqQ (v := ?_) (a' := ?_) (by rfl) ?_ ?_ ?_; rotate_left 2; (focus (go_simp; first | done | rfl)); (focus ((try simp only [Kr.PT]); first | done | rfl)))
  (refine Kr.seqQ (v := .bool true) (a' := ?_) (by rfl) ?_ ?_ ?_; rotate_left 1; (focus (exact Kr.valOf rfl (lssT HC))); (focus ((try simp only [Kr.PT]); first | done | rfl)))
  (refine Kr.seqQ (v := ?_) (a' := ?_) (by rfl) ?_ ?_ ?_; rotate_left 2; (focus (go_simp; first | done | rfl)); (focus ((try simp only [Kr.PT]); first | done | rfl)))
  (refine Kr.seqSkipQ (a' := ?_) (by rfl) ?_ ?_; rotate_left; (focus ((try simp only [Kr.PT]); first | done | rfl)))
  (refine Kr.seqSkipQ (a' := ?_) (by rfl) ?_ ?_; rotate_left; (focus ((try simp only [Kr.PT]); first | done | rfl)))
  (refine Kr.seqQ (v := ?_) (a' := ?_) (by rfl) ?_ ?_ ?_; rotate_left 2; (focus (go_simp; first | done | rfl)); (focus ((try simp only [Kr.PT]); first | done | rfl)))
  refine Kr.seqDoneW ?_
  go_upto_region 2 with fail
  refine Kr.seqStartW ?_
  (refine Kr.seqQ (v := ?_) (a' := ?_) (by rfl) ?_ ?_ ?_; rotate_left 2; (focus (go_simp; first | done | rfl)); (focus ((try simp only [Kr.PT]); first | done | rfl)))
  (refine Kr.seqQ (v := ?_) (a' := ?_) (by rfl) ?_ ?_ ?_; rotate_left 2; (focus (go_simp; first | done | rfl)); (focus ((try simp only [Kr.PT]); first | done | rfl)))
  refine Kr.seqDoneW ?_
  have hk := trivial
  go_wp2
  refine bodyPost_ret (v := .tuple #[.slice none 0 0, .int .i64 2]) (by simp [results, Tryd.results18, go_sem, hk]) rfl ⟨rfl, H.g⟩
set_option linter.unusedSimpArgs false in
set_option maxRecDepth 100000 in
set_option maxHeartbeats 16000000 in
theorem Expand_big {S : List (BitVec 8)} {m : Int} {w : World} (hl : S.length = 32) (hm : 16384 < m) :
    Calls Tryd.prog 18 #[.agg (S.map w8).toArray, .int .i64 m] w fun e w' => e = .returned (.tuple #[.slice none 0 0, .int .i64 2]) ∧ Gr w w' := by
  have hl32 : (S.map w8).length = 32 := by rw [List.length_map]; exact hl
  have H := Ow.start w
  go_enter Tryd.func18, Tryd.ntmps18
  go_upto_region 0 with fail
  refine Kr.seqStartW ?_
  refine Kr.seqR (by rfl) (fun K hK => ?_)
  refine wp_runV rfl boxH ?_
  obtain ⟨y1, hy⟩ : ∃ y, w.alloc (.cells (S.map w8).toArray 25) = y := ⟨_, rfl⟩
  obtain ⟨ba, hb⟩ : ∃ b, w.heap.size = b := ⟨_, rfl⟩
  rw [hy, hb]
  have hg : Gr w y1 := hy ▸ (Gr.refl _).alloc _
  replace H := H.alloc hy hb
  clear hy hb hg
  (refine Kr.outS hK (a' := ?_) ?_ ?_; rotate_left; (focus ((try simp only [Kr.PT]); first | done | rfl))); clear hK K
  (refine Kr.seqQ (v := ?_) (a' := ?_) (by rfl) ?_ ?_ ?_; rotate_left 2; (focus (go_simp; first | done | rfl)); (focus ((try simp only [Kr.PT]); first | done | rfl)))
  (refine Kr.seqQ (v := ?_) (a' := ?_) (by rfl) ?_ ?_ ?_; rotate_left 2; (focus (go_simp; first | done | rfl)); (focus ((try simp only [Kr.PT]); first | done | rfl)))
  refine Kr.seqDoneW ?_
  have HC : decide (m < 0) = false := decide_eq_false (by omega); have HC2 : decide ((16384 : Int) < m) = true := decide_eq_true hm
  go_upto_region 1 with fail
  refine Kr.seqStartW ?_
  (refine Kr.seqQ (v := ?_) (a' := ?_) (by rfl) ?_ ?_ ?_; rotate_left 2; (focus (go_simp; first | done | rfl)); (focus ((try simp only [Kr.PT]); first | done | rfl)))
  (refine Kr.seqQ (v := .bool false) (a' := ?_) (by rfl) ?_ ?_ ?_; rotate_left 1; (focus (exact Kr.valOf rfl (lssT HC))); (focus ((try simp only [Kr.PT]); first | done | rfl)))
  (refine Kr.seqQ (v := ?_) (a' := ?_) (by rfl) ?_ ?_ ?_; rotate_left 2; (focus (go_simp; first | done | rfl)); (focus ((try simp only [Kr.PT]); first | done | rfl)))
  (refine Kr.seqQ (v := ?_) (a' := ?_) (by rfl) ?_ ?_ ?_; rotate_left 2; (focus (go_simp; first | done | rfl)); (focus ((try simp only [Kr.PT]); first | done | rfl)))
  (refine Kr.seqQ (v := .bool true) (a' := ?_) (by rfl) ?_ ?_ ?_; rotate_left 1; (focus (exact Kr.valOf rfl (gtrI HC2))); (focus ((try simp only [Kr.PT]); first | done | rfl)))
  (refine Kr.seqQ (v := ?_) (a' := ?_) (by rfl) ?_ ?_ ?_; rotate_left 2; (focus (go_simp; first | done | rfl)); (focus ((try simp only [Kr.PT]); first | done | rfl)))
  refine Kr.seqDoneW ?_
  go_upto_region 2 with fail
  refine Kr.seqStartW ?_
  (refine Kr.seqQ (v := ?_) (a' := ?_) (by rfl) ?_ ?_ ?_; rotate_left 2; (focus (go_simp; first | done | rfl)); (focus ((try simp only [Kr.PT]); first | done | rfl)))
  (refine Kr.seqQ (v := ?_) (a' := ?_) (by rfl) ?_ ?_ ?_; rotate_left 2; (focus (go_simp; first | done | rfl)); (focus ((try simp only [Kr.PT]); first | done | rfl)))
  refine Kr.seqDoneW ?_
  have hk := trivial
  go_wp2
  refine bodyPost_ret (v := .tuple #[.slice none 0 0, .int .i64 2]) (by simp [results, Tryd.results18, go_sem, hk]) rfl ⟨rfl, H.g⟩
set_option linter.unusedSimpArgs false in
set_option maxRecDepth 100000 in
set_option maxHeartbeats 16000000 in
theorem Expand_ok {S : List (BitVec 8)} {n : Nat} {w : World} (hl : S.length = 32) (hn : n ≤ 16384) (hC : Con w) (hT : Sta0 w) :
    Calls Tryd.prog 18 #[.agg (S.map w8).toArray, .int .i64 (n : Int)] w fun e w' => ∃ p, e = .returned (.tuple #[.slice p n n, .int .i64 0]) ∧ Shp p n ∧ SrcB p (ex S n) w' ∧ Gr w w' := by
  have h0 : (zH.map w8).length = 32 := rfl
  have hl32 : (S.map w8).length = 32 := by rw [List.length_map]; exact hl
  have HCN := Lib.hid hC; have HT0 := Lib.hid hT; clear hC hT
  have H := Ow.start w
  go_enter Tryd.func18, Tryd.ntmps18
  go_upto_region 0 with fail
  refine Kr.seqStartW ?_
  refine Kr.seqR (by rfl) (fun K hK => ?_)
  refine wp_runV rfl boxH ?_
  obtain ⟨y1, hy⟩ : ∃ y, w.alloc (.cells (S.map w8).toArray 25) = y := ⟨_, rfl⟩
  obtain ⟨ba, hb⟩ : ∃ b, w.heap.size = b := ⟨_, rfl⟩
  rw [hy, hb]
  have hg : Gr w y1 := hy ▸ (Gr.refl _).alloc _
  replace H := H.alloc hy hb
  clear hy hb hg
  (refine Kr.outS hK (a' := ?_) ?_ ?_; rotate_left; (focus ((try simp only [Kr.PT]); first | done | rfl))); clear hK K
  (refine Kr.seqQ (v := ?_) (a' := ?_) (by rfl) ?_ ?_ ?_; rotate_left 2; (focus (go_simp; first | done | rfl)); (focus ((try simp only [Kr.PT]); first | done | rfl)))
  (refine Kr.seqQ (v := ?_) (a' := ?_) (by rfl) ?_ ?_ ?_; rotate_left 2; (focus (go_simp; first | done | rfl)); (focus ((try simp only [Kr.PT]); first | done | rfl)))
  refine Kr.seqDoneW ?_
  have HC : decide ((n : Int) < 0) = false := decide_eq_false (by omega); have HC2 : decide ((16384 : Int) < (n : Int)) = false := decide_eq_false (by omega)
  go_upto_region 1 with fail
  refine Kr.seqStartW ?_
  (refine Kr.seqQ (v := ?_) (a' := ?_) (by rfl) ?_ ?_ ?_; rotate_left 2; (focus (go_simp; first | done | rfl)); (focus ((try simp only [Kr.PT]); first | done | rfl)))
  (refine Kr.seqQ (v := .bool false) (a' := ?_) (by rfl) ?_ ?_ ?_; rotate_left 1; (focus (exact Kr.valOf rfl (lssT HC))); (focus ((try simp only [Kr.PT]); first | done | rfl)))
  (refine Kr.seqQ (v := ?_) (a' := ?_) (by rfl) ?_ ?_ ?_; rotate_left 2; (focus (go_simp; first | done | rfl)); (focus ((try simp only [Kr.PT]); first | done | rfl)))
  (refine Kr.seqQ (v := ?_) (a' := ?_) (by rfl) ?_ ?_ ?_; rotate_left 2; (focus (go_simp; first | done | rfl)); (focus ((try simp only [Kr.PT]); first | done | rfl)))
  (refine Kr.seqQ (v := .bool false) (a' := ?_) (by rfl) ?_ ?_ ?_; rotate_left 1; (focus (exact Kr.valOf rfl (gtrI HC2))); (focus ((try simp only [Kr.PT]); first | done | rfl)))
  (refine Kr.seqQ (v := ?_) (a' := ?_) (by rfl) ?_ ?_ ?_; rotate_left 2; (focus (go_simp; first | done | rfl)); (focus ((try simp only [Kr.PT]); first | done | rfl)))
  refine Kr.seqDoneW ?_
  go_upto_region 3 with fail
  refine Kr.seqStartW ?_
  (refine Kr.seqQ (v := ?_) (a' := ?_) (by rfl) ?_ ?_ ?_; rotate_left 2; (focus (go_simp; first | done | rfl)); (focus ((try simp only [Kr.PT]); first | done | rfl)))
  refine Kr.seqDoneW ?_
  go_upto_region 4 with fail
  refine Kr.seqStartW ?_
  (refine Kr.seqQ (v := ?_) (a' := ?_) (by rfl) ?_ ?_ ?_; rotate_left 2; (focus (go_simp; first | done | rfl)); (focus ((try simp only [Kr.PT]); first | done | rfl)))
  refine Kr.seqDoneW ?_
  clear HC HC2
  have hr0 : Hid (RowG 5 w.heap.size (.slice none 0 0) ((stm S 0).map w8) y1) := Lib.hid (RowG.nil _ _ _)
  have H2 := Lib.hid H; clear H
  go_wp2_with fail
  go_loopw [6, 7] (fun v iv wr => ∃ (i : Nat), 32 * i ≤ n + 31 ∧ iv = .int .i64 (i : Int) ∧ Hid (RowG 5 w.heap.size v ((stm S i).map w8) wr) ∧ Hid (Apt v [(ba, 25, S.map w8)]) ∧ Hid (Ow w wr [(ba, 25, S.map w8)])) (fun _ iv _ => (n + 100 - 32 * (intOf iv).toNat))
  case atStart => exact ⟨0, by omega, rfl, hr0, Lib.hid (Apt.nil _), H2⟩
  case round =>
    clear H2 hr0; obtain ⟨i, hi, rfl, HR, HA, HH⟩ := hrel; have H := HH.out; replace HA := HA.out; clear HH
    have hln : ((stm S i).map w8).length = 32 * i := by rw [List.length_map]; exact stm_length S i
    obtain ⟨p, c, hpv, hc, hpn, hsrc⟩ := HR.out.src
    rw [hln] at hpv hc; subst hpv
    clear hc hpn hsrc
    by_cases hin : 32 * i < n
    · have HC : decide (((32 * i : Nat) : Int) < (n : Int)) = true := decide_eq_true (by omega)
      obtain ⟨X, hX⟩ : ∃ X, sha (S ++ be8 i) = X := ⟨_, rfl⟩; have hXl : X.length = 32 := by rw [← hX]; exact sha_length _
      have hX32 : (X.map w8).length = 32 := by rw [List.length_map]; exact hXl
      have hst : (stm S (i + 1)).map w8 = (stm S i).map w8 ++ X.map w8 := by rw [stm, hX, List.map_append]
      have HXX := Lib.hid hX; clear hX
      go_upto_region 5 with fail
      refine Kr.seqStartW ?_
      (refine Kr.seqQ (v := ?_) (a' := ?_) (by rfl) ?_ ?_ ?_; rotate_left 2; (focus (go_simp; first | done | rfl)); (focus ((try simp only [Kr.PT]); first | done | rfl)))
      (refine Kr.seqQ (v := .int .i64 ((32 * i : Nat) : Int)) (a' := ?_) (by rfl) ?_ ?_ ?_; rotate_left 1; (focus (exact Kr.valOf rfl ((by go_simp)))); (focus ((try simp only [Kr.PT]); first | done | rfl)))
      (refine Kr.seqQ (v := ?_) (a' := ?_) (by rfl) ?_ ?_ ?_; rotate_left 2; (focus (go_simp; first | done | rfl)); (focus ((try simp only [Kr.PT]); first | done | rfl)))
      (refine Kr.seqQ (v := .bool true) (a' := ?_) (by rfl) ?_ ?_ ?_; rotate_left 1; (focus (exact Kr.valOf rfl (lssT HC))); (focus ((try simp only [Kr.PT]); first | done | rfl)))
      refine Kr.seqDoneW ?_
      go_upto_region 7 with fail
      refine Kr.startL (fun W' => True) [7] (by kernel_rfl) ?_
      have gd : Gr wr wr.drew := (Gr.refl _).drew
      generalize wr.drew = d2 at gd ⊢
      replace H := H.grow gd
      replace HR := Lib.hid (HR.out.grow gd)
      clear gd
      (refine Kr.tPQ 0 (v := .slice (some ⟨ba, 0, none⟩) 32 32) (a' := ?_) rfl (by kernel_rfl) (fun _ _ _ h => h) (by rfl) (fun _ => trivial) (fun wx => ?_) ?_ ?_; rotate_left 1; (focus (exact Kr.valOf rfl (slH))); (focus ((try simp only [Kr.PT]); first | done | rfl)))
      (refine Kr.tPQ 1 (v := ?_) (a' := ?_) rfl (by kernel_rfl) (fun _ _ _ h => h) (by rfl) (fun _ => trivial) (fun wx => ?_) ?_ ?_; rotate_left 2; (focus (go_simp; first | done | rfl)); (focus ((try simp only [Kr.PT]); first | done | rfl)))
      refine Kr.readyL (rs := [2, 6]) (by kernel_rfl) (by simp) ?_
      refine Kr.AllL.cons rfl (fun K hK => ?_) ?_
      · go_simp
        go_at_call 40
        refine (eight_v (n := i) (w := d2)).mono ?_
        rintro e y3 ⟨b8, rfl, hb8, hg⟩
        have H8 := Lib.hid hb8; clear hb8
        replace H := H.grow hg
        replace HR := Lib.hid (HR.out.grow hg)
        clear hg
        (refine Kr.outL hK (a' := ?_) ?_ (fun _ => trivial) ?_; rotate_left; (focus ((try simp only [Kr.PT]); first | done | rfl))); clear hK K
        refine Kr.readyL (rs := [3, 6]) (by kernel_rfl) (by simp) ?_
        refine Kr.AllL.cons rfl (fun K hK => ?_) ?_
        · go_simp
          obtain ⟨y4, hy⟩ : ∃ y, y3.alloc (.cells #[.slice (some ⟨ba, 0, none⟩) 32 32, .slice (some ⟨b8, 0, none⟩) 8 8] 22) = y := ⟨_, rfl⟩
          obtain ⟨bone, hbn⟩ : ∃ b, y3.heap.size = b := ⟨_, rfl⟩
          rw [hy, hbn]
          have hy2 : y3.alloc (.cells ([.slice (some ⟨ba, 0, none⟩) 32 32, .slice (some ⟨b8, 0, none⟩) 8 8] : List Value).toArray 22) = y4 := hy
          have hg : Gr y3 y4 := hy ▸ (Gr.refl _).alloc _
          have HLIT := Lib.hid (hbn ▸ hy2 ▸ lit_src (W := y3) (T := 22) [.slice (some ⟨ba, 0, none⟩) 32 32, .slice (some ⟨b8, 0, none⟩) 8 8]); clear hy2
          replace H := H.grow hg
          replace HR := Lib.hid (HR.out.grow hg)
          replace H8 := Lib.hid (H8.out.grow hg)
          clear hg hy hbn
          (refine Kr.outL hK (a' := ?_) ?_ (fun _ => trivial) ?_; rotate_left; (focus ((try simp only [Kr.PT]); first | done | rfl))); clear hK K
          refine Kr.readyL (rs := [4, 6]) (by kernel_rfl) (by simp) ?_
          refine Kr.AllL.cons rfl (fun K hK => ?_) ?_
          · go_simp
            go_at_call 17
            have hps : ∀ x ∈ [((.slice (some ⟨ba, 0, none⟩) 32 32 : Value), S), ((.slice (some ⟨b8, 0, none⟩) 8 8 : Value), be8 i)], Part y4 x := by
              intro x hx
              simp only [List.mem_cons, List.not_mem_nil, or_false] at hx
              rcases hx with rfl | rfl
              · exact ⟨_, _, _, rfl, hl, (fun e => by cases e), .inr ⟨ba, 0, rfl, bytesAt_row (H.at 0 rfl)⟩⟩
              · exact ⟨_, _, _, rfl, be8_length i, (fun e => by cases e), .inr ⟨b8, 0, rfl, H8.out⟩⟩
            have hfl : flat [((.slice (some ⟨ba, 0, none⟩) 32 32 : Value), S), ((.slice (some ⟨b8, 0, none⟩) 8 8 : Value), be8 i)] = S ++ be8 i := by simp [flat]
            have hfn : (S ++ be8 i).length = 40 := by rw [List.length_append, hl, be8_length]
            have hP := Concat_v (c := 2) HLIT.out hps (by show 2 ≤ 1000000; decide) (by rw [hfl, hfn]; omega); rw [hfl, hfn] at hP
            refine hP.mono ?_; clear hP hps hfl HLIT
            rintro e y5 ⟨p5, c5, rfl, hc5, hp5, hs5, hg⟩
            have HS5 := Lib.hid hs5; have HS5c := Lib.hid hc5; have HS5n := Lib.hid hfn; clear hs5 hc5 hp5 hfn
            replace H := H.grow hg
            replace HR := Lib.hid (HR.out.grow hg)
            replace H8 := Lib.hid (H8.out.grow hg)
            clear hg
            clear H8
            (refine Kr.outL hK (a' := ?_) ?_ (fun _ => trivial) ?_; rotate_left; (focus ((try simp only [Kr.PT]); first | done | rfl))); clear hK K
            refine Kr.readyL (rs := [5, 6]) (by kernel_rfl) (by simp) ?_
            refine Kr.AllL.cons rfl (fun K hK => ?_) ?_
            · go_simp
              go_at_call 12
              have hP := Sum_v (HS5.out) (HS5n.out) (HS5c.out) (by omega) (HCN.out.grow H.g) (HT0.out.grow H.g); rw [HXX.out] at hP; clear HS5 HS5c HS5n
              refine (hP).mono ?_
              rintro e y6 ⟨rfl, hg⟩
              replace H := H.grow hg
              replace HR := Lib.hid (HR.out.grow hg)
              clear hg
              clear hP
              (refine Kr.outL hK (a' := ?_) ?_ (fun _ => trivial) ?_; rotate_left; (focus ((try simp only [Kr.PT]); first | done | rfl))); clear hK K
              refine Kr.readyL (rs := [6]) (by kernel_rfl) (by simp) ?_
              refine Kr.AllL.cons rfl (fun K hK => ?_) Kr.AllL.nil
              rw [if_pos (by rfl)]
              refine wp_runV rfl newHz ?_
              obtain ⟨y7, hy⟩ : ∃ y, y6.alloc (.cells (zH.map w8).toArray 25) = y := ⟨_, rfl⟩
              obtain ⟨bh, hb⟩ : ∃ b, y6.heap.size = b := ⟨_, rfl⟩
              rw [hy, hb]
              replace HA := apt_new (T2 := 25) (l := zH.map w8) HR.out HA hb
              have hg : Gr y6 y7 := hy ▸ (Gr.refl _).alloc _
              replace H := H.alloc hy hb
              replace HR := Lib.hid (HR.out.grow hg)
              clear hy hb hg
              (refine Kr.outL hK (a' := ?_) ?_ (fun _ => trivial) ?_; rotate_left; (focus ((try simp only [Kr.PT]); first | done | rfl))); clear hK K
              refine Kr.readyL (rs := [7]) (by kernel_rfl) (by simp) ?_
              refine Kr.AllL.cons rfl (fun K hK => ?_) Kr.AllL.nil
              rw [if_pos (by rfl)]
              refine wp_run rfl (stH (H.at 0 rfl) h0 hX32 (oneCell_bytes _)) ?_
              have hRp := rowG_putA (cs := (X.map w8).toArray) HR.out HA 0 rfl; replace HA := apt_set (l2 := X.map w8) HA 0 rfl; dsimp only [List.set] at HA
              obtain ⟨y8, hy⟩ : ∃ y, y7.setRow bh (X.map w8).toArray = y := ⟨_, rfl⟩; rw [hy]; rw [hy] at hRp; replace HR := Lib.hid hRp; clear hRp
              replace H := H.put 0 hy rfl; dsimp only [List.set] at H; clear hy
              (refine Kr.outL hK (a' := ?_) ?_ (Kr.noStill (by kernel_rfl)) ?_; rotate_left; (focus ((try simp only [Kr.PT]); first | done | rfl))); clear hK K
              refine Kr.doneL (by kernel_rfl) ?_ _
              go_upto_region 8 with fail
              refine Kr.seqStartW ?_
              (refine Kr.seqQ (v := ?_) (a' := ?_) (by rfl) ?_ ?_ ?_; rotate_left 2; (focus (go_simp; first | done | rfl)); (focus ((try simp only [Kr.PT]); first | done | rfl)))
              (refine Kr.seqQ (v := .slice (some ⟨bh, 0, none⟩) 32 32) (a' := ?_) (by rfl) ?_ ?_ ?_; rotate_left 1; (focus (exact Kr.valOf rfl (slH))); (focus ((try simp only [Kr.PT]); first | done | rfl)))
              refine Kr.seqR (by rfl) (fun K hK => ?_)
              refine wp_appG (T := 5) (TS := 22) Tryd.underlying22 info8 rfl (.tmp 27) (.tmp 28) rfl (v := .slice p (32 * i) c) (r := ((stm S i).map w8)) (d := (X.map w8)) (p := (some ⟨bh, 0, none⟩)) (m := 32) (c := 32) (rs := [(bh, 25, X.map w8), (ba, 25, S.map w8)]) rfl rfl (by rw [List.length_map]; exact hXl) (srcG_row (H.at 0 rfl)) (one_lit8 X) (fun e => by cases e) H HR.out HA (by rw [hln]; omega) (by decide) ?_
              intro v1 y9 H3 hR3 hA3
              clear H HR HA ; have H := H3; have HR := Lib.hid hR3; have HA := hA3; clear H3 hR3 hA3
              (refine Kr.outS hK (a' := ?_) ?_ ?_; rotate_left; (focus ((try simp only [Kr.PT]); first | done | rfl))); clear hK K
              (refine Kr.seqQ (v := ?_) (a' := ?_) (by rfl) ?_ ?_ ?_; rotate_left 2; (focus (go_simp; first | done | rfl)); (focus ((try simp only [Kr.PT]); first | done | rfl)))
              refine Kr.seqDoneW ?_
              rw [← hst] at HR; replace H := H.drop 1; dsimp only [List.drop] at H; replace HA := apt_tail HA
              have HADD : IntKind.i64.wrap ((i : Int) + 1) = ((i + 1 : Nat) : Int) := wrap_nat (by omega) (by omega)
              go_upto_region 6 with fail
              refine Kr.seqStartW ?_
              (refine Kr.seqQ (v := ?_) (a' := ?_) (by rfl) ?_ ?_ ?_; rotate_left 2; (focus (go_simp; first | done | rfl)); (focus ((try simp only [Kr.PT]); first | done | rfl)))
              (refine Kr.seqQ (v := .int .i64 ((i + 1 : Nat) : Int)) (a' := ?_) (by rfl) ?_ ?_ ?_; rotate_left 1; (focus (exact Kr.valOf rfl (addI HADD))); (focus ((try simp only [Kr.PT]); first | done | rfl)))
              (refine Kr.seqQ (v := ?_) (a' := ?_) (by rfl) ?_ ?_ ?_; rotate_left 2; (focus (go_simp; first | done | rfl)); (focus ((try simp only [Kr.PT]); first | done | rfl)))
              refine Kr.seqDoneW ?_
              go_wp2; go_roundw
              case rel => exact ⟨i + 1, by omega, rfl, HR, Lib.hid HA, Lib.hid H⟩
              case measure => simp [intOf]; omega
            refine Kr.AllL.cons rfl (fun K hK => ?_) Kr.AllL.nil
            rw [if_pos (by rfl)]
            refine wp_runV rfl newHz ?_
            obtain ⟨y10, hy⟩ : ∃ y, y5.alloc (.cells (zH.map w8).toArray 25) = y := ⟨_, rfl⟩
            obtain ⟨bh, hb⟩ : ∃ b, y5.heap.size = b := ⟨_, rfl⟩
            rw [hy, hb]
            replace HA := apt_new (T2 := 25) (l := zH.map w8) HR.out HA hb
            have hg : Gr y5 y10 := hy ▸ (Gr.refl _).alloc _
            replace H := H.alloc hy hb
            replace HR := Lib.hid (HR.out.grow hg)
            replace HS5 := Lib.hid (HS5.out.grow hg)
            clear hy hb hg
            (refine Kr.outL hK (a' := ?_) ?_ (fun _ => trivial) ?_; rotate_left; (focus ((try simp only [Kr.PT]); first | done | rfl))); clear hK K
            refine Kr.readyL (rs := [5]) (by kernel_rfl) (by simp) ?_
            refine Kr.AllL.cons rfl (fun K hK => ?_) Kr.AllL.nil
            go_simp
            go_at_call 12
            have hP := Sum_v (HS5.out) (HS5n.out) (HS5c.out) (by omega) (HCN.out.grow H.g) (HT0.out.grow H.g); rw [HXX.out] at hP; clear HS5 HS5c HS5n
            refine (hP).mono ?_
            rintro e y11 ⟨rfl, hg⟩
            replace H := H.grow hg
            replace HR := Lib.hid (HR.out.grow hg)
            clear hg
            clear hP
            (refine Kr.outL hK (a' := ?_) ?_ (fun _ => trivial) ?_; rotate_left; (focus ((try simp only [Kr.PT]); first | done | rfl))); clear hK K
            refine Kr.readyL (rs := [7]) (by kernel_rfl) (by simp) ?_
            refine Kr.AllL.cons rfl (fun K hK => ?_) Kr.AllL.nil
            rw [if_pos (by rfl)]
            refine wp_run rfl (stH (H.at 0 rfl) h0 hX32 (oneCell_bytes _)) ?_
            have hRp := rowG_putA (cs := (X.map w8).toArray) HR.out HA 0 rfl; replace HA := apt_set (l2 := X.map w8) HA 0 rfl; dsimp only [List.set] at HA
            obtain ⟨y12, hy⟩ : ∃ y, y11.setRow bh (X.map w8).toArray = y := ⟨_, rfl⟩; rw [hy]; rw [hy] at hRp; replace HR := Lib.hid hRp; clear hRp
            replace H := H.put 0 hy rfl; dsimp only [List.set] at H; clear hy
            (refine Kr.outL hK (a' := ?_) ?_ (Kr.noStill (by kernel_rfl)) ?_; rotate_left; (focus ((try simp only [Kr.PT]); first | done | rfl))); clear hK K
            refine Kr.doneL (by kernel_rfl) ?_ _
            go_upto_region 8 with fail
            refine Kr.seqStartW ?_
            (refine Kr.seqQ (v := ?_) (a' := ?_) (by rfl) ?_ ?_ ?_; rotate_left 2; (focus (go_simp; first | done | rfl)); (focus ((try simp only [Kr.PT]); first | done | rfl)))
            (refine Kr.seqQ (v := .slice (some ⟨bh, 0, none⟩) 32 32) (a' := ?_) (by rfl) ?_ ?_ ?_; rotate_left 1; (focus (exact Kr.valOf rfl (slH))); (focus ((try simp only [Kr.PT]); first | done | rfl)))
            refine Kr.seqR (by rfl) (fun K hK => ?_)
            refine wp_appG (T := 5) (TS := 22) Tryd.underlying22 info8 rfl (.tmp 27) (.tmp 28) rfl (v := .slice p (32 * i) c) (r := ((stm S i).map w8)) (d := (X.map w8)) (p := (some ⟨bh, 0, none⟩)) (m := 32) (c := 32) (rs := [(bh, 25, X.map w8), (ba, 25, S.map w8)]) rfl rfl (by rw [List.length_map]; exact hXl) (srcG_row (H.at 0 rfl)) (one_lit8 X) (fun e => by cases e) H HR.out HA (by rw [hln]; omega) (by decide) ?_
            intro v1 y13 H3 hR3 hA3
            clear H HR HA ; have H := H3; have HR := Lib.hid hR3; have HA := hA3; clear H3 hR3 hA3
            (refine Kr.outS hK (a' := ?_) ?_ ?_; rotate_left; (focus ((try simp only [Kr.PT]); first | done | rfl))); clear hK K
            (refine Kr.seqQ (v := ?_) (a' := ?_) (by rfl) ?_ ?_ ?_; rotate_left 2; (focus (go_simp; first | done | rfl)); (focus ((try simp only [Kr.PT]); first | done | rfl)))
            refine Kr.seqDoneW ?_
            rw [← hst] at HR; replace H := H.drop 1; dsimp only [List.drop] at H; replace HA := apt_tail HA
            have HADD : IntKind.i64.wrap ((i : Int) + 1) = ((i + 1 : Nat) : Int) := wrap_nat (by omega) (by omega)
            go_upto_region 6 with fail
            refine Kr.seqStartW ?_
            (refine Kr.seqQ (v := ?_) (a' := ?_) (by rfl) ?_ ?_ ?_; rotate_left 2; (focus (go_simp; first | done | rfl)); (focus ((try simp only [Kr.PT]); first | done | rfl)))
            (refine Kr.seqQ (v := .int .i64 ((i + 1 : Nat) : Int)) (a' := ?_) (by rfl) ?_ ?_ ?_; rotate_left 1; (focus (exact Kr.valOf rfl (addI HADD))); (focus ((try simp only [Kr.PT]); first | done | rfl)))
            (refine Kr.seqQ (v := ?_) (a' := ?_) (by rfl) ?_ ?_ ?_; rotate_left 2; (focus (go_simp; first | done | rfl)); (focus ((try simp only [Kr.PT]); first | done | rfl)))
            refine Kr.seqDoneW ?_
            go_wp2; go_roundw
            case rel => exact ⟨i + 1, by omega, rfl, HR, Lib.hid HA, Lib.hid H⟩
            case measure => simp [intOf]; omega
          refine Kr.AllL.cons rfl (fun K hK => ?_) Kr.AllL.nil
          rw [if_pos (by rfl)]
          refine wp_runV rfl newHz ?_
          obtain ⟨y14, hy⟩ : ∃ y, y4.alloc (.cells (zH.map w8).toArray 25) = y := ⟨_, rfl⟩
          obtain ⟨bh, hb⟩ : ∃ b, y4.heap.size = b := ⟨_, rfl⟩
          rw [hy, hb]
          replace HA := apt_new (T2 := 25) (l := zH.map w8) HR.out HA hb
          have hg : Gr y4 y14 := hy ▸ (Gr.refl _).alloc _
          replace H := H.alloc hy hb
          replace HR := Lib.hid (HR.out.grow hg)
          replace H8 := Lib.hid (H8.out.grow hg)
          replace HLIT := Lib.hid (HLIT.out.grow hg)
          clear hy hb hg
          (refine Kr.outL hK (a' := ?_) ?_ (fun _ => trivial) ?_; rotate_left; (focus ((try simp only [Kr.PT]); first | done | rfl))); clear hK K
          refine Kr.readyL (rs := [4]) (by kernel_rfl) (by simp) ?_
          refine Kr.AllL.cons rfl (fun K hK => ?_) Kr.AllL.nil
          go_simp
          go_at_call 17
          have hps : ∀ x ∈ [((.slice (some ⟨ba, 0, none⟩) 32 32 : Value), S), ((.slice (some ⟨b8, 0, none⟩) 8 8 : Value), be8 i)], Part y14 x := by
            intro x hx
            simp only [List.mem_cons, List.not_mem_nil, or_false] at hx
            rcases hx with rfl | rfl
            · exact ⟨_, _, _, rfl, hl, (fun e => by cases e), .inr ⟨ba, 0, rfl, bytesAt_row (H.at 1 rfl)⟩⟩
            · exact ⟨_, _, _, rfl, be8_length i, (fun e => by cases e), .inr ⟨b8, 0, rfl, H8.out⟩⟩
          have hfl : flat [((.slice (some ⟨ba, 0, none⟩) 32 32 : Value), S), ((.slice (some ⟨b8, 0, none⟩) 8 8 : Value), be8 i)] = S ++ be8 i := by simp [flat]
          have hfn : (S ++ be8 i).length = 40 := by rw [List.length_append, hl, be8_length]
          have hP := Concat_v (c := 2) HLIT.out hps (by show 2 ≤ 1000000; decide) (by rw [hfl, hfn]; omega); rw [hfl, hfn] at hP
          refine hP.mono ?_; clear hP hps hfl HLIT
          rintro e y15 ⟨p5, c5, rfl, hc5, hp5, hs5, hg⟩
          have HS5 := Lib.hid hs5; have HS5c := Lib.hid hc5; have HS5n := Lib.hid hfn; clear hs5 hc5 hp5 hfn
          replace H := H.grow hg
          replace HR := Lib.hid (HR.out.grow hg)
          replace H8 := Lib.hid (H8.out.grow hg)
          clear hg
          clear H8
          (refine Kr.outL hK (a' := ?_) ?_ (fun _ => trivial) ?_; rotate_left; (focus ((try simp only [Kr.PT]); first | done | rfl))); clear hK K
          refine Kr.readyL (rs := [5]) (by kernel_rfl) (by simp) ?_
          refine Kr.AllL.cons rfl (fun K hK => ?_) Kr.AllL.nil
          go_simp
          go_at_call 12
          have hP := Sum_v (HS5.out) (HS5n.out) (HS5c.out) (by omega) (HCN.out.grow H.g) (HT0.out.grow H.g); rw [HXX.out] at hP; clear HS5 HS5c HS5n
          refine (hP).mono ?_
          rintro e y16 ⟨rfl, hg⟩
          replace H := H.grow hg
          replace HR := Lib.hid (HR.out.grow hg)
          clear hg
          clear hP
          (refine Kr.outL hK (a' := ?_) ?_ (fun _ => trivial) ?_; rotate_left; (focus ((try simp only [Kr.PT]); first | done | rfl))); clear hK K
          refine Kr.readyL (rs := [7]) (by kernel_rfl) (by simp) ?_
          refine Kr.AllL.cons rfl (fun K hK => ?_) Kr.AllL.nil
          rw [if_pos (by rfl)]
          refine wp_run rfl (stH (H.at 0 rfl) h0 hX32 (oneCell_bytes _)) ?_
          have hRp := rowG_putA (cs := (X.map w8).toArray) HR.out HA 0 rfl; replace HA := apt_set (l2 := X.map w8) HA 0 rfl; dsimp only [List.set] at HA
          obtain ⟨y17, hy⟩ : ∃ y, y16.setRow bh (X.map w8).toArray = y := ⟨_, rfl⟩; rw [hy]; rw [hy] at hRp; replace HR := Lib.hid hRp; clear hRp
          replace H := H.put 0 hy rfl; dsimp only [List.set] at H; clear hy
          (refine Kr.outL hK (a' := ?_) ?_ (Kr.noStill (by kernel_rfl)) ?_; rotate_left; (focus ((try simp only [Kr.PT]); first | done | rfl))); clear hK K
          refine Kr.doneL (by kernel_rfl) ?_ _
          go_upto_region 8 with fail
          refine Kr.seqStartW ?_
          (refine Kr.seqQ (v := ?_) (a' := ?_) (by rfl) ?_ ?_ ?_; rotate_left 2; (focus (go_simp; first | done | rfl)); (focus ((try simp only [Kr.PT]); first | done | rfl)))
          (refine Kr.seqQ (v := .slice (some ⟨bh, 0, none⟩) 32 32) (a' := ?_) (by rfl) ?_ ?_ ?_; rotate_left 1; (focus (exact Kr.valOf rfl (slH))); (focus ((try simp only [Kr.PT]); first | done | rfl)))
          refine Kr.seqR (by rfl) (fun K hK => ?_)
          refine wp_appG (T := 5) (TS := 22) Tryd.underlying22 info8 rfl (.tmp 27) (.tmp 28) rfl (v := .slice p (32 * i) c) (r := ((stm S i).map w8)) (d := (X.map w8)) (p := (some ⟨bh, 0, none⟩)) (m := 32) (c := 32) (rs := [(bh, 25, X.map w8), (ba, 25, S.map w8)]) rfl rfl (by rw [List.length_map]; exact hXl) (srcG_row (H.at 0 rfl)) (one_lit8 X) (fun e => by cases e) H HR.out HA (by rw [hln]; omega) (by decide) ?_
          intro v1 y18 H3 hR3 hA3
          clear H HR HA ; have H := H3; have HR := Lib.hid hR3; have HA := hA3; clear H3 hR3 hA3
          (refine Kr.outS hK (a' := ?_) ?_ ?_; rotate_left; (focus ((try simp only [Kr.PT]); first | done | rfl))); clear hK K
          (refine Kr.seqQ (v := ?_) (a' := ?_) (by rfl) ?_ ?_ ?_; rotate_left 2; (focus (go_simp; first | done | rfl)); (focus ((try simp only [Kr.PT]); first | done | rfl)))
          refine Kr.seqDoneW ?_
          rw [← hst] at HR; replace H := H.drop 1; dsimp only [List.drop] at H; replace HA := apt_tail HA
          have HADD : IntKind.i64.wrap ((i : Int) + 1) = ((i + 1 : Nat) : Int) := wrap_nat (by omega) (by omega)
          go_upto_region 6 with fail
          refine Kr.seqStartW ?_
          (refine Kr.seqQ (v := ?_) (a' := ?_) (by rfl) ?_ ?_ ?_; rotate_left 2; (focus (go_simp; first | done | rfl)); (focus ((try simp only [Kr.PT]); first | done | rfl)))
          (refine Kr.seqQ (v := .int .i64 ((i + 1 : Nat) : Int)) (a' := ?_) (by rfl) ?_ ?_ ?_; rotate_left 1; (focus (exact Kr.valOf rfl (addI HADD))); (focus ((try simp only [Kr.PT]); first | done | rfl)))
          (refine Kr.seqQ (v := ?_) (a' := ?_) (by rfl) ?_ ?_ ?_; rotate_left 2; (focus (go_simp; first | done | rfl)); (focus ((try simp only [Kr.PT]); first | done | rfl)))
          refine Kr.seqDoneW ?_
          go_wp2; go_roundw
          case rel => exact ⟨i + 1, by omega, rfl, HR, Lib.hid HA, Lib.hid H⟩
          case measure => simp [intOf]; omega
        refine Kr.AllL.cons rfl (fun K hK => ?_) Kr.AllL.nil
        rw [if_pos (by rfl)]
        refine wp_runV rfl newHz ?_
        obtain ⟨y19, hy⟩ : ∃ y, y3.alloc (.cells (zH.map w8).toArray 25) = y := ⟨_, rfl⟩
        obtain ⟨bh, hb⟩ : ∃ b, y3.heap.size = b := ⟨_, rfl⟩
        rw [hy, hb]
        replace HA := apt_new (T2 := 25) (l := zH.map w8) HR.out HA hb
        have hg : Gr y3 y19 := hy ▸ (Gr.refl _).alloc _
        replace H := H.alloc hy hb
        replace HR := Lib.hid (HR.out.grow hg)
        replace H8 := Lib.hid (H8.out.grow hg)
        clear hy hb hg
        (refine Kr.outL hK (a' := ?_) ?_ (fun _ => trivial) ?_; rotate_left; (focus ((try simp only [Kr.PT]); first | done | rfl))); clear hK K
        refine Kr.readyL (rs := [3]) (by kernel_rfl) (by simp) ?_
        refine Kr.AllL.cons rfl (fun K hK => ?_) Kr.AllL.nil
        go_simp
        obtain ⟨y20, hy⟩ : ∃ y, y19.alloc (.cells #[.slice (some ⟨ba, 0, none⟩) 32 32, .slice (some ⟨b8, 0, none⟩) 8 8] 22) = y := ⟨_, rfl⟩
        obtain ⟨bone, hbn⟩ : ∃ b, y19.heap.size = b := ⟨_, rfl⟩
        rw [hy, hbn]
        have hy2 : y19.alloc (.cells ([.slice (some ⟨ba, 0, none⟩) 32 32, .slice (some ⟨b8, 0, none⟩) 8 8] : List Value).toArray 22) = y20 := hy
        have hg : Gr y19 y20 := hy ▸ (Gr.refl _).alloc _
        have HLIT := Lib.hid (hbn ▸ hy2 ▸ lit_src (W := y19) (T := 22) [.slice (some ⟨ba, 0, none⟩) 32 32, .slice (some ⟨b8, 0, none⟩) 8 8]); clear hy2
        replace H := H.grow hg
        replace HR := Lib.hid (HR.out.grow hg)
        replace H8 := Lib.hid (H8.out.grow hg)
        clear hg hy hbn
        (refine Kr.outL hK (a' := ?_) ?_ (fun _ => trivial) ?_; rotate_left; (focus ((try simp only [Kr.PT]); first | done | rfl))); clear hK K
        refine Kr.readyL (rs := [4]) (by kernel_rfl) (by simp) ?_
        refine Kr.AllL.cons rfl (fun K hK => ?_) Kr.AllL.nil
        go_simp
        go_at_call 17
        have hps : ∀ x ∈ [((.slice (some ⟨ba, 0, none⟩) 32 32 : Value), S), ((.slice (some ⟨b8, 0, none⟩) 8 8 : Value), be8 i)], Part y20 x := by
          intro x hx
          simp only [List.mem_cons, List.not_mem_nil, or_false] at hx
          rcases hx with rfl | rfl
          · exact ⟨_, _, _, rfl, hl, (fun e => by cases e), .inr ⟨ba, 0, rfl, bytesAt_row (H.at 1 rfl)⟩⟩
          · exact ⟨_, _, _, rfl, be8_length i, (fun e => by cases e), .inr ⟨b8, 0, rfl, H8.out⟩⟩
        have hfl : flat [((.slice (some ⟨ba, 0, none⟩) 32 32 : Value), S), ((.slice (some ⟨b8, 0, none⟩) 8 8 : Value), be8 i)] = S ++ be8 i := by simp [flat]
        have hfn : (S ++ be8 i).length = 40 := by rw [List.length_append, hl, be8_length]
        have hP := Concat_v (c := 2) HLIT.out hps (by show 2 ≤ 1000000; decide) (by rw [hfl, hfn]; omega); rw [hfl, hfn] at hP
        refine hP.mono ?_; clear hP hps hfl HLIT
        rintro e y21 ⟨p5, c5, rfl, hc5, hp5, hs5, hg⟩
        have HS5 := Lib.hid hs5; have HS5c := Lib.hid hc5; have HS5n := Lib.hid hfn; clear hs5 hc5 hp5 hfn
        replace H := H.grow hg
        replace HR := Lib.hid (HR.out.grow hg)
        replace H8 := Lib.hid (H8.out.grow hg)
        clear hg
        clear H8
        (refine Kr.outL hK (a' := ?_) ?_ (fun _ => trivial) ?_; rotate_left; (focus ((try simp only [Kr.PT]); first | done | rfl))); clear hK K
        refine Kr.readyL (rs := [5]) (by kernel_rfl) (by simp) ?_
        refine Kr.AllL.cons rfl (fun K hK => ?_) Kr.AllL.nil
        go_simp
        go_at_call 12
        have hP := Sum_v (HS5.out) (HS5n.out) (HS5c.out) (by omega) (HCN.out.grow H.g) (HT0.out.grow H.g); rw [HXX.out] at hP; clear HS5 HS5c HS5n
        refine (hP).mono ?_
        rintro e y22 ⟨rfl, hg⟩
        replace H := H.grow hg
        replace HR := Lib.hid (HR.out.grow hg)
        clear hg
        clear hP
        (refine Kr.outL hK (a' := ?_) ?_ (fun _ => trivial) ?_; rotate_left; (focus ((try simp only [Kr.PT]); first | done | rfl))); clear hK K
        refine Kr.readyL (rs := [7]) (by kernel_rfl) (by simp) ?_
        refine Kr.AllL.cons rfl (fun K hK => ?_) Kr.AllL.nil
        rw [if_pos (by rfl)]
        refine wp_run rfl (stH (H.at 0 rfl) h0 hX32 (oneCell_bytes _)) ?_
        have hRp := rowG_putA (cs := (X.map w8).toArray) HR.out HA 0 rfl; replace HA := apt_set (l2 := X.map w8) HA 0 rfl; dsimp only [List.set] at HA
        obtain ⟨y23, hy⟩ : ∃ y, y22.setRow bh (X.map w8).toArray = y := ⟨_, rfl⟩; rw [hy]; rw [hy] at hRp; replace HR := Lib.hid hRp; clear hRp
        replace H := H.put 0 hy rfl; dsimp only [List.set] at H; clear hy
        (refine Kr.outL hK (a' := ?_) ?_ (Kr.noStill (by kernel_rfl)) ?_; rotate_left; (focus ((try simp only [Kr.PT]); first | done | rfl))); clear hK K
        refine Kr.doneL (by kernel_rfl) ?_ _
        go_upto_region 8 with fail
        refine Kr.seqStartW ?_
        (refine Kr.seqQ (v := ?_) (a' := ?_) (by rfl) ?_ ?_ ?_; rotate_left 2; (focus (go_simp; first | done | rfl)); (focus ((try simp only [Kr.PT]); first | done | rfl)))
        (refine Kr.seqQ (v := .slice (some ⟨bh, 0, none⟩) 32 32) (a' := ?_) (by rfl) ?_ ?_ ?_; rotate_left 1; (focus (exact Kr.valOf rfl (slH))); (focus ((try simp only [Kr.PT]); first | done | rfl)))
        refine Kr.seqR (by rfl) (fun K hK => ?_)
        refine wp_appG (T := 5) (TS := 22) Tryd.underlying22 info8 rfl (.tmp 27) (.tmp 28) rfl (v := .slice p (32 * i) c) (r := ((stm S i).map w8)) (d := (X.map w8)) (p := (some ⟨bh, 0, none⟩)) (m := 32) (c := 32) (rs := [(bh, 25, X.map w8), (ba, 25, S.map w8)]) rfl rfl (by rw [List.length_map]; exact hXl) (srcG_row (H.at 0 rfl)) (one_lit8 X) (fun e => by cases e) H HR.out HA (by rw [hln]; omega) (by decide) ?_
        intro v1 y24 H3 hR3 hA3
        clear H HR HA ; have H := H3; have HR := Lib.hid hR3; have HA := hA3; clear H3 hR3 hA3
        (refine Kr.outS hK (a' := ?_) ?_ ?_; rotate_left; (focus ((try simp only [Kr.PT]); first | done | rfl))); clear hK K
        (refine Kr.seqQ (v := ?_) (a' := ?_) (by rfl) ?_ ?_ ?_; rotate_left 2; (focus (go_simp; first | done | rfl)); (focus ((try simp only [Kr.PT]); first | done | rfl)))
        refine Kr.seqDoneW ?_
        rw [← hst] at HR; replace H := H.drop 1; dsimp only [List.drop] at H; replace HA := apt_tail HA
        have HADD : IntKind.i64.wrap ((i : Int) + 1) = ((i + 1 : Nat) : Int) := wrap_nat (by omega) (by omega)
        go_upto_region 6 with fail
        refine Kr.seqStartW ?_
        (refine Kr.seqQ (v := ?_) (a' := ?_) (by rfl) ?_ ?_ ?_; rotate_left 2; (focus (go_simp; first | done | rfl)); (focus ((try simp only [Kr.PT]); first | done | rfl)))
        (refine Kr.seqQ (v := .int .i64 ((i + 1 : Nat) : Int)) (a' := ?_) (by rfl) ?_ ?_ ?_; rotate_left 1; (focus (exact Kr.valOf rfl (addI HADD))); (focus ((try simp only [Kr.PT]); first | done | rfl)))
        (refine Kr.seqQ (v := ?_) (a' := ?_) (by rfl) ?_ ?_ ?_; rotate_left 2; (focus (go_simp; first | done | rfl)); (focus ((try simp only [Kr.PT]); first | done | rfl)))
        refine Kr.seqDoneW ?_
        go_wp2; go_roundw
        case rel => exact ⟨i + 1, by omega, rfl, HR, Lib.hid HA, Lib.hid H⟩
        case measure => simp [intOf]; omega
      refine Kr.AllL.cons rfl (fun K hK => ?_) Kr.AllL.nil
      rw [if_pos (by rfl)]
      refine wp_runV rfl newHz ?_
      obtain ⟨y25, hy⟩ : ∃ y, d2.alloc (.cells (zH.map w8).toArray 25) = y := ⟨_, rfl⟩
      obtain ⟨bh, hb⟩ : ∃ b, d2.heap.size = b := ⟨_, rfl⟩
      rw [hy, hb]
      replace HA := apt_new (T2 := 25) (l := zH.map w8) HR.out HA hb
      have hg : Gr d2 y25 := hy ▸ (Gr.refl _).alloc _
      replace H := H.alloc hy hb
      replace HR := Lib.hid (HR.out.grow hg)
      clear hy hb hg
      (refine Kr.outL hK (a' := ?_) ?_ (fun _ => trivial) ?_; rotate_left; (focus ((try simp only [Kr.PT]); first | done | rfl))); clear hK K
      refine Kr.readyL (rs := [2]) (by kernel_rfl) (by simp) ?_
      refine Kr.AllL.cons rfl (fun K hK => ?_) Kr.AllL.nil
      go_simp
      go_at_call 40
      refine (eight_v (n := i) (w := y25)).mono ?_
      rintro e y26 ⟨b8, rfl, hb8, hg⟩
      have H8 := Lib.hid hb8; clear hb8
      replace H := H.grow hg
      replace HR := Lib.hid (HR.out.grow hg)
      clear hg
      (refine Kr.outL hK (a' := ?_) ?_ (fun _ => trivial) ?_; rotate_left; (focus ((try simp only [Kr.PT]); first | done | rfl))); clear hK K
      refine Kr.readyL (rs := [3]) (by kernel_rfl) (by simp) ?_
      refine Kr.AllL.cons rfl (fun K hK => ?_) Kr.AllL.nil
      go_simp
      obtain ⟨y27, hy⟩ : ∃ y, y26.alloc (.cells #[.slice (some ⟨ba, 0, none⟩) 32 32, .slice (some ⟨b8, 0, none⟩) 8 8] 22) = y := ⟨_, rfl⟩
      obtain ⟨bone, hbn⟩ : ∃ b, y26.heap.size = b := ⟨_, rfl⟩
      rw [hy, hbn]
      have hy2 : y26.alloc (.cells ([.slice (some ⟨ba, 0, none⟩) 32 32, .slice (some ⟨b8, 0, none⟩) 8 8] : List Value).toArray 22) = y27 := hy
      have hg : Gr y26 y27 := hy ▸ (Gr.refl _).alloc _
      have HLIT := Lib.hid (hbn ▸ hy2 ▸ lit_src (W := y26) (T := 22) [.slice (some ⟨ba, 0, none⟩) 32 32, .slice (some ⟨b8, 0, none⟩) 8 8]); clear hy2
      replace H := H.grow hg
      replace HR := Lib.hid (HR.out.grow hg)
      replace H8 := Lib.hid (H8.out.grow hg)
      clear hg hy hbn
      (refine Kr.outL hK (a' := ?_) ?_ (fun _ => trivial) ?_; rotate_left; (focus ((try simp only [Kr.PT]); first | done | rfl))); clear hK K
      refine Kr.readyL (rs := [4]) (by kernel_rfl) (by simp) ?_
      refine Kr.AllL.cons rfl (fun K hK => ?_) Kr.AllL.nil
      go_simp
      go_at_call 17
      have hps : ∀ x ∈ [((.slice (some ⟨ba, 0, none⟩) 32 32 : Value), S), ((.slice (some ⟨b8, 0, none⟩) 8 8 : Value), be8 i)], Part y27 x := by
        intro x hx
        simp only [List.mem_cons, List.not_mem_nil, or_false] at hx
        rcases hx with rfl | rfl
        · exact ⟨_, _, _, rfl, hl, (fun e => by cases e), .inr ⟨ba, 0, rfl, bytesAt_row (H.at 1 rfl)⟩⟩
        · exact ⟨_, _, _, rfl, be8_length i, (fun e => by cases e), .inr ⟨b8, 0, rfl, H8.out⟩⟩
      have hfl : flat [((.slice (some ⟨ba, 0, none⟩) 32 32 : Value), S), ((.slice (some ⟨b8, 0, none⟩) 8 8 : Value), be8 i)] = S ++ be8 i := by simp [flat]
      have hfn : (S ++ be8 i).length = 40 := by rw [List.length_append, hl, be8_length]
      have hP := Concat_v (c := 2) HLIT.out hps (by show 2 ≤ 1000000; decide) (by rw [hfl, hfn]; omega); rw [hfl, hfn] at hP
      refine hP.mono ?_; clear hP hps hfl HLIT
      rintro e y28 ⟨p5, c5, rfl, hc5, hp5, hs5, hg⟩
      have HS5 := Lib.hid hs5; have HS5c := Lib.hid hc5; have HS5n := Lib.hid hfn; clear hs5 hc5 hp5 hfn
      replace H := H.grow hg
      replace HR := Lib.hid (HR.out.grow hg)
      replace H8 := Lib.hid (H8.out.grow hg)
      clear hg
      clear H8
      (refine Kr.outL hK (a' := ?_) ?_ (fun _ => trivial) ?_; rotate_left; (focus ((try simp only [Kr.PT]); first | done | rfl))); clear hK K
      refine Kr.readyL (rs := [5]) (by kernel_rfl) (by simp) ?_
      refine Kr.AllL.cons rfl (fun K hK => ?_) Kr.AllL.nil
      go_simp
      go_at_call 12
      have hP := Sum_v (HS5.out) (HS5n.out) (HS5c.out) (by omega) (HCN.out.grow H.g) (HT0.out.grow H.g); rw [HXX.out] at hP; clear HS5 HS5c HS5n
      refine (hP).mono ?_
      rintro e y29 ⟨rfl, hg⟩
      replace H := H.grow hg
      replace HR := Lib.hid (HR.out.grow hg)
      clear hg
      clear hP
      (refine Kr.outL hK (a' := ?_) ?_ (fun _ => trivial) ?_; rotate_left; (focus ((try simp only [Kr.PT]); first | done | rfl))); clear hK K
      refine Kr.readyL (rs := [7]) (by kernel_rfl) (by simp) ?_
      refine Kr.AllL.cons rfl (fun K hK => ?_) Kr.AllL.nil
      rw [if_pos (by rfl)]
      refine wp_run rfl (stH (H.at 0 rfl) h0 hX32 (oneCell_bytes _)) ?_
      have hRp := rowG_putA (cs := (X.map w8).toArray) HR.out HA 0 rfl; replace HA := apt_set (l2 := X.map w8) HA 0 rfl; dsimp only [List.set] at HA
      obtain ⟨y30, hy⟩ : ∃ y, y29.setRow bh (X.map w8).toArray = y := ⟨_, rfl⟩; rw [hy]; rw [hy] at hRp; replace HR := Lib.hid hRp; clear hRp
      replace H := H.put 0 hy rfl; dsimp only [List.set] at H; clear hy
      (refine Kr.outL hK (a' := ?_) ?_ (Kr.noStill (by kernel_rfl)) ?_; rotate_left; (focus ((try simp only [Kr.PT]); first | done | rfl))); clear hK K
      refine Kr.doneL (by kernel_rfl) ?_ _
      go_upto_region 8 with fail
      refine Kr.seqStartW ?_
      (refine Kr.seqQ (v := ?_) (a' := ?_) (by rfl) ?_ ?_ ?_; rotate_left 2; (focus (go_simp; first | done | rfl)); (focus ((try simp only [Kr.PT]); first | done | rfl)))
      (refine Kr.seqQ (v := .slice (some ⟨bh, 0, none⟩) 32 32) (a' := ?_) (by rfl) ?_ ?_ ?_; rotate_left 1; (focus (exact Kr.valOf rfl (slH))); (focus ((try simp only [Kr.PT]); first | done | rfl)))
      refine Kr.seqR (by rfl) (fun K hK => ?_)
      refine wp_appG (T := 5) (TS := 22) Tryd.underlying22 info8 rfl (.tmp 27) (.tmp 28) rfl (v := .slice p (32 * i) c) (r := ((stm S i).map w8)) (d := (X.map w8)) (p := (some ⟨bh, 0, none⟩)) (m := 32) (c := 32) (rs := [(bh, 25, X.map w8), (ba, 25, S.map w8)]) rfl rfl (by rw [List.length_map]; exact hXl) (srcG_row (H.at 0 rfl)) (one_lit8 X) (fun e => by cases e) H HR.out HA (by rw [hln]; omega) (by decide) ?_
      intro v1 y31 H3 hR3 hA3
      clear H HR HA ; have H := H3; have HR := Lib.hid hR3; have HA := hA3; clear H3 hR3 hA3
      (refine Kr.outS hK (a' := ?_) ?_ ?_; rotate_left; (focus ((try simp only [Kr.PT]); first | done | rfl))); clear hK K
      (refine Kr.seqQ (v := ?_) (a' := ?_) (by rfl) ?_ ?_ ?_; rotate_left 2; (focus (go_simp; first | done | rfl)); (focus ((try simp only [Kr.PT]); first | done | rfl)))
      refine Kr.seqDoneW ?_
      rw [← hst] at HR; replace H := H.drop 1; dsimp only [List.drop] at H; replace HA := apt_tail HA
      have HADD : IntKind.i64.wrap ((i : Int) + 1) = ((i + 1 : Nat) : Int) := wrap_nat (by omega) (by omega)
      go_upto_region 6 with fail
      refine Kr.seqStartW ?_
      (refine Kr.seqQ (v := ?_) (a' := ?_) (by rfl) ?_ ?_ ?_; rotate_left 2; (focus (go_simp; first | done | rfl)); (focus ((try simp only [Kr.PT]); first | done | rfl)))
      (refine Kr.seqQ (v := .int .i64 ((i + 1 : Nat) : Int)) (a' := ?_) (by rfl) ?_ ?_ ?_; rotate_left 1; (focus (exact Kr.valOf rfl (addI HADD))); (focus ((try simp only [Kr.PT]); first | done | rfl)))
      (refine Kr.seqQ (v := ?_) (a' := ?_) (by rfl) ?_ ?_ ?_; rotate_left 2; (focus (go_simp; first | done | rfl)); (focus ((try simp only [Kr.PT]); first | done | rfl)))
      refine Kr.seqDoneW ?_
      go_wp2; go_roundw
      case rel => exact ⟨i + 1, by omega, rfl, HR, Lib.hid HA, Lib.hid H⟩
      case measure => simp [intOf]; omega
    · have HC : decide (((32 * i : Nat) : Int) < (n : Int)) = false := decide_eq_false (by omega)
      have hex := stm_ex S (i := i) (n := n) (by omega)
      go_upto_region 5 with fail
      refine Kr.seqStartW ?_
      (refine Kr.seqQ (v := ?_) (a' := ?_) (by rfl) ?_ ?_ ?_; rotate_left 2; (focus (go_simp; first | done | rfl)); (focus ((try simp only [Kr.PT]); first | done | rfl)))
      (refine Kr.seqQ (v := .int .i64 ((32 * i : Nat) : Int)) (a' := ?_) (by rfl) ?_ ?_ ?_; rotate_left 1; (focus (exact Kr.valOf rfl ((by go_simp)))); (focus ((try simp only [Kr.PT]); first | done | rfl)))
      (refine Kr.seqQ (v := ?_) (a' := ?_) (by rfl) ?_ ?_ ?_; rotate_left 2; (focus (go_simp; first | done | rfl)); (focus ((try simp only [Kr.PT]); first | done | rfl)))
      (refine Kr.seqQ (v := .bool false) (a' := ?_) (by rfl) ?_ ?_ ?_; rotate_left 1; (focus (exact Kr.valOf rfl (lssT HC))); (focus ((try simp only [Kr.PT]); first | done | rfl)))
      refine Kr.seqDoneW ?_
      obtain ⟨p2, c2, hpv, hc, hpn, hsrc⟩ := HR.out.src
      rw [hln] at hpv hc; cases hpv
      have hsb := srcB_take (srcB_of hsrc) n; rw [hex] at hsb; have HSB := Lib.hid hsb; have HRP := Lib.hid (rowG_ptr HR.out); clear hsb hsrc hex HR HA
      cases p with
      | none =>
        have hc0 : c = 0 := hpn rfl; have hi0 : 32 * i = 0 := (by omega); have hn0 : n = 0 := (by omega); have HC0 := Lib.hid hc0; have HI0 := Lib.hid hi0; have HN0 := Lib.hid hn0; clear hc0 hi0 hn0 hpn
        go_upto_region 9 with fail
        refine Kr.seqStartW ?_
        (refine Kr.seqQ (v := ?_) (a' := ?_) (by rfl) ?_ ?_ ?_; rotate_left 2; (focus (go_simp; first | done | rfl)); (focus ((try simp only [Kr.PT]); first | done | rfl)))
        (refine Kr.seqQ (v := ?_) (a' := ?_) (by rfl) ?_ ?_ ?_; rotate_left 2; (focus (go_simp; first | done | rfl)); (focus ((try simp only [Kr.PT]); first | done | rfl)))
        (refine Kr.seqQ (v := ?_) (a' := ?_) (by rfl) ?_ ?_ ?_; rotate_left 2; (focus (go_simp; first | done | rfl)); (focus ((try simp only [Kr.PT]); first | done | rfl)))
        (refine Kr.seqQ (v := .slice none n n) (a' := ?_) (by rfl) ?_ ?_ ?_; rotate_left 1; (focus (exact Kr.valOf rfl (slTo30 HI0.out HC0.out HN0.out))); (focus ((try simp only [Kr.PT]); first | done | rfl)))
        (refine Kr.seqQ (v := ?_) (a' := ?_) (by rfl) ?_ ?_ ?_; rotate_left 2; (focus (go_simp; first | done | rfl)); (focus ((try simp only [Kr.PT]); first | done | rfl)))
        (refine Kr.seqQ (v := ?_) (a' := ?_) (by rfl) ?_ ?_ ?_; rotate_left 2; (focus (go_simp; first | done | rfl)); (focus ((try simp only [Kr.PT]); first | done | rfl)))
        refine Kr.seqDoneW ?_
        have hk := trivial
        go_wp2
        refine bodyPost_ret (v := .tuple #[.slice none n n, .int .i64 0]) (by simp [results, Tryd.results18, go_sem, hk]) rfl ⟨none, rfl, .inl ⟨rfl, HN0.out⟩, HSB.out, H.g⟩
      | some ad =>
        have hnc : n ≤ c := by omega
        obtain ⟨b9, rfl⟩ := HRP.out ad rfl; clear HRP
        go_upto_region 9 with fail
        refine Kr.seqStartW ?_
        (refine Kr.seqQ (v := ?_) (a' := ?_) (by rfl) ?_ ?_ ?_; rotate_left 2; (focus (go_simp; first | done | rfl)); (focus ((try simp only [Kr.PT]); first | done | rfl)))
        (refine Kr.seqQ (v := ?_) (a' := ?_) (by rfl) ?_ ?_ ?_; rotate_left 2; (focus (go_simp; first | done | rfl)); (focus ((try simp only [Kr.PT]); first | done | rfl)))
        (refine Kr.seqQ (v := ?_) (a' := ?_) (by rfl) ?_ ?_ ?_; rotate_left 2; (focus (go_simp; first | done | rfl)); (focus ((try simp only [Kr.PT]); first | done | rfl)))
        (refine Kr.seqQ (v := .slice (some ⟨b9, 0, none⟩) n n) (a' := ?_) (by rfl) ?_ ?_ ?_; rotate_left 1; (focus (exact Kr.valOf rfl (slTo3 hnc))); (focus ((try simp only [Kr.PT]); first | done | rfl)))
        (refine Kr.seqQ (v := ?_) (a' := ?_) (by rfl) ?_ ?_ ?_; rotate_left 2; (focus (go_simp; first | done | rfl)); (focus ((try simp only [Kr.PT]); first | done | rfl)))
        (refine Kr.seqQ (v := ?_) (a' := ?_) (by rfl) ?_ ?_ ?_; rotate_left 2; (focus (go_simp; first | done | rfl)); (focus ((try simp only [Kr.PT]); first | done | rfl)))
        refine Kr.seqDoneW ?_
        have hk := trivial
        go_wp2
        refine bodyPost_ret (v := .tuple #[.slice (some ⟨b9, 0, none⟩) n n, .int .i64 0]) (by simp [results, Tryd.results18, go_sem, hk]) rfl ⟨_, rfl, .inr ⟨b9, rfl⟩, HSB.out, H.g⟩
end Go.Proofs.YtilbojcghladjaaDoor.Dg
