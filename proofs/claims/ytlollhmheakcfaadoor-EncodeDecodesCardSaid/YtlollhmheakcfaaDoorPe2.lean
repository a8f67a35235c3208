/- A part of the proofs, joined of smaller texts: En, Eq, Eu, Ba, Bb, Bc, Bd. -/
import Derived.Test.YtlollhmheakcfaaDoorPe1
import Derived.Deep.Cut
import Derived.Laws.Rows

/- Expand. -/
namespace Go.Proofs.YtlollhmheakcfaaDoor.Dg
open Go Go.RowKit Go.Proofs.YtlollhmheakcfaaDoor.Ne Go.Proofs.YtlollhmheakcfaaDoor.Kr

theorem eqS {w : World} {a b : ByteArray} {c : Bool} (h : decide (a = b) = c) : (binOp .eql 9 (.string a) (.string b)).run Tryd.prog w = .ok (.bool c) w := by
  rw [← h]; exact run_eqlS _ _ _
theorem strB_dec {l k : List (BitVec 8)} {b : Bool} (h : decide (l = k) = b) : decide (strB l = strB k) = b := by
  rw [← h]
  exact decide_eq_decide.2 ⟨strB_inj, fun e => by rw [e]⟩
theorem apt_new {W : World} {T T2 : TypeId} {rs : List Blk} {v : Value} {xs l : List Value} {b B : Nat} (h : RowG T B v xs W) (HA : Apt v rs) (hb : W.heap.size = b) : Apt v ((b, T2, l) :: rs) := fun k hk x hx e => by
  rcases List.mem_cons.1 hx with rfl | hx
  · have := (h.lt k hk).2
    have e2 : b = k := e
    omega
  · exact HA k hk x hx e
theorem apt_tail {rs : List Blk} {v : Value} {x : Blk} (h : Apt v (x :: rs)) : Apt v rs := fun k hk y hy => h k hk y (List.mem_cons_of_mem _ hy)
theorem apt_set {rs : List Blk} {v : Value} {b : Nat} {T : TypeId} {l l2 : List Value} (h : Apt v rs) (i : Nat) (hi : rs[i]? = some (b, T, l)) : Apt v (rs.set i (b, T, l2)) := fun k hk y hy => by
  rcases List.mem_or_eq_of_mem_set hy with hy | rfl
  · exact h k hk y hy
  · exact h k hk (b, T, l) (List.mem_of_getElem? hi)
theorem rowG_putA {T T2 : TypeId} {rs : List Blk} {v : Value} {xs l : List Value} {b B : Nat} {W : World} {cs : Array Value} (h : RowG T B v xs W) (HA : Apt v rs) (i : Nat) (hi : rs[i]? = some (b, T2, l)) : RowG T B v xs (W.setRow b cs) := by
  obtain ⟨h1, h2 | ⟨g, cap, cur, e1, e2, e3, e4⟩⟩ := h
  · exact ⟨h1, .inl h2⟩
  · refine ⟨h1, .inr ⟨g, cap, cur, e1, e2, ?_, e4⟩⟩
    rw [setRow_other]
    · exact e3
    · intro e
      exact HA g (by rw [e1]; rfl) _ (List.mem_of_getElem? hi) e.symm
theorem rowG_ptr {T : TypeId} {B n c : Nat} {p : Option Addr} {xs : List Value} {W : World} (h : RowG T B (.slice p n c) xs W) : ∀ ad, p = some ad → ∃ g, ad = ⟨g, 0, none⟩ := fun ad e => by
  rcases h.2 with ⟨h1, _⟩ | ⟨g, cap, cur, h1, _⟩
  · cases h1; cases e
  · cases h1; exact ⟨g, (Option.some.inj e).symm⟩
def Shp (p : Option Addr) (n : Nat) : Prop := (p = none ∧ n = 0) ∨ ∃ g, p = some ⟨g, 0, none⟩
/-- The stream of a digest: so many blocks. -/
def stm (S : List (BitVec 8)) : Nat → List (BitVec 8)
  | 0 => []
  | i + 1 => stm S i ++ sha (S ++ be8 i)
theorem stm_length (S : List (BitVec 8)) : ∀ i, (stm S i).length = 32 * i
  | 0 => rfl
  | i + 1 => by rw [stm, List.length_append, stm_length S i, sha_length]; omega
theorem stm_take (S : List (BitVec 8)) {i : Nat} : ∀ {j : Nat}, i ≤ j → (stm S j).take (32 * i) = stm S i
  | 0, h => by
    obtain rfl : i = 0 := by omega
    rfl
  | j + 1, h => by
    rcases Nat.lt_or_ge j i with h1 | h1
    · obtain rfl : i = j + 1 := by omega
      exact List.take_of_length_le (by rw [stm_length]; exact Nat.le_refl _)
    · rw [stm, List.take_append_of_le_length (by rw [stm_length]; omega)]
      exact stm_take S h1
/-- The first n bytes of the stream. -/
def ex (S : List (BitVec 8)) (n : Nat) : List (BitVec 8) := (stm S ((n + 31) / 32)).take n
theorem ex_length (S : List (BitVec 8)) (n : Nat) : (ex S n).length = n := by rw [ex, List.length_take, stm_length]; omega
theorem stm_ex (S : List (BitVec 8)) {i n : Nat} (h : n ≤ 32 * i) : (stm S i).take n = ex S n := by
  have h1 : (n + 31) / 32 ≤ i := by omega
  rw [ex, ← stm_take S h1, List.take_take, Nat.min_eq_left (by omega)]
theorem ex_take (S : List (BitVec 8)) {k n : Nat} (h : k ≤ n) : (ex S n).take k = ex S k := by
  rw [ex, List.take_take, Nat.min_eq_left h, stm_ex S (by omega)]
theorem srcB_take {p : Option Addr} {l : List (BitVec 8)} {W : World} (h : SrcB p l W) (k : Nat) : SrcB p (l.take k) W := by
  rcases h with h | ⟨b, off, e, h⟩
  · exact .inl (by rw [h, List.take_nil])
  · refine .inr ⟨b, off, e, fun j x hx => h j x ?_⟩
    rw [List.getElem?_take] at hx
    split at hx
    · exact hx
    · cases hx
theorem slTo {w : World} {b off n c k : Nat} (h : k ≤ c) : (Instr.sliceAt 22 (.slice (some ⟨b, off, none⟩) n c) none (some (.int .i64 (k : Int))) none).run Tryd.prog w = .ok (.slice (some ⟨b, off, none⟩) k c) w := by
  have h5 : (k : Int) ≤ (c : Int) := by omega
  have h6 : (0 : Int) ≤ (k : Int) := by omega
  go_simp
theorem slTo0 {w : World} : (Instr.sliceAt 22 (.slice none 0 0) none (some (.int .i64 ((0 : Nat) : Int))) none).run Tryd.prog w = .ok (.slice none 0 0) w := by
  go_simp
theorem slTo3 {w : World} {b off n c k : Nat} (h : k ≤ c) : (Instr.sliceAt 22 (.slice (some ⟨b, off, none⟩) n c) none (some (.int .i64 (k : Int))) (some (.int .i64 (k : Int)))).run Tryd.prog w = .ok (.slice (some ⟨b, off, none⟩) k k) w := by
  have h5 : (k : Int) ≤ (c : Int) := by omega
  have h6 : (0 : Int) ≤ (k : Int) := by omega
  go_simp
theorem slTo30 {w : World} {m c n : Nat} (hm : m = 0) (hc : c = 0) (hn : n = 0) : (Instr.sliceAt 22 (.slice none m c) none (some (.int .i64 (n : Int))) (some (.int .i64 (n : Int)))).run Tryd.prog w = .ok (.slice none n n) w := by
  subst hm hc hn
  go_simp
theorem slToP {w : World} {p : Option Addr} {m c k : Nat} (h : Shp p c) (hk : k ≤ c) (hm : p = none → m = 0) : (Instr.sliceAt 22 (.slice p m c) none (some (.int .i64 (k : Int))) none).run Tryd.prog w = .ok (.slice p k c) w := by
  rcases h with ⟨rfl, rfl⟩ | ⟨g, rfl⟩
  · obtain rfl : k = 0 := by omega
    obtain rfl := hm rfl
    exact slTo0
  · exact slTo hk

set_option linter.unusedSimpArgs false in
set_option maxRecDepth 100000 in
set_option maxHeartbeats 16000000 in
theorem Equal_v {p q : Option Addr} {n c m d : Nat} {l k : List (BitVec 8)} {b : Bool} {w : World} (hl : SrcB p l w) (hln : l.length = n) (hk : SrcB q k w) (hkn : k.length = m) (hb : decide (l = k) = b) :
    Calls Tryd.prog 16 #[.slice p n c, .slice q m d] w fun e w' => e = .returned (.bool b) ∧ w' = w := by
  have hB := strB_dec hb
  have H := Ow.start w
  go_enter Tryd.func16, Tryd.ntmps16
  go_upto_region 0 with fail
  refine Kr.seqStartW ?_
  (refine Kr.seqQ (v := ?_) (a' := ?_) (by rfl) ?_ ?_ ?_; rotate_left 2; (focus (go_simp; first | done | rfl)); (focus ((try simp only [Kr.PT]); first | done | rfl)))
  refine Kr.seqDoneW ?_
  go_upto_region 1 with fail
  refine Kr.seqStartW ?_
  (refine Kr.seqQ (v := ?_) (a' := ?_) (by rfl) ?_ ?_ ?_; rotate_left 2; (focus (go_simp; first | done | rfl)); (focus ((try simp only [Kr.PT]); first | done | rfl)))
  (refine Kr.seqQ (v := .string (strB l)) (a' := ?_) (by rfl) ?_ ?_ ?_; rotate_left 1; (focus (exact Kr.valOf rfl (run_str hl hln))); (focus ((try simp only [Kr.PT]); first | done | rfl)))
  (refine Kr.seqQ (v := ?_) (a' := ?_) (by rfl) ?_ ?_ ?_; rotate_left 2; (focus (go_simp; first | done | rfl)); (focus ((try simp only [Kr.PT]); first | done | rfl)))
  (refine Kr.seqQ (v := .string (strB k)) (a' := ?_) (by rfl) ?_ ?_ ?_; rotate_left 1; (focus (exact Kr.valOf rfl (run_str hk hkn))); (focus ((try simp only [Kr.PT]); first | done | rfl)))
  (refine Kr.seqQ (v := .bool b) (a' := ?_) (by rfl) ?_ ?_ ?_; rotate_left 1; (focus (exact Kr.valOf rfl (eqS hB))); (focus ((try simp only [Kr.PT]); first | done | rfl)))
  (refine Kr.seqQ (v := ?_) (a' := ?_) (by rfl) ?_ ?_ ?_; rotate_left 2; (focus (go_simp; first | done | rfl)); (focus ((try simp only [Kr.PT]); first | done | rfl)))
  refine Kr.seqDoneW ?_
  have hk := trivial
  go_wp2
  refine bodyPost_ret (v := .bool b) (by simp [results, Tryd.results16, go_sem, hk]) rfl ⟨rfl, rfl⟩
end Go.Proofs.YtlollhmheakcfaaDoor.Dg


/- slices.Clone at bytes. -/
namespace Go.Proofs.YtlollhmheakcfaaDoor.Dg
open Go Go.RowKit Go.Proofs.YtlollhmheakcfaaDoor.Ne Go.Proofs.YtlollhmheakcfaaDoor.Kr

theorem xor8 {w : World} {x y z : BitVec 8} (hz : x ^^^ y = z) : (binOp .xor 5 (.int .u8 (x.toNat : Int)) (.int .u8 (y.toNat : Int))).run Tryd.prog w = .ok (.int .u8 (z.toNat : Int)) w := by
  have e : bits BinOp.xor IntKind.u8 (x.toNat : Int) (y.toNat : Int) = (z.toNat : Int) := by
    rw [u8_xor_nat _ _ x.isLt y.isLt, ← hz]; simp
  clear hz
  go_simp
theorem eqBool {w : World} {b : Bool} : (binOp .eql 4 (.bool b) (.bool b)).run Tryd.prog w = .ok (.bool true) w := by
  cases b <;> go_simp
theorem take_set8 {cur : List Value} {l : List (BitVec 8)} {n i : Nat} {z : BitVec 8} (h : cur.take n = l.map w8) : (cur.set i (.int .u8 (z.toNat : Int))).take n = (l.set i z).map w8 := by
  rw [List.take_set, h, List.map_set]; rfl
theorem cur_get {cur : List Value} {l : List (BitVec 8)} {n i : Nat} {x : BitVec 8} (h : cur.take n = l.map w8) (hi : i < n) (hx : l[i]? = some x) : cur[i]? = some (.int .u8 (x.toNat : Int)) := of_take h hi (map_get8 hx)
theorem notNil {w : World} {a : Addr} {n c : Nat} : (binOp .eql 22 (.slice (some a) n c) (.slice none 0 0)).run Tryd.prog w = .ok (.bool false) w := by
  kernel_rfl

end Go.Proofs.YtlollhmheakcfaaDoor.Dg


/- The reference's digit. -/
namespace Go.Proofs.YtlollhmheakcfaaDoor.Dg
open Go Go.RowKit Go.Proofs.YtlollhmheakcfaaDoor.Ne Go.Proofs.YtlollhmheakcfaaDoor.Kr

theorem geqB {w : World} {x y : Int} {b : Bool} (h : decide (y ≤ x) = b) : (binOp .geq 5 (.int .u8 x) (.int .u8 y)).run Tryd.prog w = .ok (.bool b) w := by
  go_simp
theorem leqB {w : World} {x y : Int} {b : Bool} (h : decide (x ≤ y) = b) : (binOp .leq 5 (.int .u8 x) (.int .u8 y)).run Tryd.prog w = .ok (.bool b) w := by
  go_simp
theorem lssB {w : World} {x y : Int} {b : Bool} (h : decide (x < y) = b) : (binOp .lss 5 (.int .u8 x) (.int .u8 y)).run Tryd.prog w = .ok (.bool b) w := by
  go_simp
theorem gtrB {w : World} {x y : Int} {b : Bool} (h : decide (y < x) = b) : (binOp .gtr 5 (.int .u8 x) (.int .u8 y)).run Tryd.prog w = .ok (.bool b) w := by
  go_simp
theorem subB {w : World} {x y z : Int} (h : x - y = z) (h1 : 0 ≤ z) (h2 : z < 256) : (binOp .sub 5 (.int .u8 x) (.int .u8 y)).run Tryd.prog w = .ok (.int .u8 z) w := by
  have e : IntKind.u8.wrap (x - y) = z := by rw [h, IntKind.wrap_u8']; omega
  clear h h1 h2
  go_simp
theorem cvB {w : World} {z : Int} (h1 : 0 ≤ z) (h2 : z < 256) : (convert 5 3 (.int .u8 z)).run Tryd.prog w = .ok (.int .i64 z) w := by
  have e : IntKind.i64.wrap z = z := IntWalk.i64_in _ (by omega)
  clear h1 h2
  go_simp
theorem mul16B {w : World} {x y : BitVec 8} (h : x * 16 = y) : (binOp .mul 5 (.int .u8 (x.toNat : Int)) (.int .u8 16)).run Tryd.prog w = .ok (.int .u8 (y.toNat : Int)) w := by
  have e : IntKind.u8.wrap ((x.toNat : Int) * 16) = (y.toNat : Int) := by
    rw [← h, IntKind.wrap_u8', BitVec.toNat_mul]; simp
  clear h
  go_simp
theorem addB {w : World} {x y z : BitVec 8} (h : x + y = z) : (binOp .add 5 (.int .u8 (x.toNat : Int)) (.int .u8 (y.toNat : Int))).run Tryd.prog w = .ok (.int .u8 (z.toNat : Int)) w := by
  have e : IntKind.u8.wrap ((x.toNat : Int) + (y.toNat : Int)) = (z.toNat : Int) := by
    rw [← h, IntKind.wrap_u8', BitVec.toNat_add]; simp
  clear h
  go_simp
theorem quoB16 {w : World} {x : BitVec 8} {q : Nat} (h : x.toNat / 16 = q) : (binOp .quo 5 (.int .u8 (x.toNat : Int)) (.int .u8 16)).run Tryd.prog w = .ok (.int .u8 (q : Int)) w := by
  have e : IntKind.u8.wrap ((x.toNat : Int) / 16) = (q : Int) := by
    rw [IntKind.wrap_u8']
    have := x.isLt
    omega
  clear h
  go_simp
theorem remB16 {w : World} {x : BitVec 8} {q : Nat} (h : x.toNat % 16 = q) : (binOp .rem 5 (.int .u8 (x.toNat : Int)) (.int .u8 16)).run Tryd.prog w = .ok (.int .u8 (q : Int)) w := by
  have e : (x.toNat : Int).tmod 16 = (q : Int) := by
    rw [Int.tmod_eq_emod_of_nonneg (by omega)]
    omega
  clear h
  go_simp
theorem neqS {w : World} {a b : ByteArray} {c : Bool} (h : (!decide (a = b)) = c) : (binOp .neq 9 (.string a) (.string b)).run Tryd.prog w = .ok (.bool c) w := by
  have h1 := run_eqlS (P := Tryd.prog) (w := w) 9 a b
  rw [binOp_string_eql, Sem.run_pure] at h1
  rw [binOp_string_neq, Sem.run_pure, ← h]
  injection h1 with h1 _
  injection h1 with h1
  rw [h1]
end Go.Proofs.YtlollhmheakcfaaDoor.Dg


/- Items. -/
namespace Go.Proofs.YtlollhmheakcfaaDoor.Dg
open Go Go.RowKit Go.Proofs.YtlollhmheakcfaaDoor.Ne Go.Proofs.YtlollhmheakcfaaDoor.Kr

/-- An item as a tree. -/
inductive It where
  | mk : Int → Int → List (BitVec 8) → List It → It
def It.k : It → Int | .mk k _ _ _ => k
def It.n : It → Int | .mk _ n _ _ => n
def It.b : It → List (BitVec 8) | .mk _ _ b _ => b
def It.l : It → List It | .mk _ _ _ l => l
def InR (n : Int) : Prop := -9223372036854775808 ≤ n ∧ n < 9223372036854775808
/-- The value reads as this item, to this depth, over these blocks. -/
def ItV (W : World) : Nat → (Nat → Prop) → Value → It → Prop
  | 0, _, _, _ => False
  | d + 1, F, v, t => ∃ (pb : Option Addr) (cb : Nat) (pl : Option Addr) (cl : Nat),
      v = .agg #[.int .i64 t.k, .int .i64 t.n, .slice pb t.b.length cb, .slice pl t.l.length cl] ∧ InR t.k ∧ InR t.n ∧
      (pb = none → cb = 0) ∧ t.b.length ≤ cb ∧ t.b.length ≤ 4611686018427387904 ∧ t.l.length ≤ 4611686018427387904 ∧
      (t.b = [] ∨ ∃ b off, pb = some ⟨b, off, none⟩ ∧ F b ∧ BytesAt b off t.b W) ∧
      ∀ (j : Nat) (x : It), t.l[j]? = some x → ∃ (b off : Nat) (v0 v1 v2 v3 : Value), pl = some ⟨b, off, none⟩ ∧ F b ∧ W.cell? ⟨b, off + j * 4, none⟩ = some v0 ∧ W.cell? ⟨b, off + j * 4 + 1, none⟩ = some v1 ∧ W.cell? ⟨b, off + j * 4 + 2, none⟩ = some v2 ∧ W.cell? ⟨b, off + j * 4 + 3, none⟩ = some v3 ∧ ItV W d F (.agg #[v0, v1, v2, v3]) x
theorem ItV.grow {W W' : World} (g : Gr W W') {F : Nat → Prop} : ∀ {d : Nat} {v : Value} {t : It}, ItV W d F v t → ItV W' d F v t
  | 0, _, _, h => h
  | _ + 1, _, _, ⟨pb, cb, pl, cl, e, h1, h2, h3, h4, h5, h6, hb, hl⟩ =>
    ⟨pb, cb, pl, cl, e, h1, h2, h3, h4, h5, h6, hb.imp id (fun ⟨b, off, e, f, h⟩ => ⟨b, off, e, f, h.grow g⟩), fun j x hx => by
      obtain ⟨b, off, v0, v1, v2, v3, e, f, c0, c1, c2, c3, h⟩ := hl j x hx
      exact ⟨b, off, v0, v1, v2, v3, e, f, g.cell c0, g.cell c1, g.cell c2, g.cell c3, h.grow g⟩⟩
theorem ItV.kept {W W' : World} {F : Nat → Prop} (g : ∀ b, F b → W'.heap[b]? = W.heap[b]?) : ∀ {d : Nat} {v : Value} {t : It}, ItV W d F v t → ItV W' d F v t
  | 0, _, _, h => h
  | _ + 1, _, _, ⟨pb, cb, pl, cl, e, h1, h2, h3, h4, h5, h6, hb, hl⟩ =>
    ⟨pb, cb, pl, cl, e, h1, h2, h3, h4, h5, h6, hb.imp id (fun ⟨b, off, e, f, h⟩ => ⟨b, off, e, f, fun j x hx => (World.cell?_of_block (a := ⟨b, off + j, none⟩) (g b f)).trans (h j x hx)⟩), fun j x hx => by
      obtain ⟨b, off, v0, v1, v2, v3, e, f, c0, c1, c2, c3, h⟩ := hl j x hx
      exact ⟨b, off, v0, v1, v2, v3, e, f, (World.cell?_of_block (a := ⟨b, off + j * 4, none⟩) (g b f)).trans c0, (World.cell?_of_block (a := ⟨b, off + j * 4 + 1, none⟩) (g b f)).trans c1, (World.cell?_of_block (a := ⟨b, off + j * 4 + 2, none⟩) (g b f)).trans c2, (World.cell?_of_block (a := ⟨b, off + j * 4 + 3, none⟩) (g b f)).trans c3, h.kept g⟩⟩
theorem ItV.mono {W : World} {F G : Nat → Prop} (g : ∀ b, F b → G b) : ∀ {d : Nat} {v : Value} {t : It}, ItV W d F v t → ItV W d G v t
  | 0, _, _, h => h
  | _ + 1, _, _, ⟨pb, cb, pl, cl, e, h1, h2, h3, h4, h5, h6, hb, hl⟩ =>
    ⟨pb, cb, pl, cl, e, h1, h2, h3, h4, h5, h6, hb.imp id (fun ⟨b, off, e, f, h⟩ => ⟨b, off, e, g b f, h⟩), fun j x hx => by
      obtain ⟨b, off, v0, v1, v2, v3, e, f, c0, c1, c2, c3, h⟩ := hl j x hx
      exact ⟨b, off, v0, v1, v2, v3, e, g b f, c0, c1, c2, c3, h.mono g⟩⟩
theorem ItV.deep {W : World} {F : Nat → Prop} : ∀ {d d2 : Nat} {v : Value} {t : It}, d ≤ d2 → ItV W d F v t → ItV W d2 F v t
  | 0, _, _, _, _, h => h.elim
  | _ + 1, 0, _, _, h0, _ => by omega
  | d + 1, d2 + 1, _, _, h0, ⟨pb, cb, pl, cl, e, h1, h2, h3, h4, h5, h6, hb, hl⟩ =>
    ⟨pb, cb, pl, cl, e, h1, h2, h3, h4, h5, h6, hb, fun j x hx => by
      obtain ⟨b, off, v0, v1, v2, v3, e, f, c0, c1, c2, c3, h⟩ := hl j x hx
      exact ⟨b, off, v0, v1, v2, v3, e, f, c0, c1, c2, c3, h.deep (by omega)⟩⟩
theorem boxI {w : World} {v0 v1 v2 v3 : Value} : (Instr.box 25 (.agg #[v0, v1, v2, v3])).run Tryd.prog w = .ok (.pointer (some ⟨w.heap.size, 0, none⟩)) (w.alloc (.cells ([v0, v1, v2, v3] : List Value).toArray 25)) := by
  go_simp
theorem newI {w : World} : (Instr.alloc 25 true (.tuple #[])).run Tryd.prog w = .ok (.pointer (some ⟨w.heap.size, 0, none⟩)) (w.alloc (.cells ([.int .i64 0, .int .i64 0, .slice none 0 0, .slice none 0 0] : List Value).toArray 25)) := by
  go_simp
theorem ldI {w : World} {b : Nat} {T : TypeId} {v0 v1 v2 v3 : Value} (h : w.heap[b]? = some (.cells ([v0, v1, v2, v3] : List Value).toArray T (0, 0))) : (Instr.loadAt 25 (.pointer (some ⟨b, 0, none⟩))).run Tryd.prog w = .ok (.agg #[v0, v1, v2, v3]) w := by
  simp only [Instr.loadAt, Instr.sureAddr, Sem.run_bind, Sem.run_pure, Result.andThen_ok, run_loadVar_row w b T 25 ([v0, v1, v2, v3] : List Value).toArray (0, 0) _ h Tryd.underlying25 rfl (by kernel_rfl)]
theorem stI {w : World} {b : Nat} {T : TypeId} {u0 u1 u2 u3 v0 v1 v2 v3 : Value} (h : w.heap[b]? = some (.cells ([u0, u1, u2, u3] : List Value).toArray T (0, 0))) (h1 : ∀ v ∈ ([v0, v1, v2, v3] : List Value), v.oneCell' = true) :
    (Instr.storeAt 25 (.pointer (some ⟨b, 0, none⟩)) (.agg #[v0, v1, v2, v3])).run Tryd.prog w = .ok () (w.setRow b ([v0, v1, v2, v3] : List Value).toArray) := by
  simp only [Instr.storeAt, Instr.sureAddr, Sem.run_bind, Sem.run_pure, Result.andThen_ok]
  exact run_storeVar_row w b T 25 ([u0, u1, u2, u3] : List Value).toArray ([v0, v1, v2, v3] : List Value).toArray h (by kernel_rfl) (by simp) (Array.all_eq_true_iff_forall_mem.2 (fun v hv => h1 v (by simpa using hv)))
theorem ixI {w : World} {b off n c j : Nat} (h : j < n) : (Instr.indexAt 23 (.slice (some ⟨b, off, none⟩) n c) (.int .i64 (j : Int))).run Tryd.prog w = .ok (.pointer (some ⟨b, off + j * 4, none⟩)) w := by
  have h1 : (0 : Int) ≤ (j : Int) := by omega
  have h2 : (j : Int) < (n : Int) := by omega
  go_simp
theorem ldItem {w : World} {b o : Nat} {v0 v1 v2 v3 : Value} (c0 : w.cell? ⟨b, o, none⟩ = some v0) (c1 : w.cell? ⟨b, o + 1, none⟩ = some v1) (c2 : w.cell? ⟨b, o + 2, none⟩ = some v2) (c3 : w.cell? ⟨b, o + 3, none⟩ = some v3) :
    (Instr.loadAt 25 (.pointer (some ⟨b, o, none⟩))).run Tryd.prog w = .ok (.agg #[v0, v1, v2, v3]) w := by
  go_simp
theorem ldLs {w : World} {a : Addr} {p : Option Addr} {n c : Nat} (h : w.cell? a = some (.slice p n c)) : (Instr.loadAt 23 (.pointer (some a))).run Tryd.prog w = .ok (.slice p n c) w := by
  go_simp
theorem ldInt {w : World} {a : Addr} {n : Int} (h : w.cell? a = some (.int .i64 n)) : (Instr.loadAt 3 (.pointer (some a))).run Tryd.prog w = .ok (.int .i64 n) w := by
  go_simp
theorem fdI {w : World} {b : Nat} : ∀ j, j < 4 → (Instr.fieldAt 25 (.pointer (some ⟨b, 0, none⟩)) j).run Tryd.prog w = .ok (.pointer (some ⟨b, j, none⟩)) w
  | 0, _ => by go_simp
  | 1, _ => by go_simp
  | 2, _ => by go_simp
  | 3, _ => by go_simp
  | _ + 4, h => absurd h (by omega)
/-- An integer, or bytes. -/
def leaf (t : It) : Bool := (decide (t.k = 1) && (decide (t.b.length = 0) && decide (t.l.length = 0))) || (decide (t.k = 2) && (decide (t.n = 0) && decide (t.l.length = 0)))
/-- Valid, of at most this depth. -/
def vld : Nat → It → Bool
  | 0, t => leaf t
  | d + 1, t => leaf t || (decide (t.k = 3) && (decide (t.n = 0) && (decide (t.b.length = 0) && (decide (t.l.length ≤ 1000) && t.l.all (vld d)))))
theorem vld1 {t : It} (h : t.k = 1) : ∀ d, vld d t = (decide (t.b.length = 0) && decide (t.l.length = 0))
  | 0 => by simp [vld, leaf, h]
  | d + 1 => by simp [vld, leaf, h]
theorem vld2 {t : It} (h : t.k = 2) : ∀ d, vld d t = (decide (t.n = 0) && decide (t.l.length = 0))
  | 0 => by simp [vld, leaf, h]
  | d + 1 => by simp [vld, leaf, h]
theorem vld3 {t : It} (h : t.k = 3) (d : Nat) : vld (d + 1) t = (decide (t.n = 0) && (decide (t.b.length = 0) && (decide (t.l.length ≤ 1000) && t.l.all (vld d)))) := by simp [vld, leaf, h]
theorem vld30 {t : It} (h : t.k = 3) : vld 0 t = false := by simp [vld, leaf, h]
theorem vldN {t : It} (h1 : t.k ≠ 1) (h2 : t.k ≠ 2) (h3 : t.k ≠ 3) : ∀ d, vld d t = false
  | 0 => by simp [vld, leaf, h1, h2]
  | d + 1 => by simp [vld, leaf, h1, h2, h3]

end Go.Proofs.YtlollhmheakcfaaDoor.Dg


/- validWithin. -/
namespace Go.Proofs.YtlollhmheakcfaaDoor.Dg
open Go Go.RowKit Go.Proofs.YtlollhmheakcfaaDoor.Ne Go.Proofs.YtlollhmheakcfaaDoor.Kr

theorem ItV.one {W : World} {F : Nat → Prop} {k : Nat} {v0 v1 v2 v3 : Value} {t : It} (h : ItV W k F (.agg #[v0, v1, v2, v3]) t) : ∀ v ∈ ([v0, v1, v2, v3] : List Value), v.oneCell' = true := by
  cases k with
  | zero => exact h.elim
  | succ k =>
    obtain ⟨pb, cb, pl, cl, hv, _⟩ := h
    simp only [Value.agg.injEq, Array.mk.injEq, List.cons.injEq] at hv
    obtain ⟨rfl, rfl, rfl, rfl, _⟩ := hv
    intro v hv
    simp only [List.mem_cons, List.not_mem_nil, or_false] at hv
    rcases hv with rfl | rfl | rfl | rfl <;> rfl
set_option linter.unusedSimpArgs false in
set_option maxRecDepth 100000 in
set_option maxHeartbeats 16000000 in
theorem within_step {d : Nat} (hd : d ≤ 8) (ih : ∀ e, e + 1 = d → ∀ {k : Nat} {F : Nat → Prop} {v : Value} {t : It} {w : World}, ItV w k F v t →
      Calls Tryd.prog 38 #[v, .int .i64 (e : Int)] w fun r w' => r = .returned (.bool (vld e t)) ∧ Gr w w')
    {k : Nat} {F : Nat → Prop} {v : Value} {t : It} {w : World} (hI : ItV w k F v t) :
    Calls Tryd.prog 38 #[v, .int .i64 (d : Int)] w fun e w' => e = .returned (.bool (vld d t)) ∧ Gr w w' := by
  have hd8 := hd
  obtain ⟨k0, rfl⟩ : ∃ k0, k = k0 + 1 := by cases k with
    | zero => exact hI.elim
    | succ k0 => exact ⟨k0, rfl⟩
  obtain ⟨pb, cb, pl, cl, hv, hk1, hn1, hpb, hcb, hbl, hll, hB, hL⟩ := hI; subst hv
  obtain ⟨tk, htk⟩ : ∃ z, t.k = z := ⟨_, rfl⟩; obtain ⟨tn, htn⟩ : ∃ z, t.n = z := ⟨_, rfl⟩; obtain ⟨bl, hbl2⟩ : ∃ z, t.b.length = z := ⟨_, rfl⟩; obtain ⟨ll, hll2⟩ : ∃ z, t.l.length = z := ⟨_, rfl⟩
  rw [htk] at hk1; rw [htn] at hn1; rw [hbl2] at hcb hbl; rw [hll2] at hll; have HTK := Lib.hid htk; have HTN := Lib.hid htn; have HBL := Lib.hid hbl2; have HLL := Lib.hid hll2; have HBB := Lib.hid hB; have HLS := Lib.hid hL; have HPB := Lib.hid hpb; have HI1 := Lib.hid hk1; have HI2 := Lib.hid hn1; rw [htk, htn, hbl2, hll2]; clear htk htn hbl2 hll2 hB hL hpb hk1 hn1
  obtain ⟨RES, hRS⟩ : ∃ z, vld d t = z := ⟨_, rfl⟩; rw [hRS]; have HRES := Lib.hid hRS; clear hRS
  have H := Ow.start w
  go_enter Tryd.func38, Tryd.ntmps38
  go_upto_region 0 with fail
  refine Kr.seqStartW ?_
  refine Kr.seqR (by rfl) (fun K hK => ?_)
  refine wp_runV rfl boxI ?_
  obtain ⟨y1, hy⟩ : ∃ y, w.alloc (.cells ([.int .i64 tk, .int .i64 tn, .slice pb bl cb, .slice pl ll cl]).toArray 25) = y := ⟨_, rfl⟩
  obtain ⟨ba, hb⟩ : ∃ b, w.heap.size = b := ⟨_, rfl⟩
  rw [hy, hb]
  have hg : Gr w y1 := hy ▸ (Gr.refl _).alloc _
  replace H := H.alloc hy hb
  clear hy hb hg
  (refine Kr.outS hK (a' := ?_) ?_ ?_; rotate_left; (focus ((try simp only [Kr.PT]); first | done | rfl))); clear hK K
  (refine Kr.seqQ (v := ?_) (a' := ?_) (by rfl) ?_ ?_ ?_; rotate_left 2; (focus (go_simp; first | done | rfl)); (focus ((try simp only [Kr.PT]); first | done | rfl)))
  refine Kr.seqDoneW ?_
  go_upto_region 1 with fail
  refine Kr.seqStartW ?_
  (refine Kr.seqQ (v := .pointer (some ⟨ba, 0, none⟩)) (a' := ?_) (by rfl) ?_ ?_ ?_; rotate_left 1; (focus (go_simp; first | done | rfl)); (focus ((try simp only [Kr.PT]); first | done | rfl)))
  (refine Kr.seqQ (v := .int .i64 tk) (a' := ?_) (by rfl) ?_ ?_ ?_; rotate_left 1; (focus (exact Kr.valOf rfl (ldInt (rowCell (j := 0) (H.at 0 rfl) rfl)))); (focus ((try simp only [Kr.PT]); first | done | rfl)))
  refine Kr.seqDoneW ?_
  by_cases k1 : tk = 1
  · have C1 : decide (tk = 1) = true := decide_eq_true (by exact k1)
    have HR : Hid (RES = (decide (bl = 0) && decide (ll = 0))) := Lib.hid (by rw [← HRES.out, vld1 (HTK.out.trans k1) d, HBL.out, HLL.out]); clear k1
    go_upto_region 2 with fail
    refine Kr.seqStartW ?_
    (refine Kr.seqQ (v := .bool true) (a' := ?_) (by rfl) ?_ ?_ ?_; rotate_left 1; (focus (exact Kr.valOf rfl (eqlI C1))); (focus ((try simp only [Kr.PT]); first | done | rfl)))
    (refine Kr.seqQ (v := ?_) (a' := ?_) (by rfl) ?_ ?_ ?_; rotate_left 2; (focus (go_simp; first | done | rfl)); (focus ((try simp only [Kr.PT]); first | done | rfl)))
    refine Kr.seqDoneW ?_
    obtain ⟨b1, hb1⟩ : ∃ z, decide ((bl : Int) = 0) = z := ⟨_, rfl⟩; obtain ⟨b2, hb2⟩ : ∃ z, decide ((ll : Int) = 0) = z := ⟨_, rfl⟩
    have hr2 : (decide (bl = 0) && decide (ll = 0)) = (b1 && b2) := by rw [← hb1, ← hb2, Bool.eq_iff_iff]; simp
    have HR2 := Lib.hid (HR.out.trans hr2); clear hr2
    cases b1
    · have hr : RES = false := HR2.out; subst hr
      go_upto_region 3 with fail
      refine Kr.seqStartW ?_
      (refine Kr.seqQ (v := .pointer (some ⟨ba, 2, none⟩)) (a' := ?_) (by rfl) ?_ ?_ ?_; rotate_left 1; (focus (go_simp; first | done | rfl)); (focus ((try simp only [Kr.PT]); first | done | rfl)))
      (refine Kr.seqQ (v := .slice pb bl cb) (a' := ?_) (by rfl) ?_ ?_ ?_; rotate_left 1; (focus (exact Kr.valOf rfl (ldSl (rowCell (j := 2) (H.at 0 rfl) rfl)))); (focus ((try simp only [Kr.PT]); first | done | rfl)))
      (refine Kr.seqQ (v := .int .i64 (bl : Int)) (a' := ?_) (by rfl) ?_ ?_ ?_; rotate_left 1; (focus (exact Kr.valOf rfl ((by go_simp)))); (focus ((try simp only [Kr.PT]); first | done | rfl)))
      (refine Kr.seqQ (v := .bool false) (a' := ?_) (by rfl) ?_ ?_ ?_; rotate_left 1; (focus (exact Kr.valOf rfl (eqlI hb1))); (focus ((try simp only [Kr.PT]); first | done | rfl)))
      (refine Kr.seqQ (v := ?_) (a' := ?_) (by rfl) ?_ ?_ ?_; rotate_left 2; (focus (go_simp; first | done | rfl)); (focus ((try simp only [Kr.PT]); first | done | rfl)))
      (refine Kr.seqSkipQ (a' := ?_) (by rfl) ?_ ?_; rotate_left; (focus ((try simp only [Kr.PT]); first | done | rfl)))
      (refine Kr.seqSkipQ (a' := ?_) (by rfl) ?_ ?_; rotate_left; (focus ((try simp only [Kr.PT]); first | done | rfl)))
      (refine Kr.seqSkipQ (a' := ?_) (by rfl) ?_ ?_; rotate_left; (focus ((try simp only [Kr.PT]); first | done | rfl)))
      (refine Kr.seqSkipQ (a' := ?_) (by rfl) ?_ ?_; rotate_left; (focus ((try simp only [Kr.PT]); first | done | rfl)))
      (refine Kr.seqQ (v := ?_) (a' := ?_) (by rfl) ?_ ?_ ?_; rotate_left 2; (focus (go_simp; first | done | rfl)); (focus ((try simp only [Kr.PT]); first | done | rfl)))
      (refine Kr.seqQ (v := ?_) (a' := ?_) (by rfl) ?_ ?_ ?_; rotate_left 2; (focus (go_simp; first | done | rfl)); (focus ((try simp only [Kr.PT]); first | done | rfl)))
      refine Kr.seqDoneW ?_
      have hk := trivial
      go_wp2
      refine bodyPost_ret (v := .bool false) (by simp [results, Tryd.results38, go_sem, hk]) rfl ⟨rfl, H.g⟩
    · have hr : RES = b2 := HR2.out; subst hr
      go_upto_region 3 with fail
      refine Kr.seqStartW ?_
      (refine Kr.seqQ (v := .pointer (some ⟨ba, 2, none⟩)) (a' := ?_) (by rfl) ?_ ?_ ?_; rotate_left 1; (focus (go_simp; first | done | rfl)); (focus ((try simp only [Kr.PT]); first | done | rfl)))
      (refine Kr.seqQ (v := .slice pb bl cb) (a' := ?_) (by rfl) ?_ ?_ ?_; rotate_left 1; (focus (exact Kr.valOf rfl (ldSl (rowCell (j := 2) (H.at 0 rfl) rfl)))); (focus ((try simp only [Kr.PT]); first | done | rfl)))
      (refine Kr.seqQ (v := .int .i64 (bl : Int)) (a' := ?_) (by rfl) ?_ ?_ ?_; rotate_left 1; (focus (exact Kr.valOf rfl ((by go_simp)))); (focus ((try simp only [Kr.PT]); first | done | rfl)))
      (refine Kr.seqQ (v := .bool true) (a' := ?_) (by rfl) ?_ ?_ ?_; rotate_left 1; (focus (exact Kr.valOf rfl (eqlI hb1))); (focus ((try simp only [Kr.PT]); first | done | rfl)))
      (refine Kr.seqQ (v := ?_) (a' := ?_) (by rfl) ?_ ?_ ?_; rotate_left 2; (focus (go_simp; first | done | rfl)); (focus ((try simp only [Kr.PT]); first | done | rfl)))
      (refine Kr.seqQ (v := .pointer (some ⟨ba, 3, none⟩)) (a' := ?_) (by rfl) ?_ ?_ ?_; rotate_left 1; (focus (go_simp; first | done | rfl)); (focus ((try simp only [Kr.PT]); first | done | rfl)))
      (refine Kr.seqQ (v := .slice pl ll cl) (a' := ?_) (by rfl) ?_ ?_ ?_; rotate_left 1; (focus (exact Kr.valOf rfl (ldLs (rowCell (j := 3) (H.at 0 rfl) rfl)))); (focus ((try simp only [Kr.PT]); first | done | rfl)))
      (refine Kr.seqQ (v := .int .i64 (ll : Int)) (a' := ?_) (by rfl) ?_ ?_ ?_; rotate_left 1; (focus (exact Kr.valOf rfl ((by go_simp)))); (focus ((try simp only [Kr.PT]); first | done | rfl)))
      (refine Kr.seqQ (v := .bool RES) (a' := ?_) (by rfl) ?_ ?_ ?_; rotate_left 1; (focus (exact Kr.valOf rfl (eqlI hb2))); (focus ((try simp only [Kr.PT]); first | done | rfl)))
      (refine Kr.seqQ (v := ?_) (a' := ?_) (by rfl) ?_ ?_ ?_; rotate_left 2; (focus (go_simp; first | done | rfl)); (focus ((try simp only [Kr.PT]); first | done | rfl)))
      (refine Kr.seqQ (v := ?_) (a' := ?_) (by rfl) ?_ ?_ ?_; rotate_left 2; (focus (go_simp; first | done | rfl)); (focus ((try simp only [Kr.PT]); first | done | rfl)))
      refine Kr.seqDoneW ?_
      have hk := trivial
      go_wp2
      refine bodyPost_ret (v := .bool RES) (by simp [results, Tryd.results38, go_sem, hk]) rfl ⟨rfl, H.g⟩
  by_cases k2 : tk = 2
  · have C1 : decide (tk = 1) = false := decide_eq_false (by exact k1)
    have C2 : decide (tk = 2) = true := decide_eq_true (by exact k2)
    have HR : Hid (RES = (decide (tn = 0) && decide (ll = 0))) := Lib.hid (by rw [← HRES.out, vld2 (HTK.out.trans k2) d, HTN.out, HLL.out]); clear k1 k2
    go_upto_region 2 with fail
    refine Kr.seqStartW ?_
    (refine Kr.seqQ (v := .bool false) (a' := ?_) (by rfl) ?_ ?_ ?_; rotate_left 1; (focus (exact Kr.valOf rfl (eqlI C1))); (focus ((try simp only [Kr.PT]); first | done | rfl)))
    (refine Kr.seqQ (v := ?_) (a' := ?_) (by rfl) ?_ ?_ ?_; rotate_left 2; (focus (go_simp; first | done | rfl)); (focus ((try simp only [Kr.PT]); first | done | rfl)))
    refine Kr.seqDoneW ?_
    go_upto_region 4 with fail
    refine Kr.seqStartW ?_
    (refine Kr.seqQ (v := .bool true) (a' := ?_) (by rfl) ?_ ?_ ?_; rotate_left 1; (focus (exact Kr.valOf rfl (eqlI C2))); (focus ((try simp only [Kr.PT]); first | done | rfl)))
    (refine Kr.seqQ (v := ?_) (a' := ?_) (by rfl) ?_ ?_ ?_; rotate_left 2; (focus (go_simp; first | done | rfl)); (focus ((try simp only [Kr.PT]); first | done | rfl)))
    refine Kr.seqDoneW ?_
    obtain ⟨b1, hb1⟩ : ∃ z, decide (tn = 0) = z := ⟨_, rfl⟩; obtain ⟨b2, hb2⟩ : ∃ z, decide ((ll : Int) = 0) = z := ⟨_, rfl⟩
    have hr2 : (decide (tn = 0) && decide (ll = 0)) = (b1 && b2) := by rw [← hb1, ← hb2, Bool.eq_iff_iff]; simp
    have HR2 := Lib.hid (HR.out.trans hr2); clear hr2
    cases b1
    · have hr : RES = false := HR2.out; subst hr
      go_upto_region 5 with fail
      refine Kr.seqStartW ?_
      (refine Kr.seqQ (v := .pointer (some ⟨ba, 1, none⟩)) (a' := ?_) (by rfl) ?_ ?_ ?_; rotate_left 1; (focus (go_simp; first | done | rfl)); (focus ((try simp only [Kr.PT]); first | done | rfl)))
      (refine Kr.seqQ (v := .int .i64 tn) (a' := ?_) (by rfl) ?_ ?_ ?_; rotate_left 1; (focus (exact Kr.valOf rfl (ldInt (rowCell (j := 1) (H.at 0 rfl) rfl)))); (focus ((try simp only [Kr.PT]); first | done | rfl)))
      (refine Kr.seqQ (v := .bool false) (a' := ?_) (by rfl) ?_ ?_ ?_; rotate_left 1; (focus (exact Kr.valOf rfl (eqlI hb1))); (focus ((try simp only [Kr.PT]); first | done | rfl)))
      (refine Kr.seqQ (v := ?_) (a' := ?_) (by rfl) ?_ ?_ ?_; rotate_left 2; (focus (go_simp; first | done | rfl)); (focus ((try simp only [Kr.PT]); first | done | rfl)))
      (refine Kr.seqSkipQ (a' := ?_) (by rfl) ?_ ?_; rotate_left; (focus ((try simp only [Kr.PT]); first | done | rfl)))
      (refine Kr.seqSkipQ (a' := ?_) (by rfl) ?_ ?_; rotate_left; (focus ((try simp only [Kr.PT]); first | done | rfl)))
      (refine Kr.seqSkipQ (a' := ?_) (by rfl) ?_ ?_; rotate_left; (focus ((try simp only [Kr.PT]); first | done | rfl)))
      (refine Kr.seqSkipQ (a' := ?_) (by rfl) ?_ ?_; rotate_left; (focus ((try simp only [Kr.PT]); first | done | rfl)))
      (refine Kr.seqQ (v := ?_) (a' := ?_) (by rfl) ?_ ?_ ?_; rotate_left 2; (focus (go_simp; first | done | rfl)); (focus ((try simp only [Kr.PT]); first | done | rfl)))
      (refine Kr.seqQ (v := ?_) (a' := ?_) (by rfl) ?_ ?_ ?_; rotate_left 2; (focus (go_simp; first | done | rfl)); (focus ((try simp only [Kr.PT]); first | done | rfl)))
      refine Kr.seqDoneW ?_
      have hk := trivial
      go_wp2
      refine bodyPost_ret (v := .bool false) (by simp [results, Tryd.results38, go_sem, hk]) rfl ⟨rfl, H.g⟩
    · have hr : RES = b2 := HR2.out; subst hr
      go_upto_region 5 with fail
      refine Kr.seqStartW ?_
      (refine Kr.seqQ (v := .pointer (some ⟨ba, 1, none⟩)) (a' := ?_) (by rfl) ?_ ?_ ?_; rotate_left 1; (focus (go_simp; first | done | rfl)); (focus ((try simp only [Kr.PT]); first | done | rfl)))
      (refine Kr.seqQ (v := .int .i64 tn) (a' := ?_) (by rfl) ?_ ?_ ?_; rotate_left 1; (focus (exact Kr.valOf rfl (ldInt (rowCell (j := 1) (H.at 0 rfl) rfl)))); (focus ((try simp only [Kr.PT]); first | done | rfl)))
      (refine Kr.seqQ (v := .bool true) (a' := ?_) (by rfl) ?_ ?_ ?_; rotate_left 1; (focus (exact Kr.valOf rfl (eqlI hb1))); (focus ((try simp only [Kr.PT]); first | done | rfl)))
      (refine Kr.seqQ (v := ?_) (a' := ?_) (by rfl) ?_ ?_ ?_; rotate_left 2; (focus (go_simp; first | done | rfl)); (focus ((try simp only [Kr.PT]); first | done | rfl)))
      (refine Kr.seqQ (v := .pointer (some ⟨ba, 3, none⟩)) (a' := ?_) (by rfl) ?_ ?_ ?_; rotate_left 1; (focus (go_simp; first | done | rfl)); (focus ((try simp only [Kr.PT]); first | done | rfl)))
      (refine Kr.seqQ (v := .slice pl ll cl) (a' := ?_) (by rfl) ?_ ?_ ?_; rotate_left 1; (focus (exact Kr.valOf rfl (ldLs (rowCell (j := 3) (H.at 0 rfl) rfl)))); (focus ((try simp only [Kr.PT]); first | done | rfl)))
      (refine Kr.seqQ (v := .int .i64 (ll : Int)) (a' := ?_) (by rfl) ?_ ?_ ?_; rotate_left 1; (focus (exact Kr.valOf rfl ((by go_simp)))); (focus ((try simp only [Kr.PT]); first | done | rfl)))
      (refine Kr.seqQ (v := .bool RES) (a' := ?_) (by rfl) ?_ ?_ ?_; rotate_left 1; (focus (exact Kr.valOf rfl (eqlI hb2))); (focus ((try simp only [Kr.PT]); first | done | rfl)))
      (refine Kr.seqQ (v := ?_) (a' := ?_) (by rfl) ?_ ?_ ?_; rotate_left 2; (focus (go_simp; first | done | rfl)); (focus ((try simp only [Kr.PT]); first | done | rfl)))
      (refine Kr.seqQ (v := ?_) (a' := ?_) (by rfl) ?_ ?_ ?_; rotate_left 2; (focus (go_simp; first | done | rfl)); (focus ((try simp only [Kr.PT]); first | done | rfl)))
      refine Kr.seqDoneW ?_
      have hk := trivial
      go_wp2
      refine bodyPost_ret (v := .bool RES) (by simp [results, Tryd.results38, go_sem, hk]) rfl ⟨rfl, H.g⟩
  by_cases k3 : tk = 3
  · have C1 : decide (tk = 1) = false := decide_eq_false (by exact k1)
    have C2 : decide (tk = 2) = false := decide_eq_false (by exact k2)
    have C3 : decide (tk = 3) = true := decide_eq_true (by exact k3)
    have HK3 := Lib.hid (HTK.out.trans k3); clear k1 k2 k3
    go_upto_region 2 with fail
    refine Kr.seqStartW ?_
    (refine Kr.seqQ (v := .bool false) (a' := ?_) (by rfl) ?_ ?_ ?_; rotate_left 1; (focus (exact Kr.valOf rfl (eqlI C1))); (focus ((try simp only [Kr.PT]); first | done | rfl)))
    (refine Kr.seqQ (v := ?_) (a' := ?_) (by rfl) ?_ ?_ ?_; rotate_left 2; (focus (go_simp; first | done | rfl)); (focus ((try simp only [Kr.PT]); first | done | rfl)))
    refine Kr.seqDoneW ?_
    go_upto_region 4 with fail
    refine Kr.seqStartW ?_
    (refine Kr.seqQ (v := .bool false) (a' := ?_) (by rfl) ?_ ?_ ?_; rotate_left 1; (focus (exact Kr.valOf rfl (eqlI C2))); (focus ((try simp only [Kr.PT]); first | done | rfl)))
    (refine Kr.seqQ (v := ?_) (a' := ?_) (by rfl) ?_ ?_ ?_; rotate_left 2; (focus (go_simp; first | done | rfl)); (focus ((try simp only [Kr.PT]); first | done | rfl)))
    refine Kr.seqDoneW ?_
    go_upto_region 6 with fail
    refine Kr.seqStartW ?_
    (refine Kr.seqQ (v := .bool true) (a' := ?_) (by rfl) ?_ ?_ ?_; rotate_left 1; (focus (exact Kr.valOf rfl (eqlI C3))); (focus ((try simp only [Kr.PT]); first | done | rfl)))
    (refine Kr.seqQ (v := ?_) (a' := ?_) (by rfl) ?_ ?_ ?_; rotate_left 2; (focus (go_simp; first | done | rfl)); (focus ((try simp only [Kr.PT]); first | done | rfl)))
    refine Kr.seqDoneW ?_
    cases d with
    | zero =>
      have hr : RES = false := by rw [← HRES.out, vld30 HK3.out]
      subst hr
      have C4 : decide (((0 : Nat) : Int) = 0) = true := decide_eq_true (by omega)
      go_upto_region 7 with fail
      refine Kr.seqStartW ?_
      (refine Kr.seqQ (v := ?_) (a' := ?_) (by rfl) ?_ ?_ ?_; rotate_left 2; (focus (go_simp; first | done | rfl)); (focus ((try simp only [Kr.PT]); first | done | rfl)))
      (refine Kr.seqQ (v := .bool true) (a' := ?_) (by rfl) ?_ ?_ ?_; rotate_left 1; (focus (exact Kr.valOf rfl (eqlI C4))); (focus ((try simp only [Kr.PT]); first | done | rfl)))
      (refine Kr.seqQ (v := ?_) (a' := ?_) (by rfl) ?_ ?_ ?_; rotate_left 2; (focus (go_simp; first | done | rfl)); (focus ((try simp only [Kr.PT]); first | done | rfl)))
      (refine Kr.seqSkipQ (a' := ?_) (by rfl) ?_ ?_; rotate_left; (focus ((try simp only [Kr.PT]); first | done | rfl)))
      (refine Kr.seqSkipQ (a' := ?_) (by rfl) ?_ ?_; rotate_left; (focus ((try simp only [Kr.PT]); first | done | rfl)))
      (refine Kr.seqSkipQ (a' := ?_) (by rfl) ?_ ?_; rotate_left; (focus ((try simp only [Kr.PT]); first | done | rfl)))
      (refine Kr.seqQ (v := ?_) (a' := ?_) (by rfl) ?_ ?_ ?_; rotate_left 2; (focus (go_simp; first | done | rfl)); (focus ((try simp only [Kr.PT]); first | done | rfl)))
      (refine Kr.seqQ (v := ?_) (a' := ?_) (by rfl) ?_ ?_ ?_; rotate_left 2; (focus (go_simp; first | done | rfl)); (focus ((try simp only [Kr.PT]); first | done | rfl)))
      (refine Kr.seqSkipQ (a' := ?_) (by rfl) ?_ ?_; rotate_left; (focus ((try simp only [Kr.PT]); first | done | rfl)))
      (refine Kr.seqSkipQ (a' := ?_) (by rfl) ?_ ?_; rotate_left; (focus ((try simp only [Kr.PT]); first | done | rfl)))
      (refine Kr.seqSkipQ (a' := ?_) (by rfl) ?_ ?_; rotate_left; (focus ((try simp only [Kr.PT]); first | done | rfl)))
      (refine Kr.seqSkipQ (a' := ?_) (by rfl) ?_ ?_; rotate_left; (focus ((try simp only [Kr.PT]); first | done | rfl)))
      (refine Kr.seqQ (v := ?_) (a' := ?_) (by rfl) ?_ ?_ ?_; rotate_left 2; (focus (go_simp; first | done | rfl)); (focus ((try simp only [Kr.PT]); first | done | rfl)))
      (refine Kr.seqQ (v := ?_) (a' := ?_) (by rfl) ?_ ?_ ?_; rotate_left 2; (focus (go_simp; first | done | rfl)); (focus ((try simp only [Kr.PT]); first | done | rfl)))
      (refine Kr.seqSkipQ (a' := ?_) (by rfl) ?_ ?_; rotate_left; (focus ((try simp only [Kr.PT]); first | done | rfl)))
      (refine Kr.seqSkipQ (a' := ?_) (by rfl) ?_ ?_; rotate_left; (focus ((try simp only [Kr.PT]); first | done | rfl)))
      (refine Kr.seqSkipQ (a' := ?_) (by rfl) ?_ ?_; rotate_left; (focus ((try simp only [Kr.PT]); first | done | rfl)))
      (refine Kr.seqSkipQ (a' := ?_) (by rfl) ?_ ?_; rotate_left; (focus ((try simp only [Kr.PT]); first | done | rfl)))
      (refine Kr.seqQ (v := ?_) (a' := ?_) (by rfl) ?_ ?_ ?_; rotate_left 2; (focus (go_simp; first | done | rfl)); (focus ((try simp only [Kr.PT]); first | done | rfl)))
      refine Kr.seqDoneW ?_
      go_upto_region 8 with fail
      refine Kr.seqStartW ?_
      (refine Kr.seqQ (v := ?_) (a' := ?_) (by rfl) ?_ ?_ ?_; rotate_left 2; (focus (go_simp; first | done | rfl)); (focus ((try simp only [Kr.PT]); first | done | rfl)))
      refine Kr.seqDoneW ?_
      have hk := trivial
      go_wp2
      refine bodyPost_ret (v := .bool false) (by simp [results, Tryd.results38, go_sem, hk]) rfl ⟨rfl, H.g⟩
    | succ d =>
      have HR3 : Hid (RES = (decide (tn = 0) && (decide (bl = 0) && (decide (ll ≤ 1000) && t.l.all (vld d))))) := Lib.hid (by rw [← HRES.out, vld3 HK3.out d, HTN.out, HBL.out, HLL.out])
      have C4 : decide (((d + 1 : Nat) : Int) = 0) = false := decide_eq_false (by omega)
      by_cases n0 : tn ≠ 0
      · have hr : RES = false := by rw [HR3.out, decide_eq_false n0, Bool.false_and]
        subst hr
        have C5 : (!decide (tn = 0)) = true := by rw [decide_eq_false n0]; rfl
        go_upto_region 7 with fail
        refine Kr.seqStartW ?_
        (refine Kr.seqQ (v := ?_) (a' := ?_) (by rfl) ?_ ?_ ?_; rotate_left 2; (focus (go_simp; first | done | rfl)); (focus ((try simp only [Kr.PT]); first | done | rfl)))
        (refine Kr.seqQ (v := .bool false) (a' := ?_) (by rfl) ?_ ?_ ?_; rotate_left 1; (focus (exact Kr.valOf rfl (eqlI C4))); (focus ((try simp only [Kr.PT]); first | done | rfl)))
        (refine Kr.seqQ (v := ?_) (a' := ?_) (by rfl) ?_ ?_ ?_; rotate_left 2; (focus (go_simp; first | done | rfl)); (focus ((try simp only [Kr.PT]); first | done | rfl)))
        (refine Kr.seqQ (v := .pointer (some ⟨ba, 1, none⟩)) (a' := ?_) (by rfl) ?_ ?_ ?_; rotate_left 1; (focus (go_simp; first | done | rfl)); (focus ((try simp only [Kr.PT]); first | done | rfl)))
        (refine Kr.seqQ (v := .int .i64 tn) (a' := ?_) (by rfl) ?_ ?_ ?_; rotate_left 1; (focus (exact Kr.valOf rfl (ldInt (rowCell (j := 1) (H.at 0 rfl) rfl)))); (focus ((try simp only [Kr.PT]); first | done | rfl)))
        (refine Kr.seqQ (v := .bool true) (a' := ?_) (by rfl) ?_ ?_ ?_; rotate_left 1; (focus (exact Kr.valOf rfl (neqI C5))); (focus ((try simp only [Kr.PT]); first | done | rfl)))
        (refine Kr.seqQ (v := ?_) (a' := ?_) (by rfl) ?_ ?_ ?_; rotate_left 2; (focus (go_simp; first | done | rfl)); (focus ((try simp only [Kr.PT]); first | done | rfl)))
        (refine Kr.seqQ (v := ?_) (a' := ?_) (by rfl) ?_ ?_ ?_; rotate_left 2; (focus (go_simp; first | done | rfl)); (focus ((try simp only [Kr.PT]); first | done | rfl)))
        (refine Kr.seqSkipQ (a' := ?_) (by rfl) ?_ ?_; rotate_left; (focus ((try simp only [Kr.PT]); first | done | rfl)))
        (refine Kr.seqSkipQ (a' := ?_) (by rfl) ?_ ?_; rotate_left; (focus ((try simp only [Kr.PT]); first | done | rfl)))
        (refine Kr.seqSkipQ (a' := ?_) (by rfl) ?_ ?_; rotate_left; (focus ((try simp only [Kr.PT]); first | done | rfl)))
        (refine Kr.seqSkipQ (a' := ?_) (by rfl) ?_ ?_; rotate_left; (focus ((try simp only [Kr.PT]); first | done | rfl)))
        (refine Kr.seqQ (v := ?_) (a' := ?_) (by rfl) ?_ ?_ ?_; rotate_left 2; (focus (go_simp; first | done | rfl)); (focus ((try simp only [Kr.PT]); first | done | rfl)))
        (refine Kr.seqQ (v := ?_) (a' := ?_) (by rfl) ?_ ?_ ?_; rotate_left 2; (focus (go_simp; first | done | rfl)); (focus ((try simp only [Kr.PT]); first | done | rfl)))
        (refine Kr.seqSkipQ (a' := ?_) (by rfl) ?_ ?_; rotate_left; (focus ((try simp only [Kr.PT]); first | done | rfl)))
        (refine Kr.seqSkipQ (a' := ?_) (by rfl) ?_ ?_; rotate_left; (focus ((try simp only [Kr.PT]); first | done | rfl)))
        (refine Kr.seqSkipQ (a' := ?_) (by rfl) ?_ ?_; rotate_left; (focus ((try simp only [Kr.PT]); first | done | rfl)))
        (refine Kr.seqSkipQ (a' := ?_) (by rfl) ?_ ?_; rotate_left; (focus ((try simp only [Kr.PT]); first | done | rfl)))
        (refine Kr.seqQ (v := ?_) (a' := ?_) (by rfl) ?_ ?_ ?_; rotate_left 2; (focus (go_simp; first | done | rfl)); (focus ((try simp only [Kr.PT]); first | done | rfl)))
        refine Kr.seqDoneW ?_
        go_upto_region 8 with fail
        refine Kr.seqStartW ?_
        (refine Kr.seqQ (v := ?_) (a' := ?_) (by rfl) ?_ ?_ ?_; rotate_left 2; (focus (go_simp; first | done | rfl)); (focus ((try simp only [Kr.PT]); first | done | rfl)))
        refine Kr.seqDoneW ?_
        have hk := trivial
        go_wp2
        refine bodyPost_ret (v := .bool false) (by simp [results, Tryd.results38, go_sem, hk]) rfl ⟨rfl, H.g⟩
      replace n0 : tn = 0 := Decidable.of_not_not n0
      by_cases m0 : bl ≠ 0
      · have hr : RES = false := by rw [HR3.out, decide_eq_false m0, Bool.false_and, Bool.and_false]
        subst hr
        have C5 : (!decide (tn = 0)) = false := by rw [decide_eq_true n0]; rfl
        have C6 : decide ((0 : Int) < (bl : Int)) = true := decide_eq_true (by omega)
        have N0 := Lib.hid n0; clear n0
        go_upto_region 7 with fail
        refine Kr.seqStartW ?_
        (refine Kr.seqQ (v := ?_) (a' := ?_) (by rfl) ?_ ?_ ?_; rotate_left 2; (focus (go_simp; first | done | rfl)); (focus ((try simp only [Kr.PT]); first | done | rfl)))
        (refine Kr.seqQ (v := .bool false) (a' := ?_) (by rfl) ?_ ?_ ?_; rotate_left 1; (focus (exact Kr.valOf rfl (eqlI C4))); (focus ((try simp only [Kr.PT]); first | done | rfl)))
        (refine Kr.seqQ (v := ?_) (a' := ?_) (by rfl) ?_ ?_ ?_; rotate_left 2; (focus (go_simp; first | done | rfl)); (focus ((try simp only [Kr.PT]); first | done | rfl)))
        (refine Kr.seqQ (v := .pointer (some ⟨ba, 1, none⟩)) (a' := ?_) (by rfl) ?_ ?_ ?_; rotate_left 1; (focus (go_simp; first | done | rfl)); (focus ((try simp only [Kr.PT]); first | done | rfl)))
        (refine Kr.seqQ (v := .int .i64 tn) (a' := ?_) (by rfl) ?_ ?_ ?_; rotate_left 1; (focus (exact Kr.valOf rfl (ldInt (rowCell (j := 1) (H.at 0 rfl) rfl)))); (focus ((try simp only [Kr.PT]); first | done | rfl)))
        (refine Kr.seqQ (v := .bool false) (a' := ?_) (by rfl) ?_ ?_ ?_; rotate_left 1; (focus (exact Kr.valOf rfl (neqI C5))); (focus ((try simp only [Kr.PT]); first | done | rfl)))
        (refine Kr.seqQ (v := ?_) (a' := ?_) (by rfl) ?_ ?_ ?_; rotate_left 2; (focus (go_simp; first | done | rfl)); (focus ((try simp only [Kr.PT]); first | done | rfl)))
        (refine Kr.seqQ (v := ?_) (a' := ?_) (by rfl) ?_ ?_ ?_; rotate_left 2; (focus (go_simp; first | done | rfl)); (focus ((try simp only [Kr.PT]); first | done | rfl)))
        (refine Kr.seqQ (v := .pointer (some ⟨ba, 2, none⟩)) (a' := ?_) (by rfl) ?_ ?_ ?_; rotate_left 1; (focus (go_simp; first | done | rfl)); (focus ((try simp only [Kr.PT]); first | done | rfl)))
        (refine Kr.seqQ (v := .slice pb bl cb) (a' := ?_) (by rfl) ?_ ?_ ?_; rotate_left 1; (focus (exact Kr.valOf rfl (ldSl (rowCell (j := 2) (H.at 0 rfl) rfl)))); (focus ((try simp only [Kr.PT]); first | done | rfl)))
        (refine Kr.seqQ (v := .int .i64 (bl : Int)) (a' := ?_) (by rfl) ?_ ?_ ?_; rotate_left 1; (focus (exact Kr.valOf rfl ((by go_simp)))); (focus ((try simp only [Kr.PT]); first | done | rfl)))
        (refine Kr.seqQ (v := .bool true) (a' := ?_) (by rfl) ?_ ?_ ?_; rotate_left 1; (focus (exact Kr.valOf rfl (gtrI C6))); (focus ((try simp only [Kr.PT]); first | done | rfl)))
        (refine Kr.seqQ (v := ?_) (a' := ?_) (by rfl) ?_ ?_ ?_; rotate_left 2; (focus (go_simp; first | done | rfl)); (focus ((try simp only [Kr.PT]); first | done | rfl)))
        (refine Kr.seqQ (v := ?_) (a' := ?_) (by rfl) ?_ ?_ ?_; rotate_left 2; (focus (go_simp; first | done | rfl)); (focus ((try simp only [Kr.PT]); first | done | rfl)))
        (refine Kr.seqSkipQ (a' := ?_) (by rfl) ?_ ?_; rotate_left; (focus ((try simp only [Kr.PT]); first | done | rfl)))
        (refine Kr.seqSkipQ (a' := ?_) (by rfl) ?_ ?_; rotate_left; (focus ((try simp only [Kr.PT]); first | done | rfl)))
        (refine Kr.seqSkipQ (a' := ?_) (by rfl) ?_ ?_; rotate_left; (focus ((try simp only [Kr.PT]); first | done | rfl)))
        (refine Kr.seqSkipQ (a' := ?_) (by rfl) ?_ ?_; rotate_left; (focus ((try simp only [Kr.PT]); first | done | rfl)))
        (refine Kr.seqQ (v := ?_) (a' := ?_) (by rfl) ?_ ?_ ?_; rotate_left 2; (focus (go_simp; first | done | rfl)); (focus ((try simp only [Kr.PT]); first | done | rfl)))
        refine Kr.seqDoneW ?_
        go_upto_region 8 with fail
        refine Kr.seqStartW ?_
        (refine Kr.seqQ (v := ?_) (a' := ?_) (by rfl) ?_ ?_ ?_; rotate_left 2; (focus (go_simp; first | done | rfl)); (focus ((try simp only [Kr.PT]); first | done | rfl)))
        refine Kr.seqDoneW ?_
        have hk := trivial
        go_wp2
        refine bodyPost_ret (v := .bool false) (by simp [results, Tryd.results38, go_sem, hk]) rfl ⟨rfl, H.g⟩
      replace m0 : bl = 0 := Decidable.of_not_not m0
      by_cases q0 : ¬ ll ≤ 1000
      · have hr : RES = false := by rw [HR3.out, decide_eq_false q0, Bool.false_and, Bool.and_false, Bool.and_false]
        subst hr
        have C5 : (!decide (tn = 0)) = false := by rw [decide_eq_true n0]; rfl
        have C6 : decide ((0 : Int) < (bl : Int)) = false := decide_eq_false (by omega)
        have C7 : decide ((1000 : Int) < (ll : Int)) = true := decide_eq_true (by omega)
        have N0 := Lib.hid n0; have M0 := Lib.hid m0; clear n0 m0
        go_upto_region 7 with fail
        refine Kr.seqStartW ?_
        (refine Kr.seqQ (v := ?_) (a' := ?_) (by rfl) ?_ ?_ ?_; rotate_left 2; (focus (go_simp; first | done | rfl)); (focus ((try simp only [Kr.PT]); first | done | rfl)))
        (refine Kr.seqQ (v := .bool false) (a' := ?_) (by rfl) ?_ ?_ ?_; rotate_left 1; (focus (exact Kr.valOf rfl (eqlI C4))); (focus ((try simp only [Kr.PT]); first | done | rfl)))
        (refine Kr.seqQ (v := ?_) (a' := ?_) (by rfl) ?_ ?_ ?_; rotate_left 2; (focus (go_simp; first | done | rfl)); (focus ((try simp only [Kr.PT]); first | done | rfl)))
        (refine Kr.seqQ (v := .pointer (some ⟨ba, 1, none⟩)) (a' := ?_) (by rfl) ?_ ?_ ?_; rotate_left 1; (focus (go_simp; first | done | rfl)); (focus ((try simp only [Kr.PT]); first | done | rfl)))
        (refine Kr.seqQ (v := .int .i64 tn) (a' := ?_) (by rfl) ?_ ?_ ?_; rotate_left 1; (focus (exact Kr.valOf rfl (ldInt (rowCell (j := 1) (H.at 0 rfl) rfl)))); (focus ((try simp only [Kr.PT]); first | done | rfl)))
        (refine Kr.seqQ (v := .bool false) (a' := ?_) (by rfl) ?_ ?_ ?_; rotate_left 1; (focus (exact Kr.valOf rfl (neqI C5))); (focus ((try simp only [Kr.PT]); first | done | rfl)))
        (refine Kr.seqQ (v := ?_) (a' := ?_) (by rfl) ?_ ?_ ?_; rotate_left 2; (focus (go_simp; first | done | rfl)); (focus ((try simp only [Kr.PT]); first | done | rfl)))
        (refine Kr.seqQ (v := ?_) (a' := ?_) (by rfl) ?_ ?_ ?_; rotate_left 2; (focus (go_simp; first | done | rfl)); (focus ((try simp only [Kr.PT]); first | done | rfl)))
        (refine Kr.seqQ (v := .pointer (some ⟨ba, 2, none⟩)) (a' := ?_) (by rfl) ?_ ?_ ?_; rotate_left 1; (focus (go_simp; first | done | rfl)); (focus ((try simp only [Kr.PT]); first | done | rfl)))
        (refine Kr.seqQ (v := .slice pb bl cb) (a' := ?_) (by rfl) ?_ ?_ ?_; rotate_left 1; (focus (exact Kr.valOf rfl (ldSl (rowCell (j := 2) (H.at 0 rfl) rfl)))); (focus ((try simp only [Kr.PT]); first | done | rfl)))
        (refine Kr.seqQ (v := .int .i64 (bl : Int)) (a' := ?_) (by rfl) ?_ ?_ ?_; rotate_left 1; (focus (exact Kr.valOf rfl ((by go_simp)))); (focus ((try simp only [Kr.PT]); first | done | rfl)))
        (refine Kr.seqQ (v := .bool false) (a' := ?_) (by rfl) ?_ ?_ ?_; rotate_left 1; (focus (exact Kr.valOf rfl (gtrI C6))); (focus ((try simp only [Kr.PT]); first | done | rfl)))
        (refine Kr.seqQ (v := ?_) (a' := ?_) (by rfl) ?_ ?_ ?_; rotate_left 2; (focus (go_simp; first | done | rfl)); (focus ((try simp only [Kr.PT]); first | done | rfl)))
        (refine Kr.seqQ (v := ?_) (a' := ?_) (by rfl) ?_ ?_ ?_; rotate_left 2; (focus (go_simp; first | done | rfl)); (focus ((try simp only [Kr.PT]); first | done | rfl)))
        (refine Kr.seqQ (v := .pointer (some ⟨ba, 3, none⟩)) (a' := ?_) (by rfl) ?_ ?_ ?_; rotate_left 1; (focus (go_simp; first | done | rfl)); (focus ((try simp only [Kr.PT]); first | done | rfl)))
        (refine Kr.seqQ (v := .slice pl ll cl) (a' := ?_) (by rfl) ?_ ?_ ?_; rotate_left 1; (focus (exact Kr.valOf rfl (ldLs (rowCell (j := 3) (H.at 0 rfl) rfl)))); (focus ((try simp only [Kr.PT]); first | done | rfl)))
        (refine Kr.seqQ (v := .int .i64 (ll : Int)) (a' := ?_) (by rfl) ?_ ?_ ?_; rotate_left 1; (focus (exact Kr.valOf rfl ((by go_simp)))); (focus ((try simp only [Kr.PT]); first | done | rfl)))
        (refine Kr.seqQ (v := .bool true) (a' := ?_) (by rfl) ?_ ?_ ?_; rotate_left 1; (focus (exact Kr.valOf rfl (gtrI C7))); (focus ((try simp only [Kr.PT]); first | done | rfl)))
        (refine Kr.seqQ (v := ?_) (a' := ?_) (by rfl) ?_ ?_ ?_; rotate_left 2; (focus (go_simp; first | done | rfl)); (focus ((try simp only [Kr.PT]); first | done | rfl)))
        refine Kr.seqDoneW ?_
        go_upto_region 8 with fail
        refine Kr.seqStartW ?_
        (refine Kr.seqQ (v := ?_) (a' := ?_) (by rfl) ?_ ?_ ?_; rotate_left 2; (focus (go_simp; first | done | rfl)); (focus ((try simp only [Kr.PT]); first | done | rfl)))
        refine Kr.seqDoneW ?_
        have hk := trivial
        go_wp2
        refine bodyPost_ret (v := .bool false) (by simp [results, Tryd.results38, go_sem, hk]) rfl ⟨rfl, H.g⟩
      replace q0 : ll ≤ 1000 := Decidable.of_not_not q0
      have HBV : Hid (t.l.all (vld d) = RES) := Lib.hid (by rw [HR3.out, decide_eq_true n0, decide_eq_true m0, decide_eq_true q0, Bool.true_and, Bool.true_and, Bool.true_and])
      have C5 : (!decide (tn = 0)) = false := by rw [decide_eq_true n0]; rfl
      have C6 : decide ((0 : Int) < (bl : Int)) = false := decide_eq_false (by omega)
      have C7 : decide ((1000 : Int) < (ll : Int)) = false := decide_eq_false (by omega)
      have N0 := Lib.hid n0; have M0 := Lib.hid m0; clear n0 m0
      go_upto_region 7 with fail
      refine Kr.seqStartW ?_
      (refine Kr.seqQ (v := ?_) (a' := ?_) (by rfl) ?_ ?_ ?_; rotate_left 2; (focus (go_simp; first | done | rfl)); (focus ((try simp only [Kr.PT]); first | done | rfl)))
      (refine Kr.seqQ (v := .bool false) (a' := ?_) (by rfl) ?_ ?_ ?_; rotate_left 1; (focus (exact Kr.valOf rfl (eqlI C4))); (focus ((try simp only [Kr.PT]); first | done | rfl)))
      (refine Kr.seqQ (v := ?_) (a' := ?_) (by rfl) ?_ ?_ ?_; rotate_left 2; (focus (go_simp; first | done | rfl)); (focus ((try simp only [Kr.PT]); first | done | rfl)))
      (refine Kr.seqQ (v := .pointer (some ⟨ba, 1, none⟩)) (a' := ?_) (by rfl) ?_ ?_ ?_; rotate_left 1; (focus (go_simp; first | done | rfl)); (focus ((try simp only [Kr.PT]); first | done | rfl)))
      (refine Kr.seqQ (v := .int .i64 tn) (a' := ?_) (by rfl) ?_ ?_ ?_; rotate_left 1; (focus (exact Kr.valOf rfl (ldInt (rowCell (j := 1) (H.at 0 rfl) rfl)))); (focus ((try simp only [Kr.PT]); first | done | rfl)))
      (refine Kr.seqQ (v := .bool false) (a' := ?_) (by rfl) ?_ ?_ ?_; rotate_left 1; (focus (exact Kr.valOf rfl (neqI C5))); (focus ((try simp only [Kr.PT]); first | done | rfl)))
      (refine Kr.seqQ (v := ?_) (a' := ?_) (by rfl) ?_ ?_ ?_; rotate_left 2; (focus (go_simp; first | done | rfl)); (focus ((try simp only [Kr.PT]); first | done | rfl)))
      (refine Kr.seqQ (v := ?_) (a' := ?_) (by rfl) ?_ ?_ ?_; rotate_left 2; (focus (go_simp; first | done | rfl)); (focus ((try simp only [Kr.PT]); first | done | rfl)))
      (refine Kr.seqQ (v := .pointer (some ⟨ba, 2, none⟩)) (a' := ?_) (by rfl) ?_ ?_ ?_; rotate_left 1; (focus (go_simp; first | done | rfl)); (focus ((try simp only [Kr.PT]); first | done | rfl)))
      (refine Kr.seqQ (v := .slice pb bl cb) (a' := ?_) (by rfl) ?_ ?_ ?_; rotate_left 1; (focus (exact Kr.valOf rfl (ldSl (rowCell (j := 2) (H.at 0 rfl) rfl)))); (focus ((try simp only [Kr.PT]); first | done | rfl)))
      (refine Kr.seqQ (v := .int .i64 (bl : Int)) (a' := ?_) (by rfl) ?_ ?_ ?_; rotate_left 1; (focus (exact Kr.valOf rfl ((by go_simp)))); (focus ((try simp only [Kr.PT]); first | done | rfl)))
      (refine Kr.seqQ (v := .bool false) (a' := ?_) (by rfl) ?_ ?_ ?_; rotate_left 1; (focus (exact Kr.valOf rfl (gtrI C6))); (focus ((try simp only [Kr.PT]); first | done | rfl)))
      (refine Kr.seqQ (v := ?_) (a' := ?_) (by rfl) ?_ ?_ ?_; rotate_left 2; (focus (go_simp; first | done | rfl)); (focus ((try simp only [Kr.PT]); first | done | rfl)))
      (refine Kr.seqQ (v := ?_) (a' := ?_) (by rfl) ?_ ?_ ?_; rotate_left 2; (focus (go_simp; first | done | rfl)); (focus ((try simp only [Kr.PT]); first | done | rfl)))
      (refine Kr.seqQ (v := .pointer (some ⟨ba, 3, none⟩)) (a' := ?_) (by rfl) ?_ ?_ ?_; rotate_left 1; (focus (go_simp; first | done | rfl)); (focus ((try simp only [Kr.PT]); first | done | rfl)))
      (refine Kr.seqQ (v := .slice pl ll cl) (a' := ?_) (by rfl) ?_ ?_ ?_; rotate_left 1; (focus (exact Kr.valOf rfl (ldLs (rowCell (j := 3) (H.at 0 rfl) rfl)))); (focus ((try simp only [Kr.PT]); first | done | rfl)))
      (refine Kr.seqQ (v := .int .i64 (ll : Int)) (a' := ?_) (by rfl) ?_ ?_ ?_; rotate_left 1; (focus (exact Kr.valOf rfl ((by go_simp)))); (focus ((try simp only [Kr.PT]); first | done | rfl)))
      (refine Kr.seqQ (v := .bool false) (a' := ?_) (by rfl) ?_ ?_ ?_; rotate_left 1; (focus (exact Kr.valOf rfl (gtrI C7))); (focus ((try simp only [Kr.PT]); first | done | rfl)))
      (refine Kr.seqQ (v := ?_) (a' := ?_) (by rfl) ?_ ?_ ?_; rotate_left 2; (focus (go_simp; first | done | rfl)); (focus ((try simp only [Kr.PT]); first | done | rfl)))
      refine Kr.seqDoneW ?_
      go_upto_region 9 with fail
      refine Kr.seqStartW ?_
      (refine Kr.seqQ (v := .pointer (some ⟨ba, 3, none⟩)) (a' := ?_) (by rfl) ?_ ?_ ?_; rotate_left 1; (focus (go_simp; first | done | rfl)); (focus ((try simp only [Kr.PT]); first | done | rfl)))
      (refine Kr.seqQ (v := .slice pl ll cl) (a' := ?_) (by rfl) ?_ ?_ ?_; rotate_left 1; (focus (exact Kr.valOf rfl (ldLs (rowCell (j := 3) (H.at 0 rfl) rfl)))); (focus ((try simp only [Kr.PT]); first | done | rfl)))
      (refine Kr.seqQ (v := .int .i64 (ll : Int)) (a' := ?_) (by rfl) ?_ ?_ ?_; rotate_left 1; (focus (exact Kr.valOf rfl ((by go_simp)))); (focus ((try simp only [Kr.PT]); first | done | rfl)))
      (refine Kr.seqQ (v := ?_) (a' := ?_) (by rfl) ?_ ?_ ?_; rotate_left 2; (focus (go_simp; first | done | rfl)); (focus ((try simp only [Kr.PT]); first | done | rfl)))
      refine Kr.seqDoneW ?_
      clear C4 C5 C6 C7
      have H2 := Lib.hid H; clear H
      go_wp2_with fail
      go_loopw [56] (fun iv wr => ∃ (j : Nat), j ≤ ll ∧ iv = .int .i64 (j : Int) ∧ Hid (∀ i x, i < j → t.l[i]? = some x → vld d x = true) ∧ Hid (Ow w wr [(ba, 25, [.int .i64 tk, .int .i64 tn, .slice pb bl cb, .slice pl ll cl])])) (fun iv _ => (ll - (intOf iv).toNat))
      case atStart => exact ⟨0, by omega, rfl, Lib.hid (fun i x h => absurd h (Nat.not_lt_zero _)), H2⟩
      case round =>
        clear H2; obtain ⟨j, hj, rfl, HAL, HH⟩ := hrel; have H := HH.out; clear HH
        by_cases hje : j = ll
        · have C4 : decide ((j : Int) < (ll : Int)) = false := decide_eq_false (by omega)
          have hBt : RES = true := by
            rw [← HBV.out, List.all_eq_true]
            intro x hx
            obtain ⟨i, hi⟩ := List.getElem?_of_mem hx
            exact HAL.out i x (by have := (List.getElem?_eq_some_iff.1 hi).1; rw [HLL.out] at this; omega) hi
          subst hBt; clear hje
          go_upto_region 10 with fail
          refine Kr.seqStartW ?_
          (refine Kr.seqQ (v := .bool false) (a' := ?_) (by rfl) ?_ ?_ ?_; rotate_left 1; (focus (exact Kr.valOf rfl (lssT C4))); (focus ((try simp only [Kr.PT]); first | done | rfl)))
          refine Kr.seqDoneW ?_
          go_upto_region 15 with fail
          refine Kr.seqStartW ?_
          (refine Kr.seqQ (v := ?_) (a' := ?_) (by rfl) ?_ ?_ ?_; rotate_left 2; (focus (go_simp; first | done | rfl)); (focus ((try simp only [Kr.PT]); first | done | rfl)))
          refine Kr.seqDoneW ?_
          have hk := trivial
          go_wp2
          refine bodyPost_ret (v := .bool true) (by simp [results, Tryd.results38, go_sem, hk]) rfl ⟨rfl, H.g⟩
        · have hjl : j < ll := by omega
          have C4 : decide ((j : Int) < (ll : Int)) = true := decide_eq_true (by omega)
          clear hje
          obtain ⟨x, hx⟩ : ∃ x, t.l[j]? = some x := ⟨_, List.getElem?_eq_getElem (by rw [HLL.out]; exact hjl)⟩
          obtain ⟨b, off, v0, v1, v2, v3, hpl, hFb, c0, c1, c2, c3, hch⟩ := HLS.out j x hx
          subst hpl
          have HC0 := Lib.hid c0; have HC1 := Lib.hid c1; have HC2 := Lib.hid c2; have HC3 := Lib.hid c3; have HCH := Lib.hid hch; have HX := Lib.hid hx; clear c0 c1 c2 c3 hch hx hFb
          have HON : Hid (∀ v ∈ ([v0, v1, v2, v3] : List Value), v.oneCell' = true) := Lib.hid (ItV.one HCH.out)
          go_upto_region 10 with fail
          refine Kr.seqStartW ?_
          (refine Kr.seqQ (v := .bool true) (a' := ?_) (by rfl) ?_ ?_ ?_; rotate_left 1; (focus (exact Kr.valOf rfl (lssT C4))); (focus ((try simp only [Kr.PT]); first | done | rfl)))
          refine Kr.seqDoneW ?_
          go_upto_region 11 with fail
          refine Kr.seqStartW ?_
          (refine Kr.seqQ (v := .pointer (some ⟨b, off + j * 4, none⟩)) (a' := ?_) (by rfl) ?_ ?_ ?_; rotate_left 1; (focus (exact Kr.valOf rfl (ixI hjl))); (focus ((try simp only [Kr.PT]); first | done | rfl)))
          (refine Kr.seqQ (v := .agg #[v0, v1, v2, v3]) (a' := ?_) (by rfl) ?_ ?_ ?_; rotate_left 1; (focus (exact Kr.valOf rfl (ldItem (H.g.cell HC0.out) (H.g.cell HC1.out) (H.g.cell HC2.out) (H.g.cell HC3.out)))); (focus ((try simp only [Kr.PT]); first | done | rfl)))
          refine Kr.seqR (by rfl) (fun K hK => ?_)
          refine wp_runV rfl newI ?_
          obtain ⟨y2, hy⟩ : ∃ y, wr.alloc (.cells ([.int .i64 0, .int .i64 0, .slice none 0 0, .slice none 0 0]).toArray 25) = y := ⟨_, rfl⟩
          obtain ⟨bx, hb⟩ : ∃ b, wr.heap.size = b := ⟨_, rfl⟩
          rw [hy, hb]
          have hg : Gr wr y2 := hy ▸ (Gr.refl _).alloc _
          replace H := H.alloc hy hb
          clear hy hb hg
          (refine Kr.outS hK (a' := ?_) ?_ ?_; rotate_left; (focus ((try simp only [Kr.PT]); first | done | rfl))); clear hK K
          refine Kr.seqR (by rfl) (fun K hK => ?_)
          refine wp_run rfl (stI (H.at 0 rfl) HON.out) ?_
          obtain ⟨y3, hy⟩ : ∃ y, y2.setRow bx ([v0, v1, v2, v3]).toArray = y := ⟨_, rfl⟩
          rw [hy]
          replace H := H.put 0 hy rfl
          dsimp only [List.set] at H
          clear hy
          (refine Kr.outS hK (a' := ?_) ?_ ?_; rotate_left; (focus ((try simp only [Kr.PT]); first | done | rfl))); clear hK K
          refine Kr.seqDoneW ?_
          have hsub : IntKind.i64.wrap (((d + 1 : Nat) : Int) - 1) = (d : Int) := wrap_nat (by omega) (by omega)
          go_upto_region 12 with fail
          refine Kr.seqStartW ?_
          (refine Kr.seqQ (v := .agg #[v0, v1, v2, v3]) (a' := ?_) (by rfl) ?_ ?_ ?_; rotate_left 1; (focus (exact Kr.valOf rfl (ldI (H.at 0 rfl)))); (focus ((try simp only [Kr.PT]); first | done | rfl)))
          (refine Kr.seqQ (v := ?_) (a' := ?_) (by rfl) ?_ ?_ ?_; rotate_left 2; (focus (go_simp; first | done | rfl)); (focus ((try simp only [Kr.PT]); first | done | rfl)))
          (refine Kr.seqQ (v := .int .i64 (d : Int)) (a' := ?_) (by rfl) ?_ ?_ ?_; rotate_left 1; (focus (exact Kr.valOf rfl (subI hsub))); (focus ((try simp only [Kr.PT]); first | done | rfl)))
          refine Kr.seqR (by rfl) (fun K hK => ?_)
          go_simp
          go_at_call 38
          have hP := ih d rfl (w := y3) (HCH.out.grow H.g)
          obtain ⟨bx0, hbx0⟩ : ∃ z, vld d x = z := ⟨_, rfl⟩; rw [hbx0] at hP; have HBX := Lib.hid hbx0; clear hbx0
          refine (hP).mono ?_
          rintro e y4 ⟨rfl, hg⟩
          replace H := H.grow hg
          clear hg
          clear hP
          (refine Kr.outS hK (a' := ?_) ?_ ?_; rotate_left; (focus ((try simp only [Kr.PT]); first | done | rfl))); clear hK K
          (refine Kr.seqQ (v := .bool (!bx0)) (a' := ?_) (by rfl) ?_ ?_ ?_; rotate_left 1; (focus (exact Kr.valOf rfl ((by cases bx0 <;> go_simp)))); (focus ((try simp only [Kr.PT]); first | done | rfl)))
          refine Kr.seqDoneW ?_
          cases bx0
          · have hBt : RES = false := by
              rw [← HBV.out, List.all_eq_false]
              exact ⟨x, List.mem_of_getElem? HX.out, by rw [HBX.out]; exact Bool.false_ne_true⟩
            subst hBt
            go_upto_region 13 with fail
            refine Kr.seqStartW ?_
            (refine Kr.seqQ (v := ?_) (a' := ?_) (by rfl) ?_ ?_ ?_; rotate_left 2; (focus (go_simp; first | done | rfl)); (focus ((try simp only [Kr.PT]); first | done | rfl)))
            refine Kr.seqDoneW ?_
            have hk := trivial
            go_wp2
            refine bodyPost_ret (v := .bool false) (by simp [results, Tryd.results38, go_sem, hk]) rfl ⟨rfl, H.g⟩
          · have HAL2 : Hid (∀ i y, i < j + 1 → t.l[i]? = some y → vld d y = true) := Lib.hid (fun i y hi hy => by
              rcases (by omega : i < j ∨ i = j) with h | h
              · exact HAL.out i y h hy
              · rw [h, HX.out] at hy; cases hy; exact HBX.out)
            replace H := H.drop 1; dsimp only [List.drop] at H
            have HADD : IntKind.i64.wrap ((j : Int) + 1) = ((j + 1 : Nat) : Int) := wrap_nat (by omega) (by omega)
            go_upto_region 14 with fail
            refine Kr.seqStartW ?_
            (refine Kr.seqQ (v := .int .i64 ((j + 1 : Nat) : Int)) (a' := ?_) (by rfl) ?_ ?_ ?_; rotate_left 1; (focus (exact Kr.valOf rfl (addI HADD))); (focus ((try simp only [Kr.PT]); first | done | rfl)))
            (refine Kr.seqQ (v := ?_) (a' := ?_) (by rfl) ?_ ?_ ?_; rotate_left 2; (focus (go_simp; first | done | rfl)); (focus ((try simp only [Kr.PT]); first | done | rfl)))
            refine Kr.seqDoneW ?_
            go_wp2; go_roundw
            case rel =>
              first
              | exact ⟨j + 1, by omega, rfl, HAL2, Lib.hid H⟩
              | (repeat apply Exists.intro); exact ⟨⟨j + 1, by omega, rfl, HAL2, Lib.hid H⟩, rfl⟩
              | (repeat apply Exists.intro); refine ⟨⟨j + 1, by omega, rfl, HAL2, Lib.hid H⟩, ?_⟩; refine ⟨?_, ?_⟩ <;> (repeat apply And.intro) <;> rfl
            case measure => simp [intOf]; omega
  have C1 : decide (tk = 1) = false := decide_eq_false (by exact k1)
  have C2 : decide (tk = 2) = false := decide_eq_false (by exact k2)
  have C3 : decide (tk = 3) = false := decide_eq_false (by exact k3)
  have hr : RES = false := by rw [← HRES.out]; exact vldN (by rw [HTK.out]; exact k1) (by rw [HTK.out]; exact k2) (by rw [HTK.out]; exact k3) d
  subst hr; clear k1 k2 k3
  go_upto_region 2 with fail
  refine Kr.seqStartW ?_
  (refine Kr.seqQ (v := .bool false) (a' := ?_) (by rfl) ?_ ?_ ?_; rotate_left 1; (focus (exact Kr.valOf rfl (eqlI C1))); (focus ((try simp only [Kr.PT]); first | done | rfl)))
  (refine Kr.seqQ (v := ?_) (a' := ?_) (by rfl) ?_ ?_ ?_; rotate_left 2; (focus (go_simp; first | done | rfl)); (focus ((try simp only [Kr.PT]); first | done | rfl)))
  refine Kr.seqDoneW ?_
  go_upto_region 4 with fail
  refine Kr.seqStartW ?_
  (refine Kr.seqQ (v := .bool false) (a' := ?_) (by rfl) ?_ ?_ ?_; rotate_left 1; (focus (exact Kr.valOf rfl (eqlI C2))); (focus ((try simp only [Kr.PT]); first | done | rfl)))
  (refine Kr.seqQ (v := ?_) (a' := ?_) (by rfl) ?_ ?_ ?_; rotate_left 2; (focus (go_simp; first | done | rfl)); (focus ((try simp only [Kr.PT]); first | done | rfl)))
  refine Kr.seqDoneW ?_
  go_upto_region 6 with fail
  refine Kr.seqStartW ?_
  (refine Kr.seqQ (v := .bool false) (a' := ?_) (by rfl) ?_ ?_ ?_; rotate_left 1; (focus (exact Kr.valOf rfl (eqlI C3))); (focus ((try simp only [Kr.PT]); first | done | rfl)))
  (refine Kr.seqQ (v := ?_) (a' := ?_) (by rfl) ?_ ?_ ?_; rotate_left 2; (focus (go_simp; first | done | rfl)); (focus ((try simp only [Kr.PT]); first | done | rfl)))
  refine Kr.seqDoneW ?_
  go_upto_region 16 with fail
  refine Kr.seqStartW ?_
  (refine Kr.seqQ (v := ?_) (a' := ?_) (by rfl) ?_ ?_ ?_; rotate_left 2; (focus (go_simp; first | done | rfl)); (focus ((try simp only [Kr.PT]); first | done | rfl)))
  refine Kr.seqDoneW ?_
  have hk := trivial
  go_wp2
  refine bodyPost_ret (v := .bool false) (by simp [results, Tryd.results38, go_sem, hk]) rfl ⟨rfl, H.g⟩
theorem within_v : ∀ {d : Nat}, d ≤ 8 → ∀ {k : Nat} {F : Nat → Prop} {v : Value} {t : It} {w : World}, ItV w k F v t →
    Calls Tryd.prog 38 #[v, .int .i64 (d : Int)] w fun e w' => e = .returned (.bool (vld d t)) ∧ Gr w w'
  | 0, h, _, _, _, _, _, hI => within_step h (fun e he => by omega) hI
  | d + 1, h, _, _, _, _, _, hI => within_step h (fun e he => by
      obtain rfl : e = d := by omega
      exact within_v (by omega)) hI

end Go.Proofs.YtlollhmheakcfaaDoor.Dg


/- Valid, writeNumber. -/
namespace Go.Proofs.YtlollhmheakcfaaDoor.Dg
open Go Go.RowKit Go.Proofs.YtlollhmheakcfaaDoor.Ne Go.Proofs.YtlollhmheakcfaaDoor.Kr

theorem shrZ {w : World} {x q : Int} {k : Nat} (hk : k < 64) (hq : x / 2 ^ k = q) : (binOp .shr 3 (.int .i64 x) (.int .i64 (k : Int))).run Tryd.prog w = .ok (.int .i64 q) w := by
  have h1 : ¬ ((k : Int) < 0) := by omega
  have h2 : (k : Int) < 64 := by omega
  have h3 : (k : Int).toNat = k := by omega
  clear hk
  go_simp
theorem convZ8 {w : World} {q : Int} {z : BitVec 8} (h : BitVec.ofInt 8 q = z) : (convert 3 5 (.int .i64 q)).run Tryd.prog w = .ok (.int .u8 (z.toNat : Int)) w := by
  have e : IntKind.u8.wrap q = (z.toNat : Int) := by
    rw [← h, IntKind.wrap_u8', BitVec.toNat_ofInt]
    omega
  clear h
  go_simp
def byt (n : Int) (j : Nat) : BitVec 8 := BitVec.ofInt 8 (n / 2 ^ (8 * j))
/-- A number in so many bytes, the greatest first. -/
def beI (m : Nat) (n : Int) : List (BitVec 8) := (List.range m).map fun i => byt n (m - 1 - i)
theorem beI_length (m : Nat) (n : Int) : (beI m n).length = m := by simp [beI]
theorem beI_take {m i : Nat} (n : Int) (h : i < m) : (beI m n).take (i + 1) = (beI m n).take i ++ [byt n (m - 1 - i)] := by
  rw [List.take_add_one]
  congr 1
  simp [beI, h]
def encL (t : It) : List (BitVec 8) := if t.k = 1 then 1 :: beI 8 t.n else 2 :: (beI 4 (t.b.length : Int) ++ t.b)
/-- The encoding of a valid item. -/
def enc : Nat → It → List (BitVec 8)
  | 0, t => encL t
  | d + 1, t => if t.k = 3 then 3 :: (beI 4 (t.l.length : Int) ++ t.l.flatMap (enc d)) else encL t
theorem enc1 {t : It} (h : t.k = 1) : ∀ d, enc d t = 1 :: beI 8 t.n
  | 0 => by simp [enc, encL, h]
  | d + 1 => by simp [enc, encL, h]
theorem enc2 {t : It} (h : t.k = 2) : ∀ d, enc d t = 2 :: (beI 4 (t.b.length : Int) ++ t.b)
  | 0 => by simp [enc, encL, h]
  | d + 1 => by simp [enc, encL, h]
theorem enc3 {t : It} (h : t.k = 3) (d : Nat) : enc (d + 1) t = 3 :: (beI 4 (t.l.length : Int) ++ t.l.flatMap (enc d)) := by simp [enc, h]
theorem vld_cases : ∀ {d : Nat} {t : It}, vld d t = true → t.k = 1 ∨ t.k = 2 ∨ (t.k = 3 ∧ ∃ e, d = e + 1 ∧ t.l.length ≤ 1000 ∧ ∀ x ∈ t.l, vld e x = true)
  | 0, t, h => by
    by_cases h1 : t.k = 1
    · exact .inl h1
    by_cases h2 : t.k = 2
    · exact .inr (.inl h2)
    simp [vld, leaf, h1, h2] at h
  | d + 1, t, h => by
    by_cases h1 : t.k = 1
    · exact .inl h1
    by_cases h2 : t.k = 2
    · exact .inr (.inl h2)
    by_cases h3 : t.k = 3
    · refine .inr (.inr ⟨h3, d, rfl, ?_⟩)
      rw [vld3 h3] at h
      simp only [Bool.and_eq_true, decide_eq_true_eq, List.all_eq_true] at h
      exact ⟨h.2.2.1, h.2.2.2⟩
    · rw [vldN h1 h2 h3] at h; cases h
/-- The encodings of the first j items. -/
def fl (d : Nat) (l : List It) (j : Nat) : List (BitVec 8) := (l.take j).flatMap (enc d)
theorem fl_succ {d : Nat} {l : List It} {j : Nat} {x : It} (h : l[j]? = some x) : fl d l (j + 1) = fl d l j ++ enc d x := by
  unfold fl
  rw [List.take_add_one, h, List.flatMap_append]
  simp
theorem fl_all (d : Nat) (l : List It) {j : Nat} (h : l.length ≤ j) : fl d l j = l.flatMap (enc d) := by
  unfold fl; rw [List.take_of_length_le h]
theorem fl_le (d : Nat) (l : List It) (j : Nat) : (fl d l j).length ≤ (l.flatMap (enc d)).length := by
  conv => rhs; rw [← List.take_append_drop j l]
  rw [List.flatMap_append, List.length_append]
  exact Nat.le_add_right _ _
theorem src_item {W : World} {F : Nat → Prop} {pb : Option Addr} {l : List (BitVec 8)} (h : l = [] ∨ ∃ b off, pb = some ⟨b, off, none⟩ ∧ F b ∧ BytesAt b off l W) : SrcB pb l W := h.imp id (fun ⟨b, off, e, _, h⟩ => ⟨b, off, e, h⟩)

set_option linter.unusedSimpArgs false in
set_option maxRecDepth 100000 in
set_option maxHeartbeats 16000000 in
theorem Valid_v {k : Nat} {F : Nat → Prop} {v : Value} {t : It} {w : World} (hI : ItV w k F v t) :
    Calls Tryd.prog 14 #[v] w fun e w' => e = .returned (.bool (vld 8 t)) ∧ Gr w w' := by
  have hI0 := hI
  obtain ⟨k0, rfl⟩ : ∃ k0, k = k0 + 1 := by cases k with
    | zero => exact hI.elim
    | succ k0 => exact ⟨k0, rfl⟩
  obtain ⟨pb, cb, pl, cl, hv, hk1, hn1, hpb, hcb, hbl, hll, hB, hL⟩ := hI; subst hv
  obtain ⟨tk, htk⟩ : ∃ z, t.k = z := ⟨_, rfl⟩; obtain ⟨tn, htn⟩ : ∃ z, t.n = z := ⟨_, rfl⟩; obtain ⟨bl, hbl2⟩ : ∃ z, t.b.length = z := ⟨_, rfl⟩; obtain ⟨ll, hll2⟩ : ∃ z, t.l.length = z := ⟨_, rfl⟩
  rw [htk] at hk1; rw [htn] at hn1; rw [hbl2] at hcb hbl; rw [hll2] at hll; have HTK := Lib.hid htk; have HTN := Lib.hid htn; have HBL := Lib.hid hbl2; have HLL := Lib.hid hll2; have HBB := Lib.hid hB; have HLS := Lib.hid hL; have HPB := Lib.hid hpb; have HI1 := Lib.hid hk1; have HI2 := Lib.hid hn1; rw [htk, htn, hbl2, hll2] at hI0; rw [htk, htn, hbl2, hll2]; clear htk htn hbl2 hll2 hB hL hpb hk1 hn1
  have hW := fun (W : World) (g : Gr w W) => within_v (d := 8) (Nat.le_refl _) (hI0.grow g)
  obtain ⟨RES, hRS⟩ : ∃ z, vld 8 t = z := ⟨_, rfl⟩; rw [hRS] at hW ⊢; have HW := Lib.hid hW; clear hRS hW hI0
  have H := Ow.start w
  go_enter Tryd.func14, Tryd.ntmps14
  go_upto_region 0 with fail
  refine Kr.seqStartW ?_
  refine Kr.seqR (by rfl) (fun K hK => ?_)
  refine wp_runV rfl boxI ?_
  obtain ⟨y1, hy⟩ : ∃ y, w.alloc (.cells ([.int .i64 tk, .int .i64 tn, .slice pb bl cb, .slice pl ll cl]).toArray 25) = y := ⟨_, rfl⟩
  obtain ⟨ba, hb⟩ : ∃ b, w.heap.size = b := ⟨_, rfl⟩
  rw [hy, hb]
  have hg : Gr w y1 := hy ▸ (Gr.refl _).alloc _
  replace H := H.alloc hy hb
  clear hy hb hg
  (refine Kr.outS hK (a' := ?_) ?_ ?_; rotate_left; (focus ((try simp only [Kr.PT]); first | done | rfl))); clear hK K
  (refine Kr.seqQ (v := ?_) (a' := ?_) (by rfl) ?_ ?_ ?_; rotate_left 2; (focus (go_simp; first | done | rfl)); (focus ((try simp only [Kr.PT]); first | done | rfl)))
  refine Kr.seqDoneW ?_
  go_upto_region 1 with fail
  refine Kr.seqStartW ?_
  (refine Kr.seqQ (v := .agg #[.int .i64 tk, .int .i64 tn, .slice pb bl cb, .slice pl ll cl]) (a' := ?_) (by rfl) ?_ ?_ ?_; rotate_left 1; (focus (exact Kr.valOf rfl (ldI (H.at 0 rfl)))); (focus ((try simp only [Kr.PT]); first | done | rfl)))
  refine Kr.seqR (by rfl) (fun K hK => ?_)
  go_simp
  go_at_call 38
  refine (HW.out _ H.g).mono ?_
  rintro e y2 ⟨rfl, hg⟩
  replace H := H.grow hg
  clear hg
  (refine Kr.outS hK (a' := ?_) ?_ ?_; rotate_left; (focus ((try simp only [Kr.PT]); first | done | rfl))); clear hK K
  (refine Kr.seqQ (v := ?_) (a' := ?_) (by rfl) ?_ ?_ ?_; rotate_left 2; (focus (go_simp; first | done | rfl)); (focus ((try simp only [Kr.PT]); first | done | rfl)))
  refine Kr.seqDoneW ?_
  have hk := trivial
  go_wp2
  refine bodyPost_ret (v := .bool RES) (by simp [results, Tryd.results14, go_sem, hk]) rfl ⟨rfl, H.g⟩
set_option linter.unusedSimpArgs false in
set_option maxRecDepth 100000 in
set_option maxHeartbeats 16000000 in
theorem wnum_v {w0 w : World} {rs : List Blk} {v : Value} {r : List Value} {n : Int} {m : Nat} (H : Ow w0 w rs) (HR : RowG 5 w0.heap.size v r w) (HA : Apt v rs) (hm : m ≤ 8) (hb : r.length ≤ 99999900) :
    Calls Tryd.prog 47 #[v, .int .i64 n, .int .i64 (m : Int)] w fun e w' => ∃ v2, e = .returned v2 ∧ RowG 5 w0.heap.size v2 (r ++ (beI m n).map w8) w' ∧ Apt v2 rs ∧ Ow w0 w' rs := by
  obtain ⟨R, hR⟩ : ∃ R, beI m n = R := ⟨_, rfl⟩
  have hRl : R.length = m := by rw [← hR]; exact beI_length _ _
  rw [hR]; have HRE := Lib.hid hR; clear hR; have HR0 := Lib.hid HR; clear HR; have HA0 := Lib.hid HA; clear HA
  have hm1 : IntKind.i64.wrap ((m : Int) - 1) = (m : Int) - 1 := IntWalk.i64_in _ (by omega)
  go_enter Tryd.func47, Tryd.ntmps47
  go_upto_region 0 with fail
  refine Kr.seqStartW ?_
  (refine Kr.seqQ (v := ?_) (a' := ?_) (by rfl) ?_ ?_ ?_; rotate_left 2; (focus (go_simp; first | done | rfl)); (focus ((try simp only [Kr.PT]); first | done | rfl)))
  refine Kr.seqDoneW ?_
  go_upto_region 1 with fail
  refine Kr.seqStartW ?_
  (refine Kr.seqQ (v := ?_) (a' := ?_) (by rfl) ?_ ?_ ?_; rotate_left 2; (focus (go_simp; first | done | rfl)); (focus ((try simp only [Kr.PT]); first | done | rfl)))
  (refine Kr.seqQ (v := .int .i64 ((m : Int) - 1)) (a' := ?_) (by rfl) ?_ ?_ ?_; rotate_left 1; (focus (exact Kr.valOf rfl (subI hm1))); (focus ((try simp only [Kr.PT]); first | done | rfl)))
  (refine Kr.seqQ (v := ?_) (a' := ?_) (by rfl) ?_ ?_ ?_; rotate_left 2; (focus (go_simp; first | done | rfl)); (focus ((try simp only [Kr.PT]); first | done | rfl)))
  refine Kr.seqDoneW ?_
  have H2 := Lib.hid H; clear H hm1
  go_wp2_with fail
  go_loopw [0, 7] (fun v iv wr => ∃ (j : Nat) (i : Int), j ≤ m ∧ i + j = (m : Int) - 1 ∧ iv = .int .i64 i ∧ Hid (RowG 5 w0.heap.size v (r ++ (R.take j).map w8) wr) ∧ Hid (Apt v rs) ∧ Hid (Ow w0 wr rs)) (fun _ iv _ => (intOf iv + 1).toNat)
  case atStart => exact ⟨0, (m : Int) - 1, by omega, by omega, rfl, by rw [List.take_zero, List.map_nil, List.append_nil]; exact HR0, HA0, H2⟩
  case round =>
    clear H2 HR0 HA0; obtain ⟨j, i, hj, hij, rfl, HR, HA, HH⟩ := hrel; have H := HH.out; replace HA := HA.out; clear HH
    have htl : (R.take j).length = j := by rw [List.length_take, hRl]; omega
    by_cases hje : j = m
    · have HC : decide ((0 : Int) ≤ i) = false := decide_eq_false (by omega)
      rw [show R.take j = R from List.take_of_length_le (by omega)] at HR
      clear hje htl
      go_upto_region 2 with fail
      refine Kr.seqStartW ?_
      (refine Kr.seqQ (v := ?_) (a' := ?_) (by rfl) ?_ ?_ ?_; rotate_left 2; (focus (go_simp; first | done | rfl)); (focus ((try simp only [Kr.PT]); first | done | rfl)))
      (refine Kr.seqQ (v := .bool false) (a' := ?_) (by rfl) ?_ ?_ ?_; rotate_left 1; (focus (exact Kr.valOf rfl (geqI HC))); (focus ((try simp only [Kr.PT]); first | done | rfl)))
      refine Kr.seqDoneW ?_
      go_upto_region 5 with fail
      refine Kr.seqStartW ?_
      (refine Kr.seqQ (v := ?_) (a' := ?_) (by rfl) ?_ ?_ ?_; rotate_left 2; (focus (go_simp; first | done | rfl)); (focus ((try simp only [Kr.PT]); first | done | rfl)))
      (refine Kr.seqQ (v := ?_) (a' := ?_) (by rfl) ?_ ?_ ?_; rotate_left 2; (focus (go_simp; first | done | rfl)); (focus ((try simp only [Kr.PT]); first | done | rfl)))
      refine Kr.seqDoneW ?_
      have hk := trivial
      go_wp2
      refine bodyPost_ret (v := u0) (by simp [results, Tryd.results47, go_sem, hk]) rfl ⟨_, rfl, HR.out, HA, H⟩
    · have hjl : j < m := by omega
      obtain ⟨k, rfl⟩ : ∃ k : Nat, i = (k : Int) := ⟨i.toNat, by omega⟩
      have HC : decide ((0 : Int) ≤ (k : Int)) = true := decide_eq_true (by omega)
      have hk7 : m - 1 - j = k := by omega
      obtain ⟨kk, hkk⟩ : ∃ z, 8 * k = z := ⟨_, rfl⟩; obtain ⟨q, hq⟩ : ∃ z, n / 2 ^ kk = z := ⟨_, rfl⟩; obtain ⟨z, hz⟩ : ∃ z, BitVec.ofInt 8 q = z := ⟨_, rfl⟩
      have hzb : byt n (m - 1 - j) = z := by unfold byt; rw [hk7, hkk, hq, hz]
      have htk : r ++ (R.take (j + 1)).map w8 = (r ++ (R.take j).map w8) ++ [w8 z] := by rw [← HRE.out, beI_take n hjl, hzb, List.map_append, List.append_assoc]; rfl
      have hmul : IntKind.i64.wrap ((8 : Int) * (k : Int)) = (kk : Int) := wrap_nat (by omega) (by omega)
      obtain ⟨i2, hi2⟩ : ∃ i2 : Int, (k : Int) - 1 = i2 := ⟨_, rfl⟩
      have hsub : IntKind.i64.wrap ((k : Int) - 1) = i2 := by rw [hi2]; exact IntWalk.i64_in _ (by omega)
      have HQ := Lib.hid hq; clear hq; have HZB := Lib.hid hzb; clear hzb; have HTK := Lib.hid htk; clear htk
      go_upto_region 2 with fail
      refine Kr.seqStartW ?_
      (refine Kr.seqQ (v := ?_) (a' := ?_) (by rfl) ?_ ?_ ?_; rotate_left 2; (focus (go_simp; first | done | rfl)); (focus ((try simp only [Kr.PT]); first | done | rfl)))
      (refine Kr.seqQ (v := .bool true) (a' := ?_) (by rfl) ?_ ?_ ?_; rotate_left 1; (focus (exact Kr.valOf rfl (geqI HC))); (focus ((try simp only [Kr.PT]); first | done | rfl)))
      refine Kr.seqDoneW ?_
      go_upto_region 4 with fail
      refine Kr.seqStartW ?_
      (refine Kr.seqQ (v := ?_) (a' := ?_) (by rfl) ?_ ?_ ?_; rotate_left 2; (focus (go_simp; first | done | rfl)); (focus ((try simp only [Kr.PT]); first | done | rfl)))
      (refine Kr.seqQ (v := ?_) (a' := ?_) (by rfl) ?_ ?_ ?_; rotate_left 2; (focus (go_simp; first | done | rfl)); (focus ((try simp only [Kr.PT]); first | done | rfl)))
      (refine Kr.seqQ (v := ?_) (a' := ?_) (by rfl) ?_ ?_ ?_; rotate_left 2; (focus (go_simp; first | done | rfl)); (focus ((try simp only [Kr.PT]); first | done | rfl)))
      (refine Kr.seqQ (v := .int .i64 (kk : Int)) (a' := ?_) (by rfl) ?_ ?_ ?_; rotate_left 1; (focus (exact Kr.valOf rfl (mulI hmul))); (focus ((try simp only [Kr.PT]); first | done | rfl)))
      (refine Kr.seqQ (v := .int .i64 q) (a' := ?_) (by rfl) ?_ ?_ ?_; rotate_left 1; (focus (exact Kr.valOf rfl (shrZ (by omega) HQ.out))); (focus ((try simp only [Kr.PT]); first | done | rfl)))
      (refine Kr.seqQ (v := .int .u8 ((z).toNat : Int)) (a' := ?_) (by rfl) ?_ ?_ ?_; rotate_left 1; (focus (exact Kr.valOf rfl (convZ8 hz))); (focus ((try simp only [Kr.PT]); first | done | rfl)))
      refine Kr.seqR (by rfl) (fun K hK => ?_)
      go_simp
      obtain ⟨y1, hy⟩ : ∃ y, wr.alloc (.cells #[.int .u8 ((z).toNat : Int)] 5) = y := ⟨_, rfl⟩
      obtain ⟨bone, hbn⟩ : ∃ b, wr.heap.size = b := ⟨_, rfl⟩
      rw [hy, hbn]
      have hy2 : wr.alloc (.cells ([.int .u8 ((z).toNat : Int)] : List Value).toArray 5) = y1 := hy
      have hg : Gr wr y1 := hy ▸ (Gr.refl _).alloc _
      have HLIT := Lib.hid (hbn ▸ hy2 ▸ lit_src (W := wr) (T := 5) [.int .u8 ((z).toNat : Int)]); clear hy2
      replace H := H.grow hg
      replace HR := Lib.hid (HR.out.grow hg)
      clear hg hy hbn
      (refine Kr.outS hK (a' := ?_) ?_ ?_; rotate_left; (focus ((try simp only [Kr.PT]); first | done | rfl))); clear hK K
      refine Kr.seqR (by rfl) (fun K hK => ?_)
      refine wp_appG (T := 5) (TS := 22) Tryd.underlying22 info8 rfl (.tmp 14) (.tmp 20) rfl (v := u0) (r := (r ++ (R.take j).map w8)) (d := [w8 z]) (p := (some ⟨bone, 0, none⟩)) (m := 1) (c := 1) (rs := (rs)) rfl rfl (rfl) (HLIT.out) (one_lit8 [z]) (fun e => by cases e) H HR.out HA (by rw [List.length_append, List.length_map, htl]; omega) (by decide) ?_
      intro q3 y2 H3 hR3 hA3
      clear H HR HA HLIT; have H := H3; have HR := Lib.hid hR3; have HA := hA3; clear H3 hR3 hA3
      (refine Kr.outS hK (a' := ?_) ?_ ?_; rotate_left; (focus ((try simp only [Kr.PT]); first | done | rfl))); clear hK K
      (refine Kr.seqQ (v := ?_) (a' := ?_) (by rfl) ?_ ?_ ?_; rotate_left 2; (focus (go_simp; first | done | rfl)); (focus ((try simp only [Kr.PT]); first | done | rfl)))
      refine Kr.seqDoneW ?_
      rw [← HTK.out] at HR
      go_upto_region 3 with fail
      refine Kr.seqStartW ?_
      (refine Kr.seqQ (v := ?_) (a' := ?_) (by rfl) ?_ ?_ ?_; rotate_left 2; (focus (go_simp; first | done | rfl)); (focus ((try simp only [Kr.PT]); first | done | rfl)))
      (refine Kr.seqQ (v := .int .i64 i2) (a' := ?_) (by rfl) ?_ ?_ ?_; rotate_left 1; (focus (exact Kr.valOf rfl (subI hsub))); (focus ((try simp only [Kr.PT]); first | done | rfl)))
      (refine Kr.seqQ (v := ?_) (a' := ?_) (by rfl) ?_ ?_ ?_; rotate_left 2; (focus (go_simp; first | done | rfl)); (focus ((try simp only [Kr.PT]); first | done | rfl)))
      refine Kr.seqDoneW ?_
      go_wp2; go_roundw
      case rel =>
        first
        | exact ⟨j + 1, i2, by omega, by omega, rfl, HR, Lib.hid HA, Lib.hid H⟩
        | (repeat apply Exists.intro); exact ⟨⟨j + 1, i2, by omega, by omega, rfl, HR, Lib.hid HA, Lib.hid H⟩, rfl⟩
        | (repeat apply Exists.intro); refine ⟨⟨j + 1, i2, by omega, by omega, rfl, HR, Lib.hid HA, Lib.hid H⟩, ?_⟩; refine ⟨?_, ?_⟩ <;> (repeat apply And.intro) <;> rfl
      case measure => simp [intOf]; omega
end Go.Proofs.YtlollhmheakcfaaDoor.Dg


/- write. -/
namespace Go.Proofs.YtlollhmheakcfaaDoor.Dg
open Go Go.RowKit Go.Proofs.YtlollhmheakcfaaDoor.Ne Go.Proofs.YtlollhmheakcfaaDoor.Kr

set_option linter.unusedSimpArgs false in
set_option maxRecDepth 100000 in
set_option maxHeartbeats 16000000 in
theorem write_step {d : Nat} (ih : ∀ e, e + 1 = d → ∀ {w0 w : World} {rs : List Blk} {v : Value} {r : List Value} {k : Nat} {F : Nat → Prop} {val : Value} {t : It} (_ : Ow w0 w rs) (_ : RowG 5 w0.heap.size v r w) (_ : Apt v rs) (_ : ItV w0 k F val t) (_ : vld e t = true) (_ : r.length + (enc e t).length ≤ 99999900), Calls Tryd.prog 36 #[v, val] w fun o w' => ∃ v2, o = .returned v2 ∧ RowG 5 w0.heap.size v2 (r ++ (enc e t).map w8) w' ∧ Apt v2 rs ∧ Ow w0 w' rs)
    {w0 w : World} {rs : List Blk} {v : Value} {r : List Value} {k : Nat} {F : Nat → Prop} {val : Value} {t : It} (H : Ow w0 w rs) (HR : RowG 5 w0.heap.size v r w) (HA : Apt v rs) (hI : ItV w0 k F val t) (hv : vld d t = true) (hb : r.length + (enc d t).length ≤ 99999900) :
    Calls Tryd.prog 36 #[v, val] w fun e w' => ∃ v2, e = .returned v2 ∧ RowG 5 w0.heap.size v2 (r ++ (enc d t).map w8) w' ∧ Apt v2 rs ∧ Ow w0 w' rs := by
  obtain ⟨k0, rfl⟩ : ∃ k0, k = k0 + 1 := by cases k with
    | zero => exact hI.elim
    | succ k0 => exact ⟨k0, rfl⟩
  obtain ⟨pb, cb, pl, cl, hv, hk1, hn1, hpb, hcb, hbl, hll, hB, hL⟩ := hI; subst hv
  obtain ⟨tk, htk⟩ : ∃ z, t.k = z := ⟨_, rfl⟩; obtain ⟨tn, htn⟩ : ∃ z, t.n = z := ⟨_, rfl⟩; obtain ⟨bl, hbl2⟩ : ∃ z, t.b.length = z := ⟨_, rfl⟩; obtain ⟨ll, hll2⟩ : ∃ z, t.l.length = z := ⟨_, rfl⟩
  rw [htk] at hk1; rw [htn] at hn1; rw [hbl2] at hcb hbl; rw [hll2] at hll; have HTK := Lib.hid htk; have HTN := Lib.hid htn; have HBL := Lib.hid hbl2; have HLL := Lib.hid hll2; have HBB := Lib.hid hB; have HLS := Lib.hid hL; have HPB := Lib.hid hpb; have HI1 := Lib.hid hk1; have HI2 := Lib.hid hn1; rw [htk, htn, hbl2, hll2]; clear htk htn hbl2 hll2 hB hL hpb hk1 hn1
  replace HR := Lib.hid HR; have HVC := Lib.hid (vld_cases hv)
  obtain ⟨E, hE⟩ : ∃ z, enc d t = z := ⟨_, rfl⟩; rw [hE] at hb ⊢; have HE := Lib.hid hE; clear hE hv
  go_enter Tryd.func36, Tryd.ntmps36
  go_upto_region 0 with fail
  refine Kr.seqStartW ?_
  refine Kr.seqR (by rfl) (fun K hK => ?_)
  refine wp_runV rfl boxI ?_
  obtain ⟨y1, hy⟩ : ∃ y, w.alloc (.cells ([.int .i64 tk, .int .i64 tn, .slice pb bl cb, .slice pl ll cl]).toArray 25) = y := ⟨_, rfl⟩
  obtain ⟨ba, hb⟩ : ∃ b, w.heap.size = b := ⟨_, rfl⟩
  rw [hy, hb]
  replace HA := apt_new (T2 := 25) (l := [.int .i64 tk, .int .i64 tn, .slice pb bl cb, .slice pl ll cl]) HR.out HA hb
  have hg : Gr w y1 := hy ▸ (Gr.refl _).alloc _
  replace H := H.alloc hy hb
  replace HR := Lib.hid (HR.out.grow hg)
  clear hy hb hg
  (refine Kr.outS hK (a' := ?_) ?_ ?_; rotate_left; (focus ((try simp only [Kr.PT]); first | done | rfl))); clear hK K
  (refine Kr.seqQ (v := ?_) (a' := ?_) (by rfl) ?_ ?_ ?_; rotate_left 2; (focus (go_simp; first | done | rfl)); (focus ((try simp only [Kr.PT]); first | done | rfl)))
  refine Kr.seqDoneW ?_
  obtain ⟨z0, hz0⟩ : ∃ z, BitVec.ofInt 8 tk = z := ⟨_, rfl⟩
  have hE1 : 1 ≤ E.length := by
    rw [← HE.out]
    rcases HVC.out with h | h | ⟨h, e, rfl, _⟩
    · rw [enc1 h]; simp
    · rw [enc2 h]; simp
    · rw [enc3 h]; simp
  go_upto_region 1 with fail
  refine Kr.seqStartW ?_
  (refine Kr.seqQ (v := ?_) (a' := ?_) (by rfl) ?_ ?_ ?_; rotate_left 2; (focus (go_simp; first | done | rfl)); (focus ((try simp only [Kr.PT]); first | done | rfl)))
  (refine Kr.seqQ (v := .pointer (some ⟨ba, 0, none⟩)) (a' := ?_) (by rfl) ?_ ?_ ?_; rotate_left 1; (focus (go_simp; first | done | rfl)); (focus ((try simp only [Kr.PT]); first | done | rfl)))
  (refine Kr.seqQ (v := .int .i64 tk) (a' := ?_) (by rfl) ?_ ?_ ?_; rotate_left 1; (focus (exact Kr.valOf rfl (ldInt (rowCell (j := 0) (H.at 0 rfl) rfl)))); (focus ((try simp only [Kr.PT]); first | done | rfl)))
  (refine Kr.seqQ (v := .int .u8 ((z0).toNat : Int)) (a' := ?_) (by rfl) ?_ ?_ ?_; rotate_left 1; (focus (exact Kr.valOf rfl (convZ8 hz0))); (focus ((try simp only [Kr.PT]); first | done | rfl)))
  refine Kr.seqR (by rfl) (fun K hK => ?_)
  go_simp
  obtain ⟨y2, hy⟩ : ∃ y, y1.alloc (.cells #[.int .u8 ((z0).toNat : Int)] 5) = y := ⟨_, rfl⟩
  obtain ⟨bone, hbn⟩ : ∃ b, y1.heap.size = b := ⟨_, rfl⟩
  rw [hy, hbn]
  have hy2 : y1.alloc (.cells ([.int .u8 ((z0).toNat : Int)] : List Value).toArray 5) = y2 := hy
  have hg : Gr y1 y2 := hy ▸ (Gr.refl _).alloc _
  have HLIT := Lib.hid (hbn ▸ hy2 ▸ lit_src (W := y1) (T := 5) [.int .u8 ((z0).toNat : Int)]); clear hy2
  replace H := H.grow hg
  replace HR := Lib.hid (HR.out.grow hg)
  clear hg hy hbn
  (refine Kr.outS hK (a' := ?_) ?_ ?_; rotate_left; (focus ((try simp only [Kr.PT]); first | done | rfl))); clear hK K
  refine Kr.seqR (by rfl) (fun K hK => ?_)
  refine wp_appG (T := 5) (TS := 22) Tryd.underlying22 info8 rfl (.tmp 7) (.tmp 11) rfl (v := v) (r := r) (d := [w8 z0]) (p := (some ⟨bone, 0, none⟩)) (m := 1) (c := 1) (rs := ((ba, 25, [.int .i64 tk, .int .i64 tn, .slice pb bl cb, .slice pl ll cl]) :: rs)) rfl rfl (rfl) (HLIT.out) (one_lit8 [z0]) (fun e => by cases e) H HR.out HA (by omega) (by decide) ?_
  intro q4 y3 H3 hR3 hA3
  clear H HR HA HLIT; have H := H3; have HR := Lib.hid hR3; have HA := hA3; clear H3 hR3 hA3
  (refine Kr.outS hK (a' := ?_) ?_ ?_; rotate_left; (focus ((try simp only [Kr.PT]); first | done | rfl))); clear hK K
  (refine Kr.seqQ (v := ?_) (a' := ?_) (by rfl) ?_ ?_ ?_; rotate_left 2; (focus (go_simp; first | done | rfl)); (focus ((try simp only [Kr.PT]); first | done | rfl)))
  refine Kr.seqDoneW ?_
  go_upto_region 2 with fail
  refine Kr.seqStartW ?_
  (refine Kr.seqQ (v := .pointer (some ⟨ba, 0, none⟩)) (a' := ?_) (by rfl) ?_ ?_ ?_; rotate_left 1; (focus (go_simp; first | done | rfl)); (focus ((try simp only [Kr.PT]); first | done | rfl)))
  (refine Kr.seqQ (v := .int .i64 tk) (a' := ?_) (by rfl) ?_ ?_ ?_; rotate_left 1; (focus (exact Kr.valOf rfl (ldInt (rowCell (j := 0) (H.at 0 rfl) rfl)))); (focus ((try simp only [Kr.PT]); first | done | rfl)))
  refine Kr.seqDoneW ?_
  by_cases k1 : tk = 1
  · have C1 : decide (tk = 1) = true := decide_eq_true (by exact k1)
    have hEE : E = 1#8 :: beI 8 tn := by rw [← HE.out, enc1 (HTK.out.trans k1) d, HTN.out]; rfl
    have hz1 : z0 = 1#8 := by rw [← hz0, k1]; rfl
    subst hEE; rw [hz1] at HR; clear hz0 k1
    have hbl8 : (beI 8 tn).length = 8 := beI_length _ _; rw [List.length_cons] at hb
    go_upto_region 3 with fail
    refine Kr.seqStartW ?_
    (refine Kr.seqQ (v := .bool true) (a' := ?_) (by rfl) ?_ ?_ ?_; rotate_left 1; (focus (exact Kr.valOf rfl (eqlI C1))); (focus ((try simp only [Kr.PT]); first | done | rfl)))
    (refine Kr.seqQ (v := ?_) (a' := ?_) (by rfl) ?_ ?_ ?_; rotate_left 2; (focus (go_simp; first | done | rfl)); (focus ((try simp only [Kr.PT]); first | done | rfl)))
    refine Kr.seqDoneW ?_
    go_upto_region 4 with fail
    refine Kr.seqStartW ?_
    (refine Kr.seqQ (v := ?_) (a' := ?_) (by rfl) ?_ ?_ ?_; rotate_left 2; (focus (go_simp; first | done | rfl)); (focus ((try simp only [Kr.PT]); first | done | rfl)))
    (refine Kr.seqQ (v := .pointer (some ⟨ba, 1, none⟩)) (a' := ?_) (by rfl) ?_ ?_ ?_; rotate_left 1; (focus (go_simp; first | done | rfl)); (focus ((try simp only [Kr.PT]); first | done | rfl)))
    (refine Kr.seqQ (v := .int .i64 tn) (a' := ?_) (by rfl) ?_ ?_ ?_; rotate_left 1; (focus (exact Kr.valOf rfl (ldInt (rowCell (j := 1) (H.at 0 rfl) rfl)))); (focus ((try simp only [Kr.PT]); first | done | rfl)))
    refine Kr.seqR (by rfl) (fun K hK => ?_)
    go_simp
    go_at_call 47
    refine (wnum_v (m := 8) (n := tn) H HR.out HA (by decide) (by simp; omega)).mono ?_
    rintro e y5 ⟨q6, rfl, hR3, hA3, H3⟩
    clear H HR HA; have H := H3; have HR := Lib.hid hR3; have HA := hA3; clear H3 hR3 hA3
    (refine Kr.outS hK (a' := ?_) ?_ ?_; rotate_left; (focus ((try simp only [Kr.PT]); first | done | rfl))); clear hK K
    (refine Kr.seqQ (v := ?_) (a' := ?_) (by rfl) ?_ ?_ ?_; rotate_left 2; (focus (go_simp; first | done | rfl)); (focus ((try simp only [Kr.PT]); first | done | rfl)))
    refine Kr.seqDoneW ?_
    replace HA := apt_tail HA; replace H := H.drop 1; dsimp only [List.drop] at H
    have HR2 := Lib.hid (show RowG 5 w0.heap.size q6 (r ++ (1#8 :: beI 8 tn).map w8) y5 by have := HR.out; rwa [List.append_assoc] at this); clear HR
    go_upto_region 15 with fail
    refine Kr.seqStartW ?_
    (refine Kr.seqQ (v := ?_) (a' := ?_) (by rfl) ?_ ?_ ?_; rotate_left 2; (focus (go_simp; first | done | rfl)); (focus ((try simp only [Kr.PT]); first | done | rfl)))
    (refine Kr.seqQ (v := ?_) (a' := ?_) (by rfl) ?_ ?_ ?_; rotate_left 2; (focus (go_simp; first | done | rfl)); (focus ((try simp only [Kr.PT]); first | done | rfl)))
    refine Kr.seqDoneW ?_
    have hk := trivial
    go_wp2
    refine bodyPost_ret (v := q6) (by simp [results, Tryd.results36, go_sem, hk]) rfl ⟨_, rfl, HR2.out, HA, H⟩
  by_cases k2 : tk = 2
  · have C1 : decide (tk = 1) = false := decide_eq_false (by exact k1)
    have C2 : decide (tk = 2) = true := decide_eq_true (by exact k2)
    have hEE : E = 2#8 :: (beI 4 (bl : Int) ++ t.b) := by rw [← HE.out, enc2 (HTK.out.trans k2) d, HBL.out]; rfl
    have hz1 : z0 = 2#8 := by rw [← hz0, k2]; rfl
    subst hEE; rw [hz1] at HR; clear hz0 k1 k2
    have hbl8 : (beI 4 (bl : Int)).length = 4 := beI_length _ _; rw [List.length_cons, List.length_append, hbl8, HBL.out] at hb
    go_upto_region 3 with fail
    refine Kr.seqStartW ?_
    (refine Kr.seqQ (v := .bool false) (a' := ?_) (by rfl) ?_ ?_ ?_; rotate_left 1; (focus (exact Kr.valOf rfl (eqlI C1))); (focus ((try simp only [Kr.PT]); first | done | rfl)))
    (refine Kr.seqQ (v := ?_) (a' := ?_) (by rfl) ?_ ?_ ?_; rotate_left 2; (focus (go_simp; first | done | rfl)); (focus ((try simp only [Kr.PT]); first | done | rfl)))
    refine Kr.seqDoneW ?_
    go_upto_region 5 with fail
    refine Kr.seqStartW ?_
    (refine Kr.seqQ (v := .bool true) (a' := ?_) (by rfl) ?_ ?_ ?_; rotate_left 1; (focus (exact Kr.valOf rfl (eqlI C2))); (focus ((try simp only [Kr.PT]); first | done | rfl)))
    (refine Kr.seqQ (v := ?_) (a' := ?_) (by rfl) ?_ ?_ ?_; rotate_left 2; (focus (go_simp; first | done | rfl)); (focus ((try simp only [Kr.PT]); first | done | rfl)))
    refine Kr.seqDoneW ?_
    go_upto_region 6 with fail
    refine Kr.seqStartW ?_
    (refine Kr.seqQ (v := ?_) (a' := ?_) (by rfl) ?_ ?_ ?_; rotate_left 2; (focus (go_simp; first | done | rfl)); (focus ((try simp only [Kr.PT]); first | done | rfl)))
    (refine Kr.seqQ (v := .pointer (some ⟨ba, 2, none⟩)) (a' := ?_) (by rfl) ?_ ?_ ?_; rotate_left 1; (focus (go_simp; first | done | rfl)); (focus ((try simp only [Kr.PT]); first | done | rfl)))
    (refine Kr.seqQ (v := .slice pb bl cb) (a' := ?_) (by rfl) ?_ ?_ ?_; rotate_left 1; (focus (exact Kr.valOf rfl (ldSl (rowCell (j := 2) (H.at 0 rfl) rfl)))); (focus ((try simp only [Kr.PT]); first | done | rfl)))
    (refine Kr.seqQ (v := .int .i64 (bl : Int)) (a' := ?_) (by rfl) ?_ ?_ ?_; rotate_left 1; (focus (exact Kr.valOf rfl ((by go_simp)))); (focus ((try simp only [Kr.PT]); first | done | rfl)))
    refine Kr.seqR (by rfl) (fun K hK => ?_)
    go_simp
    go_at_call 47
    refine (wnum_v (m := 4) (n := (bl : Int)) H HR.out HA (by decide) (by simp; omega)).mono ?_
    rintro e y7 ⟨q8, rfl, hR3, hA3, H3⟩
    clear H HR HA; have H := H3; have HR := Lib.hid hR3; have HA := hA3; clear H3 hR3 hA3
    (refine Kr.outS hK (a' := ?_) ?_ ?_; rotate_left; (focus ((try simp only [Kr.PT]); first | done | rfl))); clear hK K
    (refine Kr.seqQ (v := ?_) (a' := ?_) (by rfl) ?_ ?_ ?_; rotate_left 2; (focus (go_simp; first | done | rfl)); (focus ((try simp only [Kr.PT]); first | done | rfl)))
    refine Kr.seqDoneW ?_
    go_upto_region 7 with fail
    refine Kr.seqStartW ?_
    (refine Kr.seqQ (v := ?_) (a' := ?_) (by rfl) ?_ ?_ ?_; rotate_left 2; (focus (go_simp; first | done | rfl)); (focus ((try simp only [Kr.PT]); first | done | rfl)))
    (refine Kr.seqQ (v := .pointer (some ⟨ba, 2, none⟩)) (a' := ?_) (by rfl) ?_ ?_ ?_; rotate_left 1; (focus (go_simp; first | done | rfl)); (focus ((try simp only [Kr.PT]); first | done | rfl)))
    (refine Kr.seqQ (v := .slice pb bl cb) (a' := ?_) (by rfl) ?_ ?_ ?_; rotate_left 1; (focus (exact Kr.valOf rfl (ldSl (rowCell (j := 2) (H.at 0 rfl) rfl)))); (focus ((try simp only [Kr.PT]); first | done | rfl)))
    refine Kr.seqR (by rfl) (fun K hK => ?_)
    refine wp_appG (T := 5) (TS := 22) Tryd.underlying22 info8 rfl (.tmp 28) (.tmp 30) rfl (v := q8) (r := (r ++ [w8 2#8] ++ (beI 4 (bl : Int)).map w8)) (d := (t.b.map w8)) (p := pb) (m := bl) (c := cb) (rs := ((ba, 25, [.int .i64 tk, .int .i64 tn, .slice pb bl cb, .slice pl ll cl]) :: rs)) rfl rfl (by rw [List.length_map]; exact HBL.out) (((src_item HBB.out).grow H.g).srcG) (one_lit8 t.b) (HPB.out) H HR.out HA (by simp [hbl8]; omega) (by decide) ?_
    intro q10 y9 H3 hR3 hA3
    clear H HR HA ; have H := H3; have HR := Lib.hid hR3; have HA := hA3; clear H3 hR3 hA3
    (refine Kr.outS hK (a' := ?_) ?_ ?_; rotate_left; (focus ((try simp only [Kr.PT]); first | done | rfl))); clear hK K
    (refine Kr.seqQ (v := ?_) (a' := ?_) (by rfl) ?_ ?_ ?_; rotate_left 2; (focus (go_simp; first | done | rfl)); (focus ((try simp only [Kr.PT]); first | done | rfl)))
    refine Kr.seqDoneW ?_
    replace HA := apt_tail HA; replace H := H.drop 1; dsimp only [List.drop] at H
    have HR2 := Lib.hid (show RowG 5 w0.heap.size q10 (r ++ (2#8 :: (beI 4 (bl : Int) ++ t.b)).map w8) y9 by have := HR.out; rwa [List.append_assoc, List.append_assoc, ← List.map_append] at this); clear HR
    go_upto_region 15 with fail
    refine Kr.seqStartW ?_
    (refine Kr.seqQ (v := ?_) (a' := ?_) (by rfl) ?_ ?_ ?_; rotate_left 2; (focus (go_simp; first | done | rfl)); (focus ((try simp only [Kr.PT]); first | done | rfl)))
    (refine Kr.seqQ (v := ?_) (a' := ?_) (by rfl) ?_ ?_ ?_; rotate_left 2; (focus (go_simp; first | done | rfl)); (focus ((try simp only [Kr.PT]); first | done | rfl)))
    refine Kr.seqDoneW ?_
    have hk := trivial
    go_wp2
    refine bodyPost_ret (v := q10) (by simp [results, Tryd.results36, go_sem, hk]) rfl ⟨_, rfl, HR2.out, HA, H⟩
  have hk3 : t.k = 3 ∧ ∃ e, d = e + 1 ∧ t.l.length ≤ 1000 ∧ ∀ x ∈ t.l, vld e x = true := by
    rcases HVC.out with h | h | h
    · exact absurd (HTK.out.symm.trans h) k1
    · exact absurd (HTK.out.symm.trans h) k2
    · exact h
  obtain ⟨hk3, d, rfl, hl1000, hal⟩ := hk3; rw [HLL.out] at hl1000; have k3 : tk = 3 := HTK.out.symm.trans hk3; have HAL := Lib.hid hal; clear hal
  have C1 : decide (tk = 1) = false := decide_eq_false (by exact k1)
  have C2 : decide (tk = 2) = false := decide_eq_false (by exact k2)
  have C3 : decide (tk = 3) = true := decide_eq_true (by exact k3)
  have hEE : E = 3#8 :: (beI 4 (ll : Int) ++ t.l.flatMap (enc d)) := by rw [← HE.out, enc3 hk3 d, HLL.out]; rfl
  have hz1 : z0 = 3#8 := by rw [← hz0, k3]; rfl
  subst hEE; rw [hz1] at HR; clear hz0 k1 k2 k3 hk3
  have hbl8 : (beI 4 (ll : Int)).length = 4 := beI_length _ _; rw [List.length_cons, List.length_append, hbl8] at hb
  go_upto_region 3 with fail
  refine Kr.seqStartW ?_
  (refine Kr.seqQ (v := .bool false) (a' := ?_) (by rfl) ?_ ?_ ?_; rotate_left 1; (focus (exact Kr.valOf rfl (eqlI C1))); (focus ((try simp only [Kr.PT]); first | done | rfl)))
  (refine Kr.seqQ (v := ?_) (a' := ?_) (by rfl) ?_ ?_ ?_; rotate_left 2; (focus (go_simp; first | done | rfl)); (focus ((try simp only [Kr.PT]); first | done | rfl)))
  refine Kr.seqDoneW ?_
  go_upto_region 5 with fail
  refine Kr.seqStartW ?_
  (refine Kr.seqQ (v := .bool false) (a' := ?_) (by rfl) ?_ ?_ ?_; rotate_left 1; (focus (exact Kr.valOf rfl (eqlI C2))); (focus ((try simp only [Kr.PT]); first | done | rfl)))
  (refine Kr.seqQ (v := ?_) (a' := ?_) (by rfl) ?_ ?_ ?_; rotate_left 2; (focus (go_simp; first | done | rfl)); (focus ((try simp only [Kr.PT]); first | done | rfl)))
  refine Kr.seqDoneW ?_
  go_upto_region 8 with fail
  refine Kr.seqStartW ?_
  (refine Kr.seqQ (v := .bool true) (a' := ?_) (by rfl) ?_ ?_ ?_; rotate_left 1; (focus (exact Kr.valOf rfl (eqlI C3))); (focus ((try simp only [Kr.PT]); first | done | rfl)))
  (refine Kr.seqQ (v := ?_) (a' := ?_) (by rfl) ?_ ?_ ?_; rotate_left 2; (focus (go_simp; first | done | rfl)); (focus ((try simp only [Kr.PT]); first | done | rfl)))
  refine Kr.seqDoneW ?_
  go_upto_region 9 with fail
  refine Kr.seqStartW ?_
  (refine Kr.seqQ (v := ?_) (a' := ?_) (by rfl) ?_ ?_ ?_; rotate_left 2; (focus (go_simp; first | done | rfl)); (focus ((try simp only [Kr.PT]); first | done | rfl)))
  (refine Kr.seqQ (v := .pointer (some ⟨ba, 3, none⟩)) (a' := ?_) (by rfl) ?_ ?_ ?_; rotate_left 1; (focus (go_simp; first | done | rfl)); (focus ((try simp only [Kr.PT]); first | done | rfl)))
  (refine Kr.seqQ (v := .slice pl ll cl) (a' := ?_) (by rfl) ?_ ?_ ?_; rotate_left 1; (focus (exact Kr.valOf rfl (ldLs (rowCell (j := 3) (H.at 0 rfl) rfl)))); (focus ((try simp only [Kr.PT]); first | done | rfl)))
  (refine Kr.seqQ (v := .int .i64 (ll : Int)) (a' := ?_) (by rfl) ?_ ?_ ?_; rotate_left 1; (focus (exact Kr.valOf rfl ((by go_simp)))); (focus ((try simp only [Kr.PT]); first | done | rfl)))
  refine Kr.seqR (by rfl) (fun K hK => ?_)
  go_simp
  go_at_call 47
  refine (wnum_v (m := 4) (n := (ll : Int)) H HR.out HA (by decide) (by simp; omega)).mono ?_
  rintro e y11 ⟨q12, rfl, hR3, hA3, H3⟩
  clear H HR HA; have H := H3; have HR := Lib.hid hR3; have HA := hA3; clear H3 hR3 hA3
  (refine Kr.outS hK (a' := ?_) ?_ ?_; rotate_left; (focus ((try simp only [Kr.PT]); first | done | rfl))); clear hK K
  (refine Kr.seqQ (v := ?_) (a' := ?_) (by rfl) ?_ ?_ ?_; rotate_left 2; (focus (go_simp; first | done | rfl)); (focus ((try simp only [Kr.PT]); first | done | rfl)))
  refine Kr.seqDoneW ?_
  go_upto_region 10 with fail
  refine Kr.seqStartW ?_
  (refine Kr.seqQ (v := .pointer (some ⟨ba, 3, none⟩)) (a' := ?_) (by rfl) ?_ ?_ ?_; rotate_left 1; (focus (go_simp; first | done | rfl)); (focus ((try simp only [Kr.PT]); first | done | rfl)))
  (refine Kr.seqQ (v := .slice pl ll cl) (a' := ?_) (by rfl) ?_ ?_ ?_; rotate_left 1; (focus (exact Kr.valOf rfl (ldLs (rowCell (j := 3) (H.at 0 rfl) rfl)))); (focus ((try simp only [Kr.PT]); first | done | rfl)))
  (refine Kr.seqQ (v := .int .i64 (ll : Int)) (a' := ?_) (by rfl) ?_ ?_ ?_; rotate_left 1; (focus (exact Kr.valOf rfl ((by go_simp)))); (focus ((try simp only [Kr.PT]); first | done | rfl)))
  (refine Kr.seqQ (v := ?_) (a' := ?_) (by rfl) ?_ ?_ ?_; rotate_left 2; (focus (go_simp; first | done | rfl)); (focus ((try simp only [Kr.PT]); first | done | rfl)))
  refine Kr.seqDoneW ?_
  obtain ⟨P, hP⟩ : ∃ z, r ++ [w8 3#8] ++ (beI 4 (ll : Int)).map w8 = z := ⟨_, rfl⟩; have hPl : P.length = r.length + 5 := by rw [← hP]; simp [hbl8]
  rw [hP] at HR; have HPP := Lib.hid hP; clear hP C1 C2 C3 hE1
  have H2 := Lib.hid H; clear H
  go_wp2_with fail
  go_loopw [0, 42] (fun v iv wr => ∃ (j : Nat), j ≤ ll ∧ iv = .int .i64 (j : Int) ∧ Hid (RowG 5 w0.heap.size v (P ++ (fl d t.l j).map w8) wr) ∧ Hid (Apt v ((ba, 25, [.int .i64 tk, .int .i64 tn, .slice pb bl cb, .slice pl ll cl]) :: rs)) ∧ Hid (Ow w0 wr ((ba, 25, [.int .i64 tk, .int .i64 tn, .slice pb bl cb, .slice pl ll cl]) :: rs))) (fun _ iv _ => (ll - (intOf iv).toNat))
  case atStart => exact ⟨0, by omega, rfl, by rw [show (fl d t.l 0).map w8 = [] from rfl, List.append_nil]; exact HR, Lib.hid HA, H2⟩
  case round =>
    clear H2 HR HA; obtain ⟨j, hj, rfl, HR, HA, HH⟩ := hrel; have H := HH.out; replace HA := HA.out; clear HH
    by_cases hje : j = ll
    · have C4 : decide ((j : Int) < (ll : Int)) = false := decide_eq_false (by omega)
      rw [fl_all d t.l (by rw [HLL.out]; omega)] at HR; clear hje
      go_upto_region 11 with fail
      refine Kr.seqStartW ?_
      (refine Kr.seqQ (v := .bool false) (a' := ?_) (by rfl) ?_ ?_ ?_; rotate_left 1; (focus (exact Kr.valOf rfl (lssT C4))); (focus ((try simp only [Kr.PT]); first | done | rfl)))
      refine Kr.seqDoneW ?_
      replace HA := apt_tail HA; replace H := H.drop 1; dsimp only [List.drop] at H
      have HR2 := Lib.hid (show RowG 5 w0.heap.size u0 (r ++ (3#8 :: (beI 4 (ll : Int) ++ t.l.flatMap (enc d))).map w8) wr by have := HR.out; rwa [← HPP.out, List.append_assoc, List.append_assoc, ← List.map_append] at this); clear HR
      go_upto_region 15 with fail
      refine Kr.seqStartW ?_
      (refine Kr.seqQ (v := ?_) (a' := ?_) (by rfl) ?_ ?_ ?_; rotate_left 2; (focus (go_simp; first | done | rfl)); (focus ((try simp only [Kr.PT]); first | done | rfl)))
      (refine Kr.seqQ (v := ?_) (a' := ?_) (by rfl) ?_ ?_ ?_; rotate_left 2; (focus (go_simp; first | done | rfl)); (focus ((try simp only [Kr.PT]); first | done | rfl)))
      refine Kr.seqDoneW ?_
      have hk := trivial
      go_wp2
      refine bodyPost_ret (v := u0) (by simp [results, Tryd.results36, go_sem, hk]) rfl ⟨_, rfl, HR2.out, HA, H⟩
    · have hjl : j < ll := by omega
      have C4 : decide ((j : Int) < (ll : Int)) = true := decide_eq_true (by omega)
      clear hje
      obtain ⟨x, hx⟩ : ∃ x, t.l[j]? = some x := ⟨_, List.getElem?_eq_getElem (by rw [HLL.out]; exact hjl)⟩
      obtain ⟨b, off, v0, v1, v2, v3, hpl, hFb, c0, c1, c2, c3, hch⟩ := HLS.out j x hx
      subst hpl
      have HC0 := Lib.hid c0; have HC1 := Lib.hid c1; have HC2 := Lib.hid c2; have HC3 := Lib.hid c3; have HCH := Lib.hid hch; have HX := Lib.hid hx; clear c0 c1 c2 c3 hch hx hFb
      have HON : Hid (∀ v ∈ ([v0, v1, v2, v3] : List Value), v.oneCell' = true) := Lib.hid (ItV.one HCH.out)
      have HFS := Lib.hid (fl_succ (d := d) HX.out); have hfl1 := fl_le d t.l (j + 1); rw [HFS.out, List.length_append] at hfl1
      have HVX := Lib.hid (HAL.out x (List.mem_of_getElem? HX.out))
      go_upto_region 11 with fail
      refine Kr.seqStartW ?_
      (refine Kr.seqQ (v := .bool true) (a' := ?_) (by rfl) ?_ ?_ ?_; rotate_left 1; (focus (exact Kr.valOf rfl (lssT C4))); (focus ((try simp only [Kr.PT]); first | done | rfl)))
      refine Kr.seqDoneW ?_
      go_upto_region 12 with fail
      refine Kr.seqStartW ?_
      (refine Kr.seqQ (v := .pointer (some ⟨b, off + j * 4, none⟩)) (a' := ?_) (by rfl) ?_ ?_ ?_; rotate_left 1; (focus (exact Kr.valOf rfl (ixI hjl))); (focus ((try simp only [Kr.PT]); first | done | rfl)))
      (refine Kr.seqQ (v := .agg #[v0, v1, v2, v3]) (a' := ?_) (by rfl) ?_ ?_ ?_; rotate_left 1; (focus (exact Kr.valOf rfl (ldItem (H.g.cell HC0.out) (H.g.cell HC1.out) (H.g.cell HC2.out) (H.g.cell HC3.out)))); (focus ((try simp only [Kr.PT]); first | done | rfl)))
      refine Kr.seqR (by rfl) (fun K hK => ?_)
      refine wp_runV rfl newI ?_
      obtain ⟨y13, hy⟩ : ∃ y, wr.alloc (.cells ([.int .i64 0, .int .i64 0, .slice none 0 0, .slice none 0 0]).toArray 25) = y := ⟨_, rfl⟩
      obtain ⟨bx, hb⟩ : ∃ b, wr.heap.size = b := ⟨_, rfl⟩
      rw [hy, hb]
      replace HA := apt_new (T2 := 25) (l := [.int .i64 0, .int .i64 0, .slice none 0 0, .slice none 0 0]) HR.out HA hb
      have hg : Gr wr y13 := hy ▸ (Gr.refl _).alloc _
      replace H := H.alloc hy hb
      replace HR := Lib.hid (HR.out.grow hg)
      clear hy hb hg
      (refine Kr.outS hK (a' := ?_) ?_ ?_; rotate_left; (focus ((try simp only [Kr.PT]); first | done | rfl))); clear hK K
      refine Kr.seqR (by rfl) (fun K hK => ?_)
      refine wp_run rfl (stI (H.at 0 rfl) HON.out) ?_
      have hRp := rowG_putA (cs := ([v0, v1, v2, v3] : List Value).toArray) HR.out HA 0 rfl; replace HA := apt_set (l2 := [v0, v1, v2, v3]) HA 0 rfl; dsimp only [List.set] at HA
      obtain ⟨y14, hy⟩ : ∃ y, y13.setRow bx ([v0, v1, v2, v3] : List Value).toArray = y := ⟨_, rfl⟩; rw [hy]; rw [hy] at hRp; replace HR := Lib.hid hRp; clear hRp
      replace H := H.put 0 hy rfl; dsimp only [List.set] at H; clear hy
      (refine Kr.outS hK (a' := ?_) ?_ ?_; rotate_left; (focus ((try simp only [Kr.PT]); first | done | rfl))); clear hK K
      refine Kr.seqDoneW ?_
      go_upto_region 13 with fail
      refine Kr.seqStartW ?_
      (refine Kr.seqQ (v := ?_) (a' := ?_) (by rfl) ?_ ?_ ?_; rotate_left 2; (focus (go_simp; first | done | rfl)); (focus ((try simp only [Kr.PT]); first | done | rfl)))
      (refine Kr.seqQ (v := .agg #[v0, v1, v2, v3]) (a' := ?_) (by rfl) ?_ ?_ ?_; rotate_left 1; (focus (exact Kr.valOf rfl (ldI (H.at 0 rfl)))); (focus ((try simp only [Kr.PT]); first | done | rfl)))
      refine Kr.seqR (by rfl) (fun K hK => ?_)
      go_simp
      go_at_call 36
      refine (ih d rfl H HR.out HA HCH.out HVX.out (by rw [List.length_append, List.length_map, hPl]; omega)).mono ?_
      rintro e y15 ⟨q16, rfl, hR3, hA3, H3⟩
      clear H HR HA; have H := H3; have HR := Lib.hid hR3; have HA := hA3; clear H3 hR3 hA3
      (refine Kr.outS hK (a' := ?_) ?_ ?_; rotate_left; (focus ((try simp only [Kr.PT]); first | done | rfl))); clear hK K
      (refine Kr.seqQ (v := ?_) (a' := ?_) (by rfl) ?_ ?_ ?_; rotate_left 2; (focus (go_simp; first | done | rfl)); (focus ((try simp only [Kr.PT]); first | done | rfl)))
      refine Kr.seqDoneW ?_
      rw [List.append_assoc, ← List.map_append, ← HFS.out] at HR
      replace HA := apt_tail HA
      replace H := H.drop 1; dsimp only [List.drop] at H
      have HADD : IntKind.i64.wrap ((j : Int) + 1) = ((j + 1 : Nat) : Int) := wrap_nat (by omega) (by omega)
      go_upto_region 14 with fail
      refine Kr.seqStartW ?_
      (refine Kr.seqQ (v := .int .i64 ((j + 1 : Nat) : Int)) (a' := ?_) (by rfl) ?_ ?_ ?_; rotate_left 1; (focus (exact Kr.valOf rfl (addI HADD))); (focus ((try simp only [Kr.PT]); first | done | rfl)))
      (refine Kr.seqQ (v := ?_) (a' := ?_) (by rfl) ?_ ?_ ?_; rotate_left 2; (focus (go_simp; first | done | rfl)); (focus ((try simp only [Kr.PT]); first | done | rfl)))
      refine Kr.seqDoneW ?_
      go_wp2; go_roundw
      case rel =>
        first
        | exact ⟨j + 1, by omega, rfl, HR, Lib.hid HA, Lib.hid H⟩
        | (repeat apply Exists.intro); exact ⟨⟨j + 1, by omega, rfl, HR, Lib.hid HA, Lib.hid H⟩, rfl⟩
        | (repeat apply Exists.intro); refine ⟨⟨j + 1, by omega, rfl, HR, Lib.hid HA, Lib.hid H⟩, ?_⟩; refine ⟨?_, ?_⟩ <;> (repeat apply And.intro) <;> rfl
      case measure => simp [intOf]; omega
theorem write_v : ∀ (d : Nat), ∀ {w0 w : World} {rs : List Blk} {v : Value} {r : List Value} {k : Nat} {F : Nat → Prop} {val : Value} {t : It} (_ : Ow w0 w rs) (_ : RowG 5 w0.heap.size v r w) (_ : Apt v rs) (_ : ItV w0 k F val t) (_ : vld d t = true) (_ : r.length + (enc d t).length ≤ 99999900), Calls Tryd.prog 36 #[v, val] w fun o w' => ∃ v2, o = .returned v2 ∧ RowG 5 w0.heap.size v2 (r ++ (enc d t).map w8) w' ∧ Apt v2 rs ∧ Ow w0 w' rs
  | 0, _, _, _, _, _, _, _, _, _, h1, h2, h3, h4, h5, h6 => write_step (fun e he => by omega) h1 h2 h3 h4 h5 h6
  | d + 1, _, _, _, _, _, _, _, _, _, h1, h2, h3, h4, h5, h6 => write_step (fun e he => by
      obtain rfl : e = d := by omega
      exact write_v e) h1 h2 h3 h4 h5 h6

end Go.Proofs.YtlollhmheakcfaaDoor.Dg
