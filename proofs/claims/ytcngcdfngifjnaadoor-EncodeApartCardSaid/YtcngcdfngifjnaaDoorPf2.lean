/- A part of the proofs, joined of smaller texts: En, Eq, Eu, Ba, Bb, Bc, Bd, Be, Bf, Bg, Bh, Bi, Bj, Bk. -/
import Derived.Test.YtcngcdfngifjnaaDoorPf1
import Derived.Deep.Cut
import Derived.Laws.Rows
import Derived.Shelf.Strconv.AppendIntPublic10
import Derived.Shelf.Lay
import Derived.Ground.NamesProg
import Derived.Lib.AppendIntMem
import Derived.Laws.Tables
import Derived.Maps.AppendAt

/- Expand. -/
namespace Go.Proofs.YtcngcdfngifjnaaDoor.Dg
open Go Go.RowKit Go.Proofs.YtcngcdfngifjnaaDoor.Ne Go.Proofs.YtcngcdfngifjnaaDoor.Kr

theorem eqS {w : World} {a b : ByteArray} {c : Bool} (h : decide (a = b) = c) : (binOp .eql 9 (.string a) (.string b)).run Tryd.prog w = .ok (.bool c) w := by
  rw [← h]; exact run_eqlS _ _ _
theorem strB_dec {l k : List (BitVec 8)} {b : Bool} (h : decide (l = k) = b) : decide (strB l = strB k) = b := by
  rw [← h]
  exact decide_eq_decide.2 ⟨strB_inj, fun e => by rw [e]⟩
theorem apt_new {W : World} {T T2 : TypeId} {rs : List Blk} {v : Value} {xs l : List Value} {b B : Nat} (h : RowG T B v xs W) (HA : Apt v rs) (hb : W.heap.size = b) : Apt v ((b, T2, l) :: rs) := fun k hk x hx e => by
  rcases List.mem_cons.1 hx with rfl | hx
  · have := (h.lt k hk).2
    have e2 : b = k := e
    omega
  · exact HA k hk x hx e
theorem apt_tail {rs : List Blk} {v : Value} {x : Blk} (h : Apt v (x :: rs)) : Apt v rs := fun k hk y hy => h k hk y (List.mem_cons_of_mem _ hy)
theorem apt_set {rs : List Blk} {v : Value} {b : Nat} {T : TypeId} {l l2 : List Value} (h : Apt v rs) (i : Nat) (hi : rs[i]? = some (b, T, l)) : Apt v (rs.set i (b, T, l2)) := fun k hk y hy => by
  rcases List.mem_or_eq_of_mem_set hy with hy | rfl
  · exact h k hk y hy
  · exact h k hk (b, T, l) (List.mem_of_getElem? hi)
theorem rowG_putA {T T2 : TypeId} {rs : List Blk} {v : Value} {xs l : List Value} {b B : Nat} {W : World} {cs : Array Value} (h : RowG T B v xs W) (HA : Apt v rs) (i : Nat) (hi : rs[i]? = some (b, T2, l)) : RowG T B v xs (W.setRow b cs) := by
  obtain ⟨h1, h2 | ⟨g, cap, cur, e1, e2, e3, e4⟩⟩ := h
  · exact ⟨h1, .inl h2⟩
  · refine ⟨h1, .inr ⟨g, cap, cur, e1, e2, ?_, e4⟩⟩
    rw [setRow_other]
    · exact e3
    · intro e
      exact HA g (by rw [e1]; rfl) _ (List.mem_of_getElem? hi) e.symm
theorem rowG_ptr {T : TypeId} {B n c : Nat} {p : Option Addr} {xs : List Value} {W : World} (h : RowG T B (.slice p n c) xs W) : ∀ ad, p = some ad → ∃ g, ad = ⟨g, 0, none⟩ := fun ad e => by
  rcases h.2 with ⟨h1, _⟩ | ⟨g, cap, cur, h1, _⟩
  · cases h1; cases e
  · cases h1; exact ⟨g, (Option.some.inj e).symm⟩
def Shp (p : Option Addr) (n : Nat) : Prop := (p = none ∧ n = 0) ∨ ∃ g, p = some ⟨g, 0, none⟩
/-- The stream of a digest: so many blocks. -/
def stm (S : List (BitVec 8)) : Nat → List (BitVec 8)
  | 0 => []
  | i + 1 => stm S i ++ sha (S ++ be8 i)
theorem stm_length (S : List (BitVec 8)) : ∀ i, (stm S i).length = 32 * i
  | 0 => rfl
  | i + 1 => by rw [stm, List.length_append, stm_length S i, sha_length]; omega
theorem stm_take (S : List (BitVec 8)) {i : Nat} : ∀ {j : Nat}, i ≤ j → (stm S j).take (32 * i) = stm S i
  | 0, h => by
    obtain rfl : i = 0 := by omega
    rfl
  | j + 1, h => by
    rcases Nat.lt_or_ge j i with h1 | h1
    · obtain rfl : i = j + 1 := by omega
      exact List.take_of_length_le (by rw [stm_length]; exact Nat.le_refl _)
    · rw [stm, List.take_append_of_le_length (by rw [stm_length]; omega)]
      exact stm_take S h1
/-- The first n bytes of the stream. -/
def ex (S : List (BitVec 8)) (n : Nat) : List (BitVec 8) := (stm S ((n + 31) / 32)).take n
theorem ex_length (S : List (BitVec 8)) (n : Nat) : (ex S n).length = n := by rw [ex, List.length_take, stm_length]; omega
theorem stm_ex (S : List (BitVec 8)) {i n : Nat} (h : n ≤ 32 * i) : (stm S i).take n = ex S n := by
  have h1 : (n + 31) / 32 ≤ i := by omega
  rw [ex, ← stm_take S h1, List.take_take, Nat.min_eq_left (by omega)]
theorem ex_take (S : List (BitVec 8)) {k n : Nat} (h : k ≤ n) : (ex S n).take k = ex S k := by
  rw [ex, List.take_take, Nat.min_eq_left h, stm_ex S (by omega)]
theorem srcB_take {p : Option Addr} {l : List (BitVec 8)} {W : World} (h : SrcB p l W) (k : Nat) : SrcB p (l.take k) W := by
  rcases h with h | ⟨b, off, e, h⟩
  · exact .inl (by rw [h, List.take_nil])
  · refine .inr ⟨b, off, e, fun j x hx => h j x ?_⟩
    rw [List.getElem?_take] at hx
    split at hx
    · exact hx
    · cases hx
theorem slTo {w : World} {b off n c k : Nat} (h : k ≤ c) : (Instr.sliceAt 22 (.slice (some ⟨b, off, none⟩) n c) none (some (.int .i64 (k : Int))) none).run Tryd.prog w = .ok (.slice (some ⟨b, off, none⟩) k c) w := by
  have h5 : (k : Int) ≤ (c : Int) := by omega
  have h6 : (0 : Int) ≤ (k : Int) := by omega
  go_simp
theorem slTo0 {w : World} : (Instr.sliceAt 22 (.slice none 0 0) none (some (.int .i64 ((0 : Nat) : Int))) none).run Tryd.prog w = .ok (.slice none 0 0) w := by
  go_simp
theorem slTo3 {w : World} {b off n c k : Nat} (h : k ≤ c) : (Instr.sliceAt 22 (.slice (some ⟨b, off, none⟩) n c) none (some (.int .i64 (k : Int))) (some (.int .i64 (k : Int)))).run Tryd.prog w = .ok (.slice (some ⟨b, off, none⟩) k k) w := by
  have h5 : (k : Int) ≤ (c : Int) := by omega
  have h6 : (0 : Int) ≤ (k : Int) := by omega
  go_simp
theorem slTo30 {w : World} {m c n : Nat} (hm : m = 0) (hc : c = 0) (hn : n = 0) : (Instr.sliceAt 22 (.slice none m c) none (some (.int .i64 (n : Int))) (some (.int .i64 (n : Int)))).run Tryd.prog w = .ok (.slice none n n) w := by
  subst hm hc hn
  go_simp
theorem slToP {w : World} {p : Option Addr} {m c k : Nat} (h : Shp p c) (hk : k ≤ c) (hm : p = none → m = 0) : (Instr.sliceAt 22 (.slice p m c) none (some (.int .i64 (k : Int))) none).run Tryd.prog w = .ok (.slice p k c) w := by
  rcases h with ⟨rfl, rfl⟩ | ⟨g, rfl⟩
  · obtain rfl : k = 0 := by omega
    obtain rfl := hm rfl
    exact slTo0
  · exact slTo hk

set_option linter.unusedSimpArgs false in
set_option maxRecDepth 100000 in
set_option maxHeartbeats 16000000 in
theorem Equal_v {p q : Option Addr} {n c m d : Nat} {l k : List (BitVec 8)} {b : Bool} {w : World} (hl : SrcB p l w) (hln : l.length = n) (hk : SrcB q k w) (hkn : k.length = m) (hb : decide (l = k) = b) :
    Calls Tryd.prog 16 #[.slice p n c, .slice q m d] w fun e w' => e = .returned (.bool b) ∧ w' = w := by
  have hB := strB_dec hb
  have H := Ow.start w
  go_enter Tryd.func16, Tryd.ntmps16
  go_upto_region 0 with fail
  refine Kr.seqStartW ?_
  (refine Kr.seqQ (v := ?_) (a' := ?_) (by rfl) ?_ ?_ ?_; rotate_left 2; (focus (go_simp; first | done | rfl)); (focus ((try simp only [Kr.PT]); first | done | rfl)))
  refine Kr.seqDoneW ?_
  go_upto_region 1 with fail
  refine Kr.seqStartW ?_
  (refine Kr.seqQ (v := ?_) (a' := ?_) (by rfl) ?_ ?_ ?_; rotate_left 2; (focus (go_simp; first | done | rfl)); (focus ((try simp only [Kr.PT]); first | done | rfl)))
  (refine Kr.seqQ (v := .string (strB l)) (a' := ?_) (by rfl) ?_ ?_ ?_; rotate_left 1; (focus (exact Kr.valOf rfl (run_str hl hln))); (focus ((try simp only [Kr.PT]); first | done | rfl)))
  (refine Kr.seqQ (v := ?_) (a' := ?_) (by rfl) ?_ ?_ ?_; rotate_left 2; (focus (go_simp; first | done | rfl)); (focus ((try simp only [Kr.PT]); first | done | rfl)))
  (refine Kr.seqQ (v := .string (strB k)) (a' := ?_) (by rfl) ?_ ?_ ?_; rotate_left 1; (focus (exact Kr.valOf rfl (run_str hk hkn))); (focus ((try simp only [Kr.PT]); first | done | rfl)))
  (refine Kr.seqQ (v := .bool b) (a' := ?_) (by rfl) ?_ ?_ ?_; rotate_left 1; (focus (exact Kr.valOf rfl (eqS hB))); (focus ((try simp only [Kr.PT]); first | done | rfl)))
  (refine Kr.seqQ (v := ?_) (a' := ?_) (by rfl) ?_ ?_ ?_; rotate_left 2; (focus (go_simp; first | done | rfl)); (focus ((try simp only [Kr.PT]); first | done | rfl)))
  refine Kr.seqDoneW ?_
  have hk := trivial
  go_wp2
  refine bodyPost_ret (v := .bool b) (by simp [results, Tryd.results16, go_sem, hk]) rfl ⟨rfl, rfl⟩
end Go.Proofs.YtcngcdfngifjnaaDoor.Dg


/- slices.Clone at bytes. -/
namespace Go.Proofs.YtcngcdfngifjnaaDoor.Dg
open Go Go.RowKit Go.Proofs.YtcngcdfngifjnaaDoor.Ne Go.Proofs.YtcngcdfngifjnaaDoor.Kr

theorem xor8 {w : World} {x y z : BitVec 8} (hz : x ^^^ y = z) : (binOp .xor 5 (.int .u8 (x.toNat : Int)) (.int .u8 (y.toNat : Int))).run Tryd.prog w = .ok (.int .u8 (z.toNat : Int)) w := by
  have e : bits BinOp.xor IntKind.u8 (x.toNat : Int) (y.toNat : Int) = (z.toNat : Int) := by
    rw [u8_xor_nat _ _ x.isLt y.isLt, ← hz]; simp
  clear hz
  go_simp
theorem eqBool {w : World} {b : Bool} : (binOp .eql 4 (.bool b) (.bool b)).run Tryd.prog w = .ok (.bool true) w := by
  cases b <;> go_simp
theorem take_set8 {cur : List Value} {l : List (BitVec 8)} {n i : Nat} {z : BitVec 8} (h : cur.take n = l.map w8) : (cur.set i (.int .u8 (z.toNat : Int))).take n = (l.set i z).map w8 := by
  rw [List.take_set, h, List.map_set]; rfl
theorem cur_get {cur : List Value} {l : List (BitVec 8)} {n i : Nat} {x : BitVec 8} (h : cur.take n = l.map w8) (hi : i < n) (hx : l[i]? = some x) : cur[i]? = some (.int .u8 (x.toNat : Int)) := of_take h hi (map_get8 hx)
theorem notNil {w : World} {a : Addr} {n c : Nat} : (binOp .eql 22 (.slice (some a) n c) (.slice none 0 0)).run Tryd.prog w = .ok (.bool false) w := by
  kernel_rfl

end Go.Proofs.YtcngcdfngifjnaaDoor.Dg


/- The reference's digit. -/
namespace Go.Proofs.YtcngcdfngifjnaaDoor.Dg
open Go Go.RowKit Go.Proofs.YtcngcdfngifjnaaDoor.Ne Go.Proofs.YtcngcdfngifjnaaDoor.Kr

theorem geqB {w : World} {x y : Int} {b : Bool} (h : decide (y ≤ x) = b) : (binOp .geq 5 (.int .u8 x) (.int .u8 y)).run Tryd.prog w = .ok (.bool b) w := by
  go_simp
theorem leqB {w : World} {x y : Int} {b : Bool} (h : decide (x ≤ y) = b) : (binOp .leq 5 (.int .u8 x) (.int .u8 y)).run Tryd.prog w = .ok (.bool b) w := by
  go_simp
theorem lssB {w : World} {x y : Int} {b : Bool} (h : decide (x < y) = b) : (binOp .lss 5 (.int .u8 x) (.int .u8 y)).run Tryd.prog w = .ok (.bool b) w := by
  go_simp
theorem gtrB {w : World} {x y : Int} {b : Bool} (h : decide (y < x) = b) : (binOp .gtr 5 (.int .u8 x) (.int .u8 y)).run Tryd.prog w = .ok (.bool b) w := by
  go_simp
theorem subB {w : World} {x y z : Int} (h : x - y = z) (h1 : 0 ≤ z) (h2 : z < 256) : (binOp .sub 5 (.int .u8 x) (.int .u8 y)).run Tryd.prog w = .ok (.int .u8 z) w := by
  have e : IntKind.u8.wrap (x - y) = z := by rw [h, IntKind.wrap_u8']; omega
  clear h h1 h2
  go_simp
theorem cvB {w : World} {z : Int} (h1 : 0 ≤ z) (h2 : z < 256) : (convert 5 3 (.int .u8 z)).run Tryd.prog w = .ok (.int .i64 z) w := by
  have e : IntKind.i64.wrap z = z := IntWalk.i64_in _ (by omega)
  clear h1 h2
  go_simp
theorem mul16B {w : World} {x y : BitVec 8} (h : x * 16 = y) : (binOp .mul 5 (.int .u8 (x.toNat : Int)) (.int .u8 16)).run Tryd.prog w = .ok (.int .u8 (y.toNat : Int)) w := by
  have e : IntKind.u8.wrap ((x.toNat : Int) * 16) = (y.toNat : Int) := by
    rw [← h, IntKind.wrap_u8', BitVec.toNat_mul]; simp
  clear h
  go_simp
theorem addB {w : World} {x y z : BitVec 8} (h : x + y = z) : (binOp .add 5 (.int .u8 (x.toNat : Int)) (.int .u8 (y.toNat : Int))).run Tryd.prog w = .ok (.int .u8 (z.toNat : Int)) w := by
  have e : IntKind.u8.wrap ((x.toNat : Int) + (y.toNat : Int)) = (z.toNat : Int) := by
    rw [← h, IntKind.wrap_u8', BitVec.toNat_add]; simp
  clear h
  go_simp
theorem quoB16 {w : World} {x : BitVec 8} {q : Nat} (h : x.toNat / 16 = q) : (binOp .quo 5 (.int .u8 (x.toNat : Int)) (.int .u8 16)).run Tryd.prog w = .ok (.int .u8 (q : Int)) w := by
  have e : IntKind.u8.wrap ((x.toNat : Int) / 16) = (q : Int) := by
    rw [IntKind.wrap_u8']
    have := x.isLt
    omega
  clear h
  go_simp
theorem remB16 {w : World} {x : BitVec 8} {q : Nat} (h : x.toNat % 16 = q) : (binOp .rem 5 (.int .u8 (x.toNat : Int)) (.int .u8 16)).run Tryd.prog w = .ok (.int .u8 (q : Int)) w := by
  have e : (x.toNat : Int).tmod 16 = (q : Int) := by
    rw [Int.tmod_eq_emod_of_nonneg (by omega)]
    omega
  clear h
  go_simp
theorem neqS {w : World} {a b : ByteArray} {c : Bool} (h : (!decide (a = b)) = c) : (binOp .neq 9 (.string a) (.string b)).run Tryd.prog w = .ok (.bool c) w := by
  have h1 := run_eqlS (P := Tryd.prog) (w := w) 9 a b
  rw [binOp_string_eql, Sem.run_pure] at h1
  rw [binOp_string_neq, Sem.run_pure, ← h]
  injection h1 with h1 _
  injection h1 with h1
  rw [h1]
end Go.Proofs.YtcngcdfngifjnaaDoor.Dg


/- Items. -/
namespace Go.Proofs.YtcngcdfngifjnaaDoor.Dg
open Go Go.RowKit Go.Proofs.YtcngcdfngifjnaaDoor.Ne Go.Proofs.YtcngcdfngifjnaaDoor.Kr

/-- An item as a tree. -/
inductive It where
  | mk : Int → Int → List (BitVec 8) → List It → It
def It.k : It → Int | .mk k _ _ _ => k
def It.n : It → Int | .mk _ n _ _ => n
def It.b : It → List (BitVec 8) | .mk _ _ b _ => b
def It.l : It → List It | .mk _ _ _ l => l
def InR (n : Int) : Prop := -9223372036854775808 ≤ n ∧ n < 9223372036854775808
/-- The value reads as this item, to this depth, over these blocks. -/
def ItV (W : World) : Nat → (Nat → Prop) → Value → It → Prop
  | 0, _, _, _ => False
  | d + 1, F, v, t => ∃ (pb : Option Addr) (cb : Nat) (pl : Option Addr) (cl : Nat),
      v = .agg #[.int .i64 t.k, .int .i64 t.n, .slice pb t.b.length cb, .slice pl t.l.length cl] ∧ InR t.k ∧ InR t.n ∧
      (pb = none → cb = 0) ∧ t.b.length ≤ cb ∧ t.b.length ≤ 4611686018427387904 ∧ t.l.length ≤ 4611686018427387904 ∧
      (t.b = [] ∨ ∃ b off, pb = some ⟨b, off, none⟩ ∧ F b ∧ BytesAt b off t.b W) ∧
      ∀ (j : Nat) (x : It), t.l[j]? = some x → ∃ (b off : Nat) (v0 v1 v2 v3 : Value), pl = some ⟨b, off, none⟩ ∧ F b ∧ W.cell? ⟨b, off + j * 4, none⟩ = some v0 ∧ W.cell? ⟨b, off + j * 4 + 1, none⟩ = some v1 ∧ W.cell? ⟨b, off + j * 4 + 2, none⟩ = some v2 ∧ W.cell? ⟨b, off + j * 4 + 3, none⟩ = some v3 ∧ ItV W d F (.agg #[v0, v1, v2, v3]) x
theorem ItV.grow {W W' : World} (g : Gr W W') {F : Nat → Prop} : ∀ {d : Nat} {v : Value} {t : It}, ItV W d F v t → ItV W' d F v t
  | 0, _, _, h => h
  | _ + 1, _, _, ⟨pb, cb, pl, cl, e, h1, h2, h3, h4, h5, h6, hb, hl⟩ =>
    ⟨pb, cb, pl, cl, e, h1, h2, h3, h4, h5, h6, hb.imp id (fun ⟨b, off, e, f, h⟩ => ⟨b, off, e, f, h.grow g⟩), fun j x hx => by
      obtain ⟨b, off, v0, v1, v2, v3, e, f, c0, c1, c2, c3, h⟩ := hl j x hx
      exact ⟨b, off, v0, v1, v2, v3, e, f, g.cell c0, g.cell c1, g.cell c2, g.cell c3, h.grow g⟩⟩
theorem ItV.kept {W W' : World} {F : Nat → Prop} (g : ∀ b, F b → W'.heap[b]? = W.heap[b]?) : ∀ {d : Nat} {v : Value} {t : It}, ItV W d F v t → ItV W' d F v t
  | 0, _, _, h => h
  | _ + 1, _, _, ⟨pb, cb, pl, cl, e, h1, h2, h3, h4, h5, h6, hb, hl⟩ =>
    ⟨pb, cb, pl, cl, e, h1, h2, h3, h4, h5, h6, hb.imp id (fun ⟨b, off, e, f, h⟩ => ⟨b, off, e, f, fun j x hx => (World.cell?_of_block (a := ⟨b, off + j, none⟩) (g b f)).trans (h j x hx)⟩), fun j x hx => by
      obtain ⟨b, off, v0, v1, v2, v3, e, f, c0, c1, c2, c3, h⟩ := hl j x hx
      exact ⟨b, off, v0, v1, v2, v3, e, f, (World.cell?_of_block (a := ⟨b, off + j * 4, none⟩) (g b f)).trans c0, (World.cell?_of_block (a := ⟨b, off + j * 4 + 1, none⟩) (g b f)).trans c1, (World.cell?_of_block (a := ⟨b, off + j * 4 + 2, none⟩) (g b f)).trans c2, (World.cell?_of_block (a := ⟨b, off + j * 4 + 3, none⟩) (g b f)).trans c3, h.kept g⟩⟩
theorem ItV.mono {W : World} {F G : Nat → Prop} (g : ∀ b, F b → G b) : ∀ {d : Nat} {v : Value} {t : It}, ItV W d F v t → ItV W d G v t
  | 0, _, _, h => h
  | _ + 1, _, _, ⟨pb, cb, pl, cl, e, h1, h2, h3, h4, h5, h6, hb, hl⟩ =>
    ⟨pb, cb, pl, cl, e, h1, h2, h3, h4, h5, h6, hb.imp id (fun ⟨b, off, e, f, h⟩ => ⟨b, off, e, g b f, h⟩), fun j x hx => by
      obtain ⟨b, off, v0, v1, v2, v3, e, f, c0, c1, c2, c3, h⟩ := hl j x hx
      exact ⟨b, off, v0, v1, v2, v3, e, g b f, c0, c1, c2, c3, h.mono g⟩⟩
theorem ItV.deep {W : World} {F : Nat → Prop} : ∀ {d d2 : Nat} {v : Value} {t : It}, d ≤ d2 → ItV W d F v t → ItV W d2 F v t
  | 0, _, _, _, _, h => h.elim
  | _ + 1, 0, _, _, h0, _ => by omega
  | d + 1, d2 + 1, _, _, h0, ⟨pb, cb, pl, cl, e, h1, h2, h3, h4, h5, h6, hb, hl⟩ =>
    ⟨pb, cb, pl, cl, e, h1, h2, h3, h4, h5, h6, hb, fun j x hx => by
      obtain ⟨b, off, v0, v1, v2, v3, e, f, c0, c1, c2, c3, h⟩ := hl j x hx
      exact ⟨b, off, v0, v1, v2, v3, e, f, c0, c1, c2, c3, h.deep (by omega)⟩⟩
theorem boxI {w : World} {v0 v1 v2 v3 : Value} : (Instr.box 25 (.agg #[v0, v1, v2, v3])).run Tryd.prog w = .ok (.pointer (some ⟨w.heap.size, 0, none⟩)) (w.alloc (.cells ([v0, v1, v2, v3] : List Value).toArray 25)) := by
  go_simp
theorem newI {w : World} : (Instr.alloc 25 true (.tuple #[])).run Tryd.prog w = .ok (.pointer (some ⟨w.heap.size, 0, none⟩)) (w.alloc (.cells ([.int .i64 0, .int .i64 0, .slice none 0 0, .slice none 0 0] : List Value).toArray 25)) := by
  go_simp
theorem ldI {w : World} {b : Nat} {T : TypeId} {v0 v1 v2 v3 : Value} (h : w.heap[b]? = some (.cells ([v0, v1, v2, v3] : List Value).toArray T (0, 0))) : (Instr.loadAt 25 (.pointer (some ⟨b, 0, none⟩))).run Tryd.prog w = .ok (.agg #[v0, v1, v2, v3]) w := by
  simp only [Instr.loadAt, Instr.sureAddr, Sem.run_bind, Sem.run_pure, Result.andThen_ok, run_loadVar_row w b T 25 ([v0, v1, v2, v3] : List Value).toArray (0, 0) _ h Tryd.underlying25 rfl (by kernel_rfl)]
theorem stI {w : World} {b : Nat} {T : TypeId} {u0 u1 u2 u3 v0 v1 v2 v3 : Value} (h : w.heap[b]? = some (.cells ([u0, u1, u2, u3] : List Value).toArray T (0, 0))) (h1 : ∀ v ∈ ([v0, v1, v2, v3] : List Value), v.oneCell' = true) :
    (Instr.storeAt 25 (.pointer (some ⟨b, 0, none⟩)) (.agg #[v0, v1, v2, v3])).run Tryd.prog w = .ok () (w.setRow b ([v0, v1, v2, v3] : List Value).toArray) := by
  simp only [Instr.storeAt, Instr.sureAddr, Sem.run_bind, Sem.run_pure, Result.andThen_ok]
  exact run_storeVar_row w b T 25 ([u0, u1, u2, u3] : List Value).toArray ([v0, v1, v2, v3] : List Value).toArray h (by kernel_rfl) (by simp) (Array.all_eq_true_iff_forall_mem.2 (fun v hv => h1 v (by simpa using hv)))
theorem ixI {w : World} {b off n c j : Nat} (h : j < n) : (Instr.indexAt 23 (.slice (some ⟨b, off, none⟩) n c) (.int .i64 (j : Int))).run Tryd.prog w = .ok (.pointer (some ⟨b, off + j * 4, none⟩)) w := by
  have h1 : (0 : Int) ≤ (j : Int) := by omega
  have h2 : (j : Int) < (n : Int) := by omega
  go_simp
theorem ldItem {w : World} {b o : Nat} {v0 v1 v2 v3 : Value} (c0 : w.cell? ⟨b, o, none⟩ = some v0) (c1 : w.cell? ⟨b, o + 1, none⟩ = some v1) (c2 : w.cell? ⟨b, o + 2, none⟩ = some v2) (c3 : w.cell? ⟨b, o + 3, none⟩ = some v3) :
    (Instr.loadAt 25 (.pointer (some ⟨b, o, none⟩))).run Tryd.prog w = .ok (.agg #[v0, v1, v2, v3]) w := by
  go_simp
theorem ldLs {w : World} {a : Addr} {p : Option Addr} {n c : Nat} (h : w.cell? a = some (.slice p n c)) : (Instr.loadAt 23 (.pointer (some a))).run Tryd.prog w = .ok (.slice p n c) w := by
  go_simp
theorem ldInt {w : World} {a : Addr} {n : Int} (h : w.cell? a = some (.int .i64 n)) : (Instr.loadAt 3 (.pointer (some a))).run Tryd.prog w = .ok (.int .i64 n) w := by
  go_simp
theorem fdI {w : World} {b : Nat} : ∀ j, j < 4 → (Instr.fieldAt 25 (.pointer (some ⟨b, 0, none⟩)) j).run Tryd.prog w = .ok (.pointer (some ⟨b, j, none⟩)) w
  | 0, _ => by go_simp
  | 1, _ => by go_simp
  | 2, _ => by go_simp
  | 3, _ => by go_simp
  | _ + 4, h => absurd h (by omega)
/-- An integer, or bytes. -/
def leaf (t : It) : Bool := (decide (t.k = 1) && (decide (t.b.length = 0) && decide (t.l.length = 0))) || (decide (t.k = 2) && (decide (t.n = 0) && decide (t.l.length = 0)))
/-- Valid, of at most this depth. -/
def vld : Nat → It → Bool
  | 0, t => leaf t
  | d + 1, t => leaf t || (decide (t.k = 3) && (decide (t.n = 0) && (decide (t.b.length = 0) && (decide (t.l.length ≤ 1000) && t.l.all (vld d)))))
theorem vld1 {t : It} (h : t.k = 1) : ∀ d, vld d t = (decide (t.b.length = 0) && decide (t.l.length = 0))
  | 0 => by simp [vld, leaf, h]
  | d + 1 => by simp [vld, leaf, h]
theorem vld2 {t : It} (h : t.k = 2) : ∀ d, vld d t = (decide (t.n = 0) && decide (t.l.length = 0))
  | 0 => by simp [vld, leaf, h]
  | d + 1 => by simp [vld, leaf, h]
theorem vld3 {t : It} (h : t.k = 3) (d : Nat) : vld (d + 1) t = (decide (t.n = 0) && (decide (t.b.length = 0) && (decide (t.l.length ≤ 1000) && t.l.all (vld d)))) := by simp [vld, leaf, h]
theorem vld30 {t : It} (h : t.k = 3) : vld 0 t = false := by simp [vld, leaf, h]
theorem vldN {t : It} (h1 : t.k ≠ 1) (h2 : t.k ≠ 2) (h3 : t.k ≠ 3) : ∀ d, vld d t = false
  | 0 => by simp [vld, leaf, h1, h2]
  | d + 1 => by simp [vld, leaf, h1, h2, h3]

end Go.Proofs.YtcngcdfngifjnaaDoor.Dg


/- validWithin. -/
namespace Go.Proofs.YtcngcdfngifjnaaDoor.Dg
open Go Go.RowKit Go.Proofs.YtcngcdfngifjnaaDoor.Ne Go.Proofs.YtcngcdfngifjnaaDoor.Kr

theorem ItV.one {W : World} {F : Nat → Prop} {k : Nat} {v0 v1 v2 v3 : Value} {t : It} (h : ItV W k F (.agg #[v0, v1, v2, v3]) t) : ∀ v ∈ ([v0, v1, v2, v3] : List Value), v.oneCell' = true := by
  cases k with
  | zero => exact h.elim
  | succ k =>
    obtain ⟨pb, cb, pl, cl, hv, _⟩ := h
    simp only [Value.agg.injEq, Array.mk.injEq, List.cons.injEq] at hv
    obtain ⟨rfl, rfl, rfl, rfl, _⟩ := hv
    intro v hv
    simp only [List.mem_cons, List.not_mem_nil, or_false] at hv
    rcases hv with rfl | rfl | rfl | rfl <;> rfl
set_option linter.unusedSimpArgs false in
set_option maxRecDepth 100000 in
set_option maxHeartbeats 16000000 in
theorem within_step {d : Nat} (hd : d ≤ 8) (ih : ∀ e, e + 1 = d → ∀ {k : Nat} {F : Nat → Prop} {v : Value} {t : It} {w : World}, ItV w k F v t →
      Calls Tryd.prog 38 #[v, .int .i64 (e : Int)] w fun r w' => r = .returned (.bool (vld e t)) ∧ Gr w w')
    {k : Nat} {F : Nat → Prop} {v : Value} {t : It} {w : World} (hI : ItV w k F v t) :
    Calls Tryd.prog 38 #[v, .int .i64 (d : Int)] w fun e w' => e = .returned (.bool (vld d t)) ∧ Gr w w' := by
  have hd8 := hd
  obtain ⟨k0, rfl⟩ : ∃ k0, k = k0 + 1 := by cases k with
    | zero => exact hI.elim
    | succ k0 => exact ⟨k0, rfl⟩
  obtain ⟨pb, cb, pl, cl, hv, hk1, hn1, hpb, hcb, hbl, hll, hB, hL⟩ := hI; subst hv
  obtain ⟨tk, htk⟩ : ∃ z, t.k = z := ⟨_, rfl⟩; obtain ⟨tn, htn⟩ : ∃ z, t.n = z := ⟨_, rfl⟩; obtain ⟨bl, hbl2⟩ : ∃ z, t.b.length = z := ⟨_, rfl⟩; obtain ⟨ll, hll2⟩ : ∃ z, t.l.length = z := ⟨_, rfl⟩
  rw [htk] at hk1; rw [htn] at hn1; rw [hbl2] at hcb hbl; rw [hll2] at hll; have HTK := Lib.hid htk; have HTN := Lib.hid htn; have HBL := Lib.hid hbl2; have HLL := Lib.hid hll2; have HBB := Lib.hid hB; have HLS := Lib.hid hL; have HPB := Lib.hid hpb; have HI1 := Lib.hid hk1; have HI2 := Lib.hid hn1; rw [htk, htn, hbl2, hll2]; clear htk htn hbl2 hll2 hB hL hpb hk1 hn1
  obtain ⟨RES, hRS⟩ : ∃ z, vld d t = z := ⟨_, rfl⟩; rw [hRS]; have HRES := Lib.hid hRS; clear hRS
  have H := Ow.start w
  go_enter Tryd.func38, Tryd.ntmps38
  go_upto_region 0 with fail
  refine Kr.seqStartW ?_
  refine Kr.seqR (by rfl) (fun K hK => ?_)
  refine wp_runV rfl boxI ?_
  obtain ⟨y1, hy⟩ : ∃ y, w.alloc (.cells ([.int .i64 tk, .int .i64 tn, .slice pb bl cb, .slice pl ll cl]).toArray 25) = y := ⟨_, rfl⟩
  obtain ⟨ba, hb⟩ : ∃ b, w.heap.size = b := ⟨_, rfl⟩
  rw [hy, hb]
  have hg : Gr w y1 := hy ▸ (Gr.refl _).alloc _
  replace H := H.alloc hy hb
  clear hy hb hg
  (refine Kr.outS hK (a' := ?_) ?_ ?_; rotate_left; (focus ((try simp only [Kr.PT]); first | done | rfl))); clear hK K
  (refine Kr.seqQ (v := ?_) (a' := ?_) (by rfl) ?_ ?_ ?_; rotate_left 2; (focus (go_simp; first | done | rfl)); (focus ((try simp only [Kr.PT]); first | done | rfl)))
  refine Kr.seqDoneW ?_
  go_upto_region 1 with fail
  refine Kr.seqStartW ?_
  (refine Kr.seqQ (v := .pointer (some ⟨ba, 0, none⟩)) (a' := ?_) (by rfl) ?_ ?_ ?_; rotate_left 1; (focus (go_simp; first | done | rfl)); (focus ((try simp only [Kr.PT]); first | done | rfl)))
  (refine Kr.seqQ (v := .int .i64 tk) (a' := ?_) (by rfl) ?_ ?_ ?_; rotate_left 1; (focus (exact Kr.valOf rfl (ldInt (rowCell (j := 0) (H.at 0 rfl) rfl)))); (focus ((try simp only [Kr.PT]); first | done | rfl)))
  refine Kr.seqDoneW ?_
  by_cases k1 : tk = 1
  · have C1 : decide (tk = 1) = true := decide_eq_true (by exact k1)
    have HR : Hid (RES = (decide (bl = 0) && decide (ll = 0))) := Lib.hid (by rw [← HRES.out, vld1 (HTK.out.trans k1) d, HBL.out, HLL.out]); clear k1
    go_upto_region 2 with fail
    refine Kr.seqStartW ?_
    (refine Kr.seqQ (v := .bool true) (a' := ?_) (by rfl) ?_ ?_ ?_; rotate_left 1; (focus (exact Kr.valOf rfl (eqlI C1))); (focus ((try simp only [Kr.PT]); first | done | rfl)))
    (refine Kr.seqQ (v := ?_) (a' := ?_) (by rfl) ?_ ?_ ?_; rotate_left 2; (focus (go_simp; first | done | rfl)); (focus ((try simp only [Kr.PT]); first | done | rfl)))
    refine Kr.seqDoneW ?_
    obtain ⟨b1, hb1⟩ : ∃ z, decide ((bl : Int) = 0) = z := ⟨_, rfl⟩; obtain ⟨b2, hb2⟩ : ∃ z, decide ((ll : Int) = 0) = z := ⟨_, rfl⟩
    have hr2 : (decide (bl = 0) && decide (ll = 0)) = (b1 && b2) := by rw [← hb1, ← hb2, Bool.eq_iff_iff]; simp
    have HR2 := Lib.hid (HR.out.trans hr2); clear hr2
    cases b1
    · have hr : RES = false := HR2.out; subst hr
      go_upto_region 3 with fail
      refine Kr.seqStartW ?_
      (refine Kr.seqQ (v := .pointer (some ⟨ba, 2, none⟩)) (a' := ?_) (by rfl) ?_ ?_ ?_; rotate_left 1; (focus (go_simp; first | done | rfl)); (focus ((try simp only [Kr.PT]); first | done | rfl)))
      (refine Kr.seqQ (v := .slice pb bl cb) (a' := ?_) (by rfl) ?_ ?_ ?_; rotate_left 1; (focus (exact Kr.valOf rfl (ldSl (rowCell (j := 2) (H.at 0 rfl) rfl)))); (focus ((try simp only [Kr.PT]); first | done | rfl)))
      (refine Kr.seqQ (v := .int .i64 (bl : Int)) (a' := ?_) (by rfl) ?_ ?_ ?_; rotate_left 1; (focus (exact Kr.valOf rfl ((by go_simp)))); (focus ((try simp only [Kr.PT]); first | done | rfl)))
      (refine Kr.seqQ (v := .bool false) (a' := ?_) (by rfl) ?_ ?_ ?_; rotate_left 1; (focus (exact Kr.valOf rfl (eqlI hb1))); (focus ((try simp only [Kr.PT]); first | done | rfl)))
      (refine Kr.seqQ (v := ?_) (a' := ?_) (by rfl) ?_ ?_ ?_; rotate_left 2; (focus (go_simp; first | done | rfl)); (focus ((try simp only [Kr.PT]); first | done | rfl)))
      (refine Kr.seqSkipQ (a' := ?_) (by rfl) ?_ ?_; rotate_left; (focus ((try simp only [Kr.PT]); first | done | rfl)))
      (refine Kr.seqSkipQ (a' := ?_) (by rfl) ?_ ?_; rotate_left; (focus ((try simp only [Kr.PT]); first | done | rfl)))
      (refine Kr.seqSkipQ (a' := ?_) (by rfl) ?_ ?_; rotate_left; (focus ((try simp only [Kr.PT]); first | done | rfl)))
      (refine Kr.seqSkipQ (a' := ?_) (by rfl) ?_ ?_; rotate_left; (focus ((try simp only [Kr.PT]); first | done | rfl)))
      (refine Kr.seqQ (v := ?_) (a' := ?_) (by rfl) ?_ ?_ ?_; rotate_left 2; (focus (go_simp; first | done | rfl)); (focus ((try simp only [Kr.PT]); first | done | rfl)))
      (refine Kr.seqQ (v := ?_) (a' := ?_) (by rfl) ?_ ?_ ?_; rotate_left 2; (focus (go_simp; first | done | rfl)); (focus ((try simp only [Kr.PT]); first | done | rfl)))
      refine Kr.seqDoneW ?_
      have hk := trivial
      go_wp2
      refine bodyPost_ret (v := .bool false) (by simp [results, Tryd.results38, go_sem, hk]) rfl ⟨rfl, H.g⟩
    · have hr : RES = b2 := HR2.out; subst hr
      go_upto_region 3 with fail
      refine Kr.seqStartW ?_
      (refine Kr.seqQ (v := .pointer (some ⟨ba, 2, none⟩)) (a' := ?_) (by rfl) ?_ ?_ ?_; rotate_left 1; (focus (go_simp; first | done | rfl)); (focus ((try simp only [Kr.PT]); first | done | rfl)))
      (refine Kr.seqQ (v := .slice pb bl cb) (a' := ?_) (by rfl) ?_ ?_ ?_; rotate_left 1; (focus (exact Kr.valOf rfl (ldSl (rowCell (j := 2) (H.at 0 rfl) rfl)))); (focus ((try simp only [Kr.PT]); first | done | rfl)))
      (refine Kr.seqQ (v := .int .i64 (bl : Int)) (a' := ?_) (by rfl) ?_ ?_ ?_; rotate_left 1; (focus (exact Kr.valOf rfl ((by go_simp)))); (focus ((try simp only [Kr.PT]); first | done | rfl)))
      (refine Kr.seqQ (v := .bool true) (a' := ?_) (by rfl) ?_ ?_ ?_; rotate_left 1; (focus (exact Kr.valOf rfl (eqlI hb1))); (focus ((try simp only [Kr.PT]); first | done | rfl)))
      (refine Kr.seqQ (v := ?_) (a' := ?_) (by rfl) ?_ ?_ ?_; rotate_left 2; (focus (go_simp; first | done | rfl)); (focus ((try simp only [Kr.PT]); first | done | rfl)))
      (refine Kr.seqQ (v := .pointer (some ⟨ba, 3, none⟩)) (a' := ?_) (by rfl) ?_ ?_ ?_; rotate_left 1; (focus (go_simp; first | done | rfl)); (focus ((try simp only [Kr.PT]); first | done | rfl)))
      (refine Kr.seqQ (v := .slice pl ll cl) (a' := ?_) (by rfl) ?_ ?_ ?_; rotate_left 1; (focus (exact Kr.valOf rfl (ldLs (rowCell (j := 3) (H.at 0 rfl) rfl)))); (focus ((try simp only [Kr.PT]); first | done | rfl)))
      (refine Kr.seqQ (v := .int .i64 (ll : Int)) (a' := ?_) (by rfl) ?_ ?_ ?_; rotate_left 1; (focus (exact Kr.valOf rfl ((by go_simp)))); (focus ((try simp only [Kr.PT]); first | done | rfl)))
      (refine Kr.seqQ (v := .bool RES) (a' := ?_) (by rfl) ?_ ?_ ?_; rotate_left 1; (focus (exact Kr.valOf rfl (eqlI hb2))); (focus ((try simp only [Kr.PT]); first | done | rfl)))
      (refine Kr.seqQ (v := ?_) (a' := ?_) (by rfl) ?_ ?_ ?_; rotate_left 2; (focus (go_simp; first | done | rfl)); (focus ((try simp only [Kr.PT]); first | done | rfl)))
      (refine Kr.seqQ (v := ?_) (a' := ?_) (by rfl) ?_ ?_ ?_; rotate_left 2; (focus (go_simp; first | done | rfl)); (focus ((try simp only [Kr.PT]); first | done | rfl)))
      refine Kr.seqDoneW ?_
      have hk := trivial
      go_wp2
      refine bodyPost_ret (v := .bool RES) (by simp [results, Tryd.results38, go_sem, hk]) rfl ⟨rfl, H.g⟩
  by_cases k2 : tk = 2
  · have C1 : decide (tk = 1) = false := decide_eq_false (by exact k1)
    have C2 : decide (tk = 2) = true := decide_eq_true (by exact k2)
    have HR : Hid (RES = (decide (tn = 0) && decide (ll = 0))) := Lib.hid (by rw [← HRES.out, vld2 (HTK.out.trans k2) d, HTN.out, HLL.out]); clear k1 k2
    go_upto_region 2 with fail
    refine Kr.seqStartW ?_
    (refine Kr.seqQ (v := .bool false) (a' := ?_) (by rfl) ?_ ?_ ?_; rotate_left 1; (focus (exact Kr.valOf rfl (eqlI C1))); (focus ((try simp only [Kr.PT]); first | done | rfl)))
    (refine Kr.seqQ (v := ?_) (a' := ?_) (by rfl) ?_ ?_ ?_; rotate_left 2; (focus (go_simp; first | done | rfl)); (focus ((try simp only [Kr.PT]); first | done | rfl)))
    refine Kr.seqDoneW ?_
    go_upto_region 4 with fail
    refine Kr.seqStartW ?_
    (refine Kr.seqQ (v := .bool true) (a' := ?_) (by rfl) ?_ ?_ ?_; rotate_left 1; (focus (exact Kr.valOf rfl (eqlI C2))); (focus ((try simp only [Kr.PT]); first | done | rfl)))
    (refine Kr.seqQ (v := ?_) (a' := ?_) (by rfl) ?_ ?_ ?_; rotate_left 2; (focus (go_simp; first | done | rfl)); (focus ((try simp only [Kr.PT]); first | done | rfl)))
    refine Kr.seqDoneW ?_
    obtain ⟨b1, hb1⟩ : ∃ z, decide (tn = 0) = z := ⟨_, rfl⟩; obtain ⟨b2, hb2⟩ : ∃ z, decide ((ll : Int) = 0) = z := ⟨_, rfl⟩
    have hr2 : (decide (tn = 0) && decide (ll = 0)) = (b1 && b2) := by rw [← hb1, ← hb2, Bool.eq_iff_iff]; simp
    have HR2 := Lib.hid (HR.out.trans hr2); clear hr2
    cases b1
    · have hr : RES = false := HR2.out; subst hr
      go_upto_region 5 with fail
      refine Kr.seqStartW ?_
      (refine Kr.seqQ (v := .pointer (some ⟨ba, 1, none⟩)) (a' := ?_) (by rfl) ?_ ?_ ?_; rotate_left 1; (focus (go_simp; first | done | rfl)); (focus ((try simp only [Kr.PT]); first | done | rfl)))
      (refine Kr.seqQ (v := .int .i64 tn) (a' := ?_) (by rfl) ?_ ?_ ?_; rotate_left 1; (focus (exact Kr.valOf rfl (ldInt (rowCell (j := 1) (H.at 0 rfl) rfl)))); (focus ((try simp only [Kr.PT]); first | done | rfl)))
      (refine Kr.seqQ (v := .bool false) (a' := ?_) (by rfl) ?_ ?_ ?_; rotate_left 1; (focus (exact Kr.valOf rfl (eqlI hb1))); (focus ((try simp only [Kr.PT]); first | done | rfl)))
      (refine Kr.seqQ (v := ?_) (a' := ?_) (by rfl) ?_ ?_ ?_; rotate_left 2; (focus (go_simp; first | done | rfl)); (focus ((try simp only [Kr.PT]); first | done | rfl)))
      (refine Kr.seqSkipQ (a' := ?_) (by rfl) ?_ ?_; rotate_left; (focus ((try simp only [Kr.PT]); first | done | rfl)))
      (refine Kr.seqSkipQ (a' := ?_) (by rfl) ?_ ?_; rotate_left; (focus ((try simp only [Kr.PT]); first | done | rfl)))
      (refine Kr.seqSkipQ (a' := ?_) (by rfl) ?_ ?_; rotate_left; (focus ((try simp only [Kr.PT]); first | done | rfl)))
      (refine Kr.seqSkipQ (a' := ?_) (by rfl) ?_ ?_; rotate_left; (focus ((try simp only [Kr.PT]); first | done | rfl)))
      (refine Kr.seqQ (v := ?_) (a' := ?_) (by rfl) ?_ ?_ ?_; rotate_left 2; (focus (go_simp; first | done | rfl)); (focus ((try simp only [Kr.PT]); first | done | rfl)))
      (refine Kr.seqQ (v := ?_) (a' := ?_) (by rfl) ?_ ?_ ?_; rotate_left 2; (focus (go_simp; first | done | rfl)); (focus ((try simp only [Kr.PT]); first | done | rfl)))
      refine Kr.seqDoneW ?_
      have hk := trivial
      go_wp2
      refine bodyPost_ret (v := .bool false) (by simp [results, Tryd.results38, go_sem, hk]) rfl ⟨rfl, H.g⟩
    · have hr : RES = b2 := HR2.out; subst hr
      go_upto_region 5 with fail
      refine Kr.seqStartW ?_
      (refine Kr.seqQ (v := .pointer (some ⟨ba, 1, none⟩)) (a' := ?_) (by rfl) ?_ ?_ ?_; rotate_left 1; (focus (go_simp; first | done | rfl)); (focus ((try simp only [Kr.PT]); first | done | rfl)))
      (refine Kr.seqQ (v := .int .i64 tn) (a' := ?_) (by rfl) ?_ ?_ ?_; rotate_left 1; (focus (exact Kr.valOf rfl (ldInt (rowCell (j := 1) (H.at 0 rfl) rfl)))); (focus ((try simp only [Kr.PT]); first | done | rfl)))
      (refine Kr.seqQ (v := .bool true) (a' := ?_) (by rfl) ?_ ?_ ?_; rotate_left 1; (focus (exact Kr.valOf rfl (eqlI hb1))); (focus ((try simp only [Kr.PT]); first | done | rfl)))
      (refine Kr.seqQ (v := ?_) (a' := ?_) (by rfl) ?_ ?_ ?_; rotate_left 2; (focus (go_simp; first | done | rfl)); (focus ((try simp only [Kr.PT]); first | done | rfl)))
      (refine Kr.seqQ (v := .pointer (some ⟨ba, 3, none⟩)) (a' := ?_) (by rfl) ?_ ?_ ?_; rotate_left 1; (focus (go_simp; first | done | rfl)); (focus ((try simp only [Kr.PT]); first | done | rfl)))
      (refine Kr.seqQ (v := .slice pl ll cl) (a' := ?_) (by rfl) ?_ ?_ ?_; rotate_left 1; (focus (exact Kr.valOf rfl (ldLs (rowCell (j := 3) (H.at 0 rfl) rfl)))); (focus ((try simp only [Kr.PT]); first | done | rfl)))
      (refine Kr.seqQ (v := .int .i64 (ll : Int)) (a' := ?_) (by rfl) ?_ ?_ ?_; rotate_left 1; (focus (exact Kr.valOf rfl ((by go_simp)))); (focus ((try simp only [Kr.PT]); first | done | rfl)))
      (refine Kr.seqQ (v := .bool RES) (a' := ?_) (by rfl) ?_ ?_ ?_; rotate_left 1; (focus (exact Kr.valOf rfl (eqlI hb2))); (focus ((try simp only [Kr.PT]); first | done | rfl)))
      (refine Kr.seqQ (v := ?_) (a' := ?_) (by rfl) ?_ ?_ ?_; rotate_left 2; (focus (go_simp; first | done | rfl)); (focus ((try simp only [Kr.PT]); first | done | rfl)))
      (refine Kr.seqQ (v := ?_) (a' := ?_) (by rfl) ?_ ?_ ?_; rotate_left 2; (focus (go_simp; first | done | rfl)); (focus ((try simp only [Kr.PT]); first | done | rfl)))
      refine Kr.seqDoneW ?_
      have hk := trivial
      go_wp2
      refine bodyPost_ret (v := .bool RES) (by simp [results, Tryd.results38, go_sem, hk]) rfl ⟨rfl, H.g⟩
  by_cases k3 : tk = 3
  · have C1 : decide (tk = 1) = false := decide_eq_false (by exact k1)
    have C2 : decide (tk = 2) = false := decide_eq_false (by exact k2)
    have C3 : decide (tk = 3) = true := decide_eq_true (by exact k3)
    have HK3 := Lib.hid (HTK.out.trans k3); clear k1 k2 k3
    go_upto_region 2 with fail
    refine Kr.seqStartW ?_
    (refine Kr.seqQ (v := .bool false) (a' := ?_) (by rfl) ?_ ?_ ?_; rotate_left 1; (focus (exact Kr.valOf rfl (eqlI C1))); (focus ((try simp only [Kr.PT]); first | done | rfl)))
    (refine Kr.seqQ (v := ?_) (a' := ?_) (by rfl) ?_ ?_ ?_; rotate_left 2; (focus (go_simp; first | done | rfl)); (focus ((try simp only [Kr.PT]); first | done | rfl)))
    refine Kr.seqDoneW ?_
    go_upto_region 4 with fail
    refine Kr.seqStartW ?_
    (refine Kr.seqQ (v := .bool false) (a' := ?_) (by rfl) ?_ ?_ ?_; rotate_left 1; (focus (exact Kr.valOf rfl (eqlI C2))); (focus ((try simp only [Kr.PT]); first | done | rfl)))
    (refine Kr.seqQ (v := ?_) (a' := ?_) (by rfl) ?_ ?_ ?_; rotate_left 2; (focus (go_simp; first | done | rfl)); (focus ((try simp only [Kr.PT]); first | done | rfl)))
    refine Kr.seqDoneW ?_
    go_upto_region 6 with fail
    refine Kr.seqStartW ?_
    (refine Kr.seqQ (v := .bool true) (a' := ?_) (by rfl) ?_ ?_ ?_; rotate_left 1; (focus (exact Kr.valOf rfl (eqlI C3))); (focus ((try simp only [Kr.PT]); first | done | rfl)))
    (refine Kr.seqQ (v := ?_) (a' := ?_) (by rfl) ?_ ?_ ?_; rotate_left 2; (focus (go_simp; first | done | rfl)); (focus ((try simp only [Kr.PT]); first | done | rfl)))
    refine Kr.seqDoneW ?_
    cases d with
    | zero =>
      have hr : RES = false := by rw [← HRES.out, vld30 HK3.out]
      subst hr
      have C4 : decide (((0 : Nat) : Int) = 0) = true := decide_eq_true (by omega)
      go_upto_region 7 with fail
      refine Kr.seqStartW ?_
      (refine Kr.seqQ (v := ?_) (a' := ?_) (by rfl) ?_ ?_ ?_; rotate_left 2; (focus (go_simp; first | done | rfl)); (focus ((try simp only [Kr.PT]); first | done | rfl)))
      (refine Kr.seqQ (v := .bool true) (a' := ?_) (by rfl) ?_ ?_ ?_; rotate_left 1; (focus (exact Kr.valOf rfl (eqlI C4))); (focus ((try simp only [Kr.PT]); first | done | rfl)))
      (refine Kr.seqQ (v := ?_) (a' := ?_) (by rfl) ?_ ?_ ?_; rotate_left 2; (focus (go_simp; first | done | rfl)); (focus ((try simp only [Kr.PT]); first | done | rfl)))
      (refine Kr.seqSkipQ (a' := ?_) (by rfl) ?_ ?_; rotate_left; (focus ((try simp only [Kr.PT]); first | done | rfl)))
      (refine Kr.seqSkipQ (a' := ?_) (by rfl) ?_ ?_; rotate_left; (focus ((try simp only [Kr.PT]); first | done | rfl)))
      (refine Kr.seqSkipQ (a' := ?_) (by rfl) ?_ ?_; rotate_left; (focus ((try simp only [Kr.PT]); first | done | rfl)))
      (refine Kr.seqQ (v := ?_) (a' := ?_) (by rfl) ?_ ?_ ?_; rotate_left 2; (focus (go_simp; first | done | rfl)); (focus ((try simp only [Kr.PT]); first | done | rfl)))
      (refine Kr.seqQ (v := ?_) (a' := ?_) (by rfl) ?_ ?_ ?_; rotate_left 2; (focus (go_simp; first | done | rfl)); (focus ((try simp only [Kr.PT]); first | done | rfl)))
      (refine Kr.seqSkipQ (a' := ?_) (by rfl) ?_ ?_; rotate_left; (focus ((try simp only [Kr.PT]); first | done | rfl)))
      (refine Kr.seqSkipQ (a' := ?_) (by rfl) ?_ ?_; rotate_left; (focus ((try simp only [Kr.PT]); first | done | rfl)))
      (refine Kr.seqSkipQ (a' := ?_) (by rfl) ?_ ?_; rotate_left; (focus ((try simp only [Kr.PT]); first | done | rfl)))
      (refine Kr.seqSkipQ (a' := ?_) (by rfl) ?_ ?_; rotate_left; (focus ((try simp only [Kr.PT]); first | done | rfl)))
      (refine Kr.seqQ (v := ?_) (a' := ?_) (by rfl) ?_ ?_ ?_; rotate_left 2; (focus (go_simp; first | done | rfl)); (focus ((try simp only [Kr.PT]); first | done | rfl)))
      (refine Kr.seqQ (v := ?_) (a' := ?_) (by rfl) ?_ ?_ ?_; rotate_left 2; (focus (go_simp; first | done | rfl)); (focus ((try simp only [Kr.PT]); first | done | rfl)))
      (refine Kr.seqSkipQ (a' := ?_) (by rfl) ?_ ?_; rotate_left; (focus ((try simp only [Kr.PT]); first | done | rfl)))
      (refine Kr.seqSkipQ (a' := ?_) (by rfl) ?_ ?_; rotate_left; (focus ((try simp only [Kr.PT]); first | done | rfl)))
      (refine Kr.seqSkipQ (a' := ?_) (by rfl) ?_ ?_; rotate_left; (focus ((try simp only [Kr.PT]); first | done | rfl)))
      (refine Kr.seqSkipQ (a' := ?_) (by rfl) ?_ ?_; rotate_left; (focus ((try simp only [Kr.PT]); first | done | rfl)))
      (refine Kr.seqQ (v := ?_) (a' := ?_) (by rfl) ?_ ?_ ?_; rotate_left 2; (focus (go_simp; first | done | rfl)); (focus ((try simp only [Kr.PT]); first | done | rfl)))
      refine Kr.seqDoneW ?_
      go_upto_region 8 with fail
      refine Kr.seqStartW ?_
      (refine Kr.seqQ (v := ?_) (a' := ?_) (by rfl) ?_ ?_ ?_; rotate_left 2; (focus (go_simp; first | done | rfl)); (focus ((try simp only [Kr.PT]); first | done | rfl)))
      refine Kr.seqDoneW ?_
      have hk := trivial
      go_wp2
      refine bodyPost_ret (v := .bool false) (by simp [results, Tryd.results38, go_sem, hk]) rfl ⟨rfl, H.g⟩
    | succ d =>
      have HR3 : Hid (RES = (decide (tn = 0) && (decide (bl = 0) && (decide (ll ≤ 1000) && t.l.all (vld d))))) := Lib.hid (by rw [← HRES.out, vld3 HK3.out d, HTN.out, HBL.out, HLL.out])
      have C4 : decide (((d + 1 : Nat) : Int) = 0) = false := decide_eq_false (by omega)
      by_cases n0 : tn ≠ 0
      · have hr : RES = false := by rw [HR3.out, decide_eq_false n0, Bool.false_and]
        subst hr
        have C5 : (!decide (tn = 0)) = true := by rw [decide_eq_false n0]; rfl
        go_upto_region 7 with fail
        refine Kr.seqStartW ?_
        (refine Kr.seqQ (v := ?_) (a' := ?_) (by rfl) ?_ ?_ ?_; rotate_left 2; (focus (go_simp; first | done | rfl)); (focus ((try simp only [Kr.PT]); first | done | rfl)))
        (refine Kr.seqQ (v := .bool false) (a' := ?_) (by rfl) ?_ ?_ ?_; rotate_left 1; (focus (exact Kr.valOf rfl (eqlI C4))); (focus ((try simp only [Kr.PT]); first | done | rfl)))
        (refine Kr.seqQ (v := ?_) (a' := ?_) (by rfl) ?_ ?_ ?_; rotate_left 2; (focus (go_simp; first | done | rfl)); (focus ((try simp only [Kr.PT]); first | done | rfl)))
        (refine Kr.seqQ (v := .pointer (some ⟨ba, 1, none⟩)) (a' := ?_) (by rfl) ?_ ?_ ?_; rotate_left 1; (focus (go_simp; first | done | rfl)); (focus ((try simp only [Kr.PT]); first | done | rfl)))
        (refine Kr.seqQ (v := .int .i64 tn) (a' := ?_) (by rfl) ?_ ?_ ?_; rotate_left 1; (focus (exact Kr.valOf rfl (ldInt (rowCell (j := 1) (H.at 0 rfl) rfl)))); (focus ((try simp only [Kr.PT]); first | done | rfl)))
        (refine Kr.seqQ (v := .bool true) (a' := ?_) (by rfl) ?_ ?_ ?_; rotate_left 1; (focus (exact Kr.valOf rfl (neqI C5))); (focus ((try simp only [Kr.PT]); first | done | rfl)))
        (refine Kr.seqQ (v := ?_) (a' := ?_) (by rfl) ?_ ?_ ?_; rotate_left 2; (focus (go_simp; first | done | rfl)); (focus ((try simp only [Kr.PT]); first | done | rfl)))
        (refine Kr.seqQ (v := ?_) (a' := ?_) (by rfl) ?_ ?_ ?_; rotate_left 2; (focus (go_simp; first | done | rfl)); (focus ((try simp only [Kr.PT]); first | done | rfl)))
        (refine Kr.seqSkipQ (a' := ?_) (by rfl) ?_ ?_; rotate_left; (focus ((try simp only [Kr.PT]); first | done | rfl)))
        (refine Kr.seqSkipQ (a' := ?_) (by rfl) ?_ ?_; rotate_left; (focus ((try simp only [Kr.PT]); first | done | rfl)))
        (refine Kr.seqSkipQ (a' := ?_) (by rfl) ?_ ?_; rotate_left; (focus ((try simp only [Kr.PT]); first | done | rfl)))
        (refine Kr.seqSkipQ (a' := ?_) (by rfl) ?_ ?_; rotate_left; (focus ((try simp only [Kr.PT]); first | done | rfl)))
        (refine Kr.seqQ (v := ?_) (a' := ?_) (by rfl) ?_ ?_ ?_; rotate_left 2; (focus (go_simp; first | done | rfl)); (focus ((try simp only [Kr.PT]); first | done | rfl)))
        (refine Kr.seqQ (v := ?_) (a' := ?_) (by rfl) ?_ ?_ ?_; rotate_left 2; (focus (go_simp; first | done | rfl)); (focus ((try simp only [Kr.PT]); first | done | rfl)))
        (refine Kr.seqSkipQ (a' := ?_) (by rfl) ?_ ?_; rotate_left; (focus ((try simp only [Kr.PT]); first | done | rfl)))
        (refine Kr.seqSkipQ (a' := ?_) (by rfl) ?_ ?_; rotate_left; (focus ((try simp only [Kr.PT]); first | done | rfl)))
        (refine Kr.seqSkipQ (a' := ?_) (by rfl) ?_ ?_; rotate_left; (focus ((try simp only [Kr.PT]); first | done | rfl)))
        (refine Kr.seqSkipQ (a' := ?_) (by rfl) ?_ ?_; rotate_left; (focus ((try simp only [Kr.PT]); first | done | rfl)))
        (refine Kr.seqQ (v := ?_) (a' := ?_) (by rfl) ?_ ?_ ?_; rotate_left 2; (focus (go_simp; first | done | rfl)); (focus ((try simp only [Kr.PT]); first | done | rfl)))
        refine Kr.seqDoneW ?_
        go_upto_region 8 with fail
        refine Kr.seqStartW ?_
        (refine Kr.seqQ (v := ?_) (a' := ?_) (by rfl) ?_ ?_ ?_; rotate_left 2; (focus (go_simp; first | done | rfl)); (focus ((try simp only [Kr.PT]); first | done | rfl)))
        refine Kr.seqDoneW ?_
        have hk := trivial
        go_wp2
        refine bodyPost_ret (v := .bool false) (by simp [results, Tryd.results38, go_sem, hk]) rfl ⟨rfl, H.g⟩
      replace n0 : tn = 0 := Decidable.of_not_not n0
      by_cases m0 : bl ≠ 0
      · have hr : RES = false := by rw [HR3.out, decide_eq_false m0, Bool.false_and, Bool.and_false]
        subst hr
        have C5 : (!decide (tn = 0)) = false := by rw [decide_eq_true n0]; rfl
        have C6 : decide ((0 : Int) < (bl : Int)) = true := decide_eq_true (by omega)
        have N0 := Lib.hid n0; clear n0
        go_upto_region 7 with fail
        refine Kr.seqStartW ?_
        (refine Kr.seqQ (v := ?_) (a' := ?_) (by rfl) ?_ ?_ ?_; rotate_left 2; (focus (go_simp; first | done | rfl)); (focus ((try simp only [Kr.PT]); first | done | rfl)))
        (refine Kr.seqQ (v := .bool false) (a' := ?_) (by rfl) ?_ ?_ ?_; rotate_left 1; (focus (exact Kr.valOf rfl (eqlI C4))); (focus ((try simp only [Kr.PT]); first | done | rfl)))
        (refine Kr.seqQ (v := ?_) (a' := ?_) (by rfl) ?_ ?_ ?_; rotate_left 2; (focus (go_simp; first | done | rfl)); (focus ((try simp only [Kr.PT]); first | done | rfl)))
        (refine Kr.seqQ (v := .pointer (some ⟨ba, 1, none⟩)) (a' := ?_) (by rfl) ?_ ?_ ?_; rotate_left 1; (focus (go_simp; first | done | rfl)); (focus ((try simp only [Kr.PT]); first | done | rfl)))
        (refine Kr.seqQ (v := .int .i64 tn) (a' := ?_) (by rfl) ?_ ?_ ?_; rotate_left 1; (focus (exact Kr.valOf rfl (ldInt (rowCell (j := 1) (H.at 0 rfl) rfl)))); (focus ((try simp only [Kr.PT]); first | done | rfl)))
        (refine Kr.seqQ (v := .bool false) (a' := ?_) (by rfl) ?_ ?_ ?_; rotate_left 1; (focus (exact Kr.valOf rfl (neqI C5))); (focus ((try simp only [Kr.PT]); first | done | rfl)))
        (refine Kr.seqQ (v := ?_) (a' := ?_) (by rfl) ?_ ?_ ?_; rotate_left 2; (focus (go_simp; first | done | rfl)); (focus ((try simp only [Kr.PT]); first | done | rfl)))
        (refine Kr.seqQ (v := ?_) (a' := ?_) (by rfl) ?_ ?_ ?_; rotate_left 2; (focus (go_simp; first | done | rfl)); (focus ((try simp only [Kr.PT]); first | done | rfl)))
        (refine Kr.seqQ (v := .pointer (some ⟨ba, 2, none⟩)) (a' := ?_) (by rfl) ?_ ?_ ?_; rotate_left 1; (focus (go_simp; first | done | rfl)); (focus ((try simp only [Kr.PT]); first | done | rfl)))
        (refine Kr.seqQ (v := .slice pb bl cb) (a' := ?_) (by rfl) ?_ ?_ ?_; rotate_left 1; (focus (exact Kr.valOf rfl (ldSl (rowCell (j := 2) (H.at 0 rfl) rfl)))); (focus ((try simp only [Kr.PT]); first | done | rfl)))
        (refine Kr.seqQ (v := .int .i64 (bl : Int)) (a' := ?_) (by rfl) ?_ ?_ ?_; rotate_left 1; (focus (exact Kr.valOf rfl ((by go_simp)))); (focus ((try simp only [Kr.PT]); first | done | rfl)))
        (refine Kr.seqQ (v := .bool true) (a' := ?_) (by rfl) ?_ ?_ ?_; rotate_left 1; (focus (exact Kr.valOf rfl (gtrI C6))); (focus ((try simp only [Kr.PT]); first | done | rfl)))
        (refine Kr.seqQ (v := ?_) (a' := ?_) (by rfl) ?_ ?_ ?_; rotate_left 2; (focus (go_simp; first | done | rfl)); (focus ((try simp only [Kr.PT]); first | done | rfl)))
        (refine Kr.seqQ (v := ?_) (a' := ?_) (by rfl) ?_ ?_ ?_; rotate_left 2; (focus (go_simp; first | done | rfl)); (focus ((try simp only [Kr.PT]); first | done | rfl)))
        (refine Kr.seqSkipQ (a' := ?_) (by rfl) ?_ ?_; rotate_left; (focus ((try simp only [Kr.PT]); first | done | rfl)))
        (refine Kr.seqSkipQ (a' := ?_) (by rfl) ?_ ?_; rotate_left; (focus ((try simp only [Kr.PT]); first | done | rfl)))
        (refine Kr.seqSkipQ (a' := ?_) (by rfl) ?_ ?_; rotate_left; (focus ((try simp only [Kr.PT]); first | done | rfl)))
        (refine Kr.seqSkipQ (a' := ?_) (by rfl) ?_ ?_; rotate_left; (focus ((try simp only [Kr.PT]); first | done | rfl)))
        (refine Kr.seqQ (v := ?_) (a' := ?_) (by rfl) ?_ ?_ ?_; rotate_left 2; (focus (go_simp; first | done | rfl)); (focus ((try simp only [Kr.PT]); first | done | rfl)))
        refine Kr.seqDoneW ?_
        go_upto_region 8 with fail
        refine Kr.seqStartW ?_
        (refine Kr.seqQ (v := ?_) (a' := ?_) (by rfl) ?_ ?_ ?_; rotate_left 2; (focus (go_simp; first | done | rfl)); (focus ((try simp only [Kr.PT]); first | done | rfl)))
        refine Kr.seqDoneW ?_
        have hk := trivial
        go_wp2
        refine bodyPost_ret (v := .bool false) (by simp [results, Tryd.results38, go_sem, hk]) rfl ⟨rfl, H.g⟩
      replace m0 : bl = 0 := Decidable.of_not_not m0
      by_cases q0 : ¬ ll ≤ 1000
      · have hr : RES = false := by rw [HR3.out, decide_eq_false q0, Bool.false_and, Bool.and_false, Bool.and_false]
        subst hr
        have C5 : (!decide (tn = 0)) = false := by rw [decide_eq_true n0]; rfl
        have C6 : decide ((0 : Int) < (bl : Int)) = false := decide_eq_false (by omega)
        have C7 : decide ((1000 : Int) < (ll : Int)) = true := decide_eq_true (by omega)
        have N0 := Lib.hid n0; have M0 := Lib.hid m0; clear n0 m0
        go_upto_region 7 with fail
        refine Kr.seqStartW ?_
        (refine Kr.seqQ (v := ?_) (a' := ?_) (by rfl) ?_ ?_ ?_; rotate_left 2; (focus (go_simp; first | done | rfl)); (focus ((try simp only [Kr.PT]); first | done | rfl)))
        (refine Kr.seqQ (v := .bool false) (a' := ?_) (by rfl) ?_ ?_ ?_; rotate_left 1; (focus (exact Kr.valOf rfl (eqlI C4))); (focus ((try simp only [Kr.PT]); first | done | rfl)))
        (refine Kr.seqQ (v := ?_) (a' := ?_) (by rfl) ?_ ?_ ?_; rotate_left 2; (focus (go_simp; first | done | rfl)); (focus ((try simp only [Kr.PT]); first | done | rfl)))
        (refine Kr.seqQ (v := .pointer (some ⟨ba, 1, none⟩)) (a' := ?_) (by rfl) ?_ ?_ ?_; rotate_left 1; (focus (go_simp; first | done | rfl)); (focus ((try simp only [Kr.PT]); first | done | rfl)))
        (refine Kr.seqQ (v := .int .i64 tn) (a' := ?_) (by rfl) ?_ ?_ ?_; rotate_left 1; (focus (exact Kr.valOf rfl (ldInt (rowCell (j := 1) (H.at 0 rfl) rfl)))); (focus ((try simp only [Kr.PT]); first | done | rfl)))
        (refine Kr.seqQ (v := .bool false) (a' := ?_) (by rfl) ?_ ?_ ?_; rotate_left 1; (focus (exact Kr.valOf rfl (neqI C5))); (focus ((try simp only [Kr.PT]); first | done | rfl)))
        (refine Kr.seqQ (v := ?_) (a' := ?_) (by rfl) ?_ ?_ ?_; rotate_left 2; (focus (go_simp; first | done | rfl)); (focus ((try simp only [Kr.PT]); first | done | rfl)))
        (refine Kr.seqQ (v := ?_) (a' := ?_) (by rfl) ?_ ?_ ?_; rotate_left 2; (focus (go_simp; first | done | rfl)); (focus ((try simp only [Kr.PT]); first | done | rfl)))
        (refine Kr.seqQ (v := .pointer (some ⟨ba, 2, none⟩)) (a' := ?_) (by rfl) ?_ ?_ ?_; rotate_left 1; (focus (go_simp; first | done | rfl)); (focus ((try simp only [Kr.PT]); first | done | rfl)))
        (refine Kr.seqQ (v := .slice pb bl cb) (a' := ?_) (by rfl) ?_ ?_ ?_; rotate_left 1; (focus (exact Kr.valOf rfl (ldSl (rowCell (j := 2) (H.at 0 rfl) rfl)))); (focus ((try simp only [Kr.PT]); first | done | rfl)))
        (refine Kr.seqQ (v := .int .i64 (bl : Int)) (a' := ?_) (by rfl) ?_ ?_ ?_; rotate_left 1; (focus (exact Kr.valOf rfl ((by go_simp)))); (focus ((try simp only [Kr.PT]); first | done | rfl)))
        (refine Kr.seqQ (v := .bool false) (a' := ?_) (by rfl) ?_ ?_ ?_; rotate_left 1; (focus (exact Kr.valOf rfl (gtrI C6))); (focus ((try simp only [Kr.PT]); first | done | rfl)))
        (refine Kr.seqQ (v := ?_) (a' := ?_) (by rfl) ?_ ?_ ?_; rotate_left 2; (focus (go_simp; first | done | rfl)); (focus ((try simp only [Kr.PT]); first | done | rfl)))
        (refine Kr.seqQ (v := ?_) (a' := ?_) (by rfl) ?_ ?_ ?_; rotate_left 2; (focus (go_simp; first | done | rfl)); (focus ((try simp only [Kr.PT]); first | done | rfl)))
        (refine Kr.seqQ (v := .pointer (some ⟨ba, 3, none⟩)) (a' := ?_) (by rfl) ?_ ?_ ?_; rotate_left 1; (focus (go_simp; first | done | rfl)); (focus ((try simp only [Kr.PT]); first | done | rfl)))
        (refine Kr.seqQ (v := .slice pl ll cl) (a' := ?_) (by rfl) ?_ ?_ ?_; rotate_left 1; (focus (exact Kr.valOf rfl (ldLs (rowCell (j := 3) (H.at 0 rfl) rfl)))); (focus ((try simp only [Kr.PT]); first | done | rfl)))
        (refine Kr.seqQ (v := .int .i64 (ll : Int)) (a' := ?_) (by rfl) ?_ ?_ ?_; rotate_left 1; (focus (exact Kr.valOf rfl ((by go_simp)))); (focus ((try simp only [Kr.PT]); first | done | rfl)))
        (refine Kr.seqQ (v := .bool true) (a' := ?_) (by rfl) ?_ ?_ ?_; rotate_left 1; (focus (exact Kr.valOf rfl (gtrI C7))); (focus ((try simp only [Kr.PT]); first | done | rfl)))
        (refine Kr.seqQ (v := ?_) (a' := ?_) (by rfl) ?_ ?_ ?_; rotate_left 2; (focus (go_simp; first | done | rfl)); (focus ((try simp only [Kr.PT]); first | done | rfl)))
        refine Kr.seqDoneW ?_
        go_upto_region 8 with fail
        refine Kr.seqStartW ?_
        (refine Kr.seqQ (v := ?_) (a' := ?_) (by rfl) ?_ ?_ ?_; rotate_left 2; (focus (go_simp; first | done | rfl)); (focus ((try simp only [Kr.PT]); first | done | rfl)))
        refine Kr.seqDoneW ?_
        have hk := trivial
        go_wp2
        refine bodyPost_ret (v := .bool false) (by simp [results, Tryd.results38, go_sem, hk]) rfl ⟨rfl, H.g⟩
      replace q0 : ll ≤ 1000 := Decidable.of_not_not q0
      have HBV : Hid (t.l.all (vld d) = RES) := Lib.hid (by rw [HR3.out, decide_eq_true n0, decide_eq_true m0, decide_eq_true q0, Bool.true_and, Bool.true_and, Bool.true_and])
      have C5 : (!decide (tn = 0)) = false := by rw [decide_eq_true n0]; rfl
      have C6 : decide ((0 : Int) < (bl : Int)) = false := decide_eq_false (by omega)
      have C7 : decide ((1000 : Int) < (ll : Int)) = false := decide_eq_false (by omega)
      have N0 := Lib.hid n0; have M0 := Lib.hid m0; clear n0 m0
      go_upto_region 7 with fail
      refine Kr.seqStartW ?_
      (refine Kr.seqQ (v := ?_) (a' := ?_) (by rfl) ?_ ?_ ?_; rotate_left 2; (focus (go_simp; first | done | rfl)); (focus ((try simp only [Kr.PT]); first | done | rfl)))
      (refine Kr.seqQ (v := .bool false) (a' := ?_) (by rfl) ?_ ?_ ?_; rotate_left 1; (focus (exact Kr.valOf rfl (eqlI C4))); (focus ((try simp only [Kr.PT]); first | done | rfl)))
      (refine Kr.seqQ (v := ?_) (a' := ?_) (by rfl) ?_ ?_ ?_; rotate_left 2; (focus (go_simp; first | done | rfl)); (focus ((try simp only [Kr.PT]); first | done | rfl)))
      (refine Kr.seqQ (v := .pointer (some ⟨ba, 1, none⟩)) (a' := ?_) (by rfl) ?_ ?_ ?_; rotate_left 1; (focus (go_simp; first | done | rfl)); (focus ((try simp only [Kr.PT]); first | done | rfl)))
      (refine Kr.seqQ (v := .int .i64 tn) (a' := ?_) (by rfl) ?_ ?_ ?_; rotate_left 1; (focus (exact Kr.valOf rfl (ldInt (rowCell (j := 1) (H.at 0 rfl) rfl)))); (focus ((try simp only [Kr.PT]); first | done | rfl)))
      (refine Kr.seqQ (v := .bool false) (a' := ?_) (by rfl) ?_ ?_ ?_; rotate_left 1; (focus (exact Kr.valOf rfl (neqI C5))); (focus ((try simp only [Kr.PT]); first | done | rfl)))
      (refine Kr.seqQ (v := ?_) (a' := ?_) (by rfl) ?_ ?_ ?_; rotate_left 2; (focus (go_simp; first | done | rfl)); (focus ((try simp only [Kr.PT]); first | done | rfl)))
      (refine Kr.seqQ (v := ?_) (a' := ?_) (by rfl) ?_ ?_ ?_; rotate_left 2; (focus (go_simp; first | done | rfl)); (focus ((try simp only [Kr.PT]); first | done | rfl)))
      (refine Kr.seqQ (v := .pointer (some ⟨ba, 2, none⟩)) (a' := ?_) (by rfl) ?_ ?_ ?_; rotate_left 1; (focus (go_simp; first | done | rfl)); (focus ((try simp only [Kr.PT]); first | done | rfl)))
      (refine Kr.seqQ (v := .slice pb bl cb) (a' := ?_) (by rfl) ?_ ?_ ?_; rotate_left 1; (focus (exact Kr.valOf rfl (ldSl (rowCell (j := 2) (H.at 0 rfl) rfl)))); (focus ((try simp only [Kr.PT]); first | done | rfl)))
      (refine Kr.seqQ (v := .int .i64 (bl : Int)) (a' := ?_) (by rfl) ?_ ?_ ?_; rotate_left 1; (focus (exact Kr.valOf rfl ((by go_simp)))); (focus ((try simp only [Kr.PT]); first | done | rfl)))
      (refine Kr.seqQ (v := .bool false) (a' := ?_) (by rfl) ?_ ?_ ?_; rotate_left 1; (focus (exact Kr.valOf rfl (gtrI C6))); (focus ((try simp only [Kr.PT]); first | done | rfl)))
      (refine Kr.seqQ (v := ?_) (a' := ?_) (by rfl) ?_ ?_ ?_; rotate_left 2; (focus (go_simp; first | done | rfl)); (focus ((try simp only [Kr.PT]); first | done | rfl)))
      (refine Kr.seqQ (v := ?_) (a' := ?_) (by rfl) ?_ ?_ ?_; rotate_left 2; (focus (go_simp; first | done | rfl)); (focus ((try simp only [Kr.PT]); first | done | rfl)))
      (refine Kr.seqQ (v := .pointer (some ⟨ba, 3, none⟩)) (a' := ?_) (by rfl) ?_ ?_ ?_; rotate_left 1; (focus (go_simp; first | done | rfl)); (focus ((try simp only [Kr.PT]); first | done | rfl)))
      (refine Kr.seqQ (v := .slice pl ll cl) (a' := ?_) (by rfl) ?_ ?_ ?_; rotate_left 1; (focus (exact Kr.valOf rfl (ldLs (rowCell (j := 3) (H.at 0 rfl) rfl)))); (focus ((try simp only [Kr.PT]); first | done | rfl)))
      (refine Kr.seqQ (v := .int .i64 (ll : Int)) (a' := ?_) (by rfl) ?_ ?_ ?_; rotate_left 1; (focus (exact Kr.valOf rfl ((by go_simp)))); (focus ((try simp only [Kr.PT]); first | done | rfl)))
      (refine Kr.seqQ (v := .bool false) (a' := ?_) (by rfl) ?_ ?_ ?_; rotate_left 1; (focus (exact Kr.valOf rfl (gtrI C7))); (focus ((try simp only [Kr.PT]); first | done | rfl)))
      (refine Kr.seqQ (v := ?_) (a' := ?_) (by rfl) ?_ ?_ ?_; rotate_left 2; (focus (go_simp; first | done | rfl)); (focus ((try simp only [Kr.PT]); first | done | rfl)))
      refine Kr.seqDoneW ?_
      go_upto_region 9 with fail
      refine Kr.seqStartW ?_
      (refine Kr.seqQ (v := .pointer (some ⟨ba, 3, none⟩)) (a' := ?_) (by rfl) ?_ ?_ ?_; rotate_left 1; (focus (go_simp; first | done | rfl)); (focus ((try simp only [Kr.PT]); first | done | rfl)))
      (refine Kr.seqQ (v := .slice pl ll cl) (a' := ?_) (by rfl) ?_ ?_ ?_; rotate_left 1; (focus (exact Kr.valOf rfl (ldLs (rowCell (j := 3) (H.at 0 rfl) rfl)))); (focus ((try simp only [Kr.PT]); first | done | rfl)))
      (refine Kr.seqQ (v := .int .i64 (ll : Int)) (a' := ?_) (by rfl) ?_ ?_ ?_; rotate_left 1; (focus (exact Kr.valOf rfl ((by go_simp)))); (focus ((try simp only [Kr.PT]); first | done | rfl)))
      (refine Kr.seqQ (v := ?_) (a' := ?_) (by rfl) ?_ ?_ ?_; rotate_left 2; (focus (go_simp; first | done | rfl)); (focus ((try simp only [Kr.PT]); first | done | rfl)))
      refine Kr.seqDoneW ?_
      clear C4 C5 C6 C7
      have H2 := Lib.hid H; clear H
      go_wp2_with fail
      go_loopw [56] (fun iv wr => ∃ (j : Nat), j ≤ ll ∧ iv = .int .i64 (j : Int) ∧ Hid (∀ i x, i < j → t.l[i]? = some x → vld d x = true) ∧ Hid (Ow w wr [(ba, 25, [.int .i64 tk, .int .i64 tn, .slice pb bl cb, .slice pl ll cl])])) (fun iv _ => (ll - (intOf iv).toNat))
      case atStart => exact ⟨0, by omega, rfl, Lib.hid (fun i x h => absurd h (Nat.not_lt_zero _)), H2⟩
      case round =>
        clear H2; obtain ⟨j, hj, rfl, HAL, HH⟩ := hrel; have H := HH.out; clear HH
        by_cases hje : j = ll
        · have C4 : decide ((j : Int) < (ll : Int)) = false := decide_eq_false (by omega)
          have hBt : RES = true := by
            rw [← HBV.out, List.all_eq_true]
            intro x hx
            obtain ⟨i, hi⟩ := List.getElem?_of_mem hx
            exact HAL.out i x (by have := (List.getElem?_eq_some_iff.1 hi).1; rw [HLL.out] at this; omega) hi
          subst hBt; clear hje
          go_upto_region 10 with fail
          refine Kr.seqStartW ?_
          (refine Kr.seqQ (v := .bool false) (a' := ?_) (by rfl) ?_ ?_ ?_; rotate_left 1; (focus (exact Kr.valOf rfl (lssT C4))); (focus ((try simp only [Kr.PT]); first | done | rfl)))
          refine Kr.seqDoneW ?_
          go_upto_region 15 with fail
          refine Kr.seqStartW ?_
          (refine Kr.seqQ (v := ?_) (a' := ?_) (by rfl) ?_ ?_ ?_; rotate_left 2; (focus (go_simp; first | done | rfl)); (focus ((try simp only [Kr.PT]); first | done | rfl)))
          refine Kr.seqDoneW ?_
          have hk := trivial
          go_wp2
          refine bodyPost_ret (v := .bool true) (by simp [results, Tryd.results38, go_sem, hk]) rfl ⟨rfl, H.g⟩
        · have hjl : j < ll := by omega
          have C4 : decide ((j : Int) < (ll : Int)) = true := decide_eq_true (by omega)
          clear hje
          obtain ⟨x, hx⟩ : ∃ x, t.l[j]? = some x := ⟨_, List.getElem?_eq_getElem (by rw [HLL.out]; exact hjl)⟩
          obtain ⟨b, off, v0, v1, v2, v3, hpl, hFb, c0, c1, c2, c3, hch⟩ := HLS.out j x hx
          subst hpl
          have HC0 := Lib.hid c0; have HC1 := Lib.hid c1; have HC2 := Lib.hid c2; have HC3 := Lib.hid c3; have HCH := Lib.hid hch; have HX := Lib.hid hx; clear c0 c1 c2 c3 hch hx hFb
          have HON : Hid (∀ v ∈ ([v0, v1, v2, v3] : List Value), v.oneCell' = true) := Lib.hid (ItV.one HCH.out)
          go_upto_region 10 with fail
          refine Kr.seqStartW ?_
          (refine Kr.seqQ (v := .bool true) (a' := ?_) (by rfl) ?_ ?_ ?_; rotate_left 1; (focus (exact Kr.valOf rfl (lssT C4))); (focus ((try simp only [Kr.PT]); first | done | rfl)))
          refine Kr.seqDoneW ?_
          go_upto_region 11 with fail
          refine Kr.seqStartW ?_
          (refine Kr.seqQ (v := .pointer (some ⟨b, off + j * 4, none⟩)) (a' := ?_) (by rfl) ?_ ?_ ?_; rotate_left 1; (focus (exact Kr.valOf rfl (ixI hjl))); (focus ((try simp only [Kr.PT]); first | done | rfl)))
          (refine Kr.seqQ (v := .agg #[v0, v1, v2, v3]) (a' := ?_) (by rfl) ?_ ?_ ?_; rotate_left 1; (focus (exact Kr.valOf rfl (ldItem (H.g.cell HC0.out) (H.g.cell HC1.out) (H.g.cell HC2.out) (H.g.cell HC3.out)))); (focus ((try simp only [Kr.PT]); first | done | rfl)))
          refine Kr.seqR (by rfl) (fun K hK => ?_)
          refine wp_runV rfl newI ?_
          obtain ⟨y2, hy⟩ : ∃ y, wr.alloc (.cells ([.int .i64 0, .int .i64 0, .slice none 0 0, .slice none 0 0]).toArray 25) = y := ⟨_, rfl⟩
          obtain ⟨bx, hb⟩ : ∃ b, wr.heap.size = b := ⟨_, rfl⟩
          rw [hy, hb]
          have hg : Gr wr y2 := hy ▸ (Gr.refl _).alloc _
          replace H := H.alloc hy hb
          clear hy hb hg
          (refine Kr.outS hK (a' := ?_) ?_ ?_; rotate_left; (focus ((try simp only [Kr.PT]); first | done | rfl))); clear hK K
          refine Kr.seqR (by rfl) (fun K hK => ?_)
          refine wp_run rfl (stI (H.at 0 rfl) HON.out) ?_
          obtain ⟨y3, hy⟩ : ∃ y, y2.setRow bx ([v0, v1, v2, v3]).toArray = y := ⟨_, rfl⟩
          rw [hy]
          replace H := H.put 0 hy rfl
          dsimp only [List.set] at H
          clear hy
          (refine Kr.outS hK (a' := ?_) ?_ ?_; rotate_left; (focus ((try simp only [Kr.PT]); first | done | rfl))); clear hK K
          refine Kr.seqDoneW ?_
          have hsub : IntKind.i64.wrap (((d + 1 : Nat) : Int) - 1) = (d : Int) := wrap_nat (by omega) (by omega)
          go_upto_region 12 with fail
          refine Kr.seqStartW ?_
          (refine Kr.seqQ (v := .agg #[v0, v1, v2, v3]) (a' := ?_) (by rfl) ?_ ?_ ?_; rotate_left 1; (focus (exact Kr.valOf rfl (ldI (H.at 0 rfl)))); (focus ((try simp only [Kr.PT]); first | done | rfl)))
          (refine Kr.seqQ (v := ?_) (a' := ?_) (by rfl) ?_ ?_ ?_; rotate_left 2; (focus (go_simp; first | done | rfl)); (focus ((try simp only [Kr.PT]); first | done | rfl)))
          (refine Kr.seqQ (v := .int .i64 (d : Int)) (a' := ?_) (by rfl) ?_ ?_ ?_; rotate_left 1; (focus (exact Kr.valOf rfl (subI hsub))); (focus ((try simp only [Kr.PT]); first | done | rfl)))
          refine Kr.seqR (by rfl) (fun K hK => ?_)
          go_simp
          go_at_call 38
          have hP := ih d rfl (w := y3) (HCH.out.grow H.g)
          obtain ⟨bx0, hbx0⟩ : ∃ z, vld d x = z := ⟨_, rfl⟩; rw [hbx0] at hP; have HBX := Lib.hid hbx0; clear hbx0
          refine (hP).mono ?_
          rintro e y4 ⟨rfl, hg⟩
          replace H := H.grow hg
          clear hg
          clear hP
          (refine Kr.outS hK (a' := ?_) ?_ ?_; rotate_left; (focus ((try simp only [Kr.PT]); first | done | rfl))); clear hK K
          (refine Kr.seqQ (v := .bool (!bx0)) (a' := ?_) (by rfl) ?_ ?_ ?_; rotate_left 1; (focus (exact Kr.valOf rfl ((by cases bx0 <;> go_simp)))); (focus ((try simp only [Kr.PT]); first | done | rfl)))
          refine Kr.seqDoneW ?_
          cases bx0
          · have hBt : RES = false := by
              rw [← HBV.out, List.all_eq_false]
              exact ⟨x, List.mem_of_getElem? HX.out, by rw [HBX.out]; exact Bool.false_ne_true⟩
            subst hBt
            go_upto_region 13 with fail
            refine Kr.seqStartW ?_
            (refine Kr.seqQ (v := ?_) (a' := ?_) (by rfl) ?_ ?_ ?_; rotate_left 2; (focus (go_simp; first | done | rfl)); (focus ((try simp only [Kr.PT]); first | done | rfl)))
            refine Kr.seqDoneW ?_
            have hk := trivial
            go_wp2
            refine bodyPost_ret (v := .bool false) (by simp [results, Tryd.results38, go_sem, hk]) rfl ⟨rfl, H.g⟩
          · have HAL2 : Hid (∀ i y, i < j + 1 → t.l[i]? = some y → vld d y = true) := Lib.hid (fun i y hi hy => by
              rcases (by omega : i < j ∨ i = j) with h | h
              · exact HAL.out i y h hy
              · rw [h, HX.out] at hy; cases hy; exact HBX.out)
            replace H := H.drop 1; dsimp only [List.drop] at H
            have HADD : IntKind.i64.wrap ((j : Int) + 1) = ((j + 1 : Nat) : Int) := wrap_nat (by omega) (by omega)
            go_upto_region 14 with fail
            refine Kr.seqStartW ?_
            (refine Kr.seqQ (v := .int .i64 ((j + 1 : Nat) : Int)) (a' := ?_) (by rfl) ?_ ?_ ?_; rotate_left 1; (focus (exact Kr.valOf rfl (addI HADD))); (focus ((try simp only [Kr.PT]); first | done | rfl)))
            (refine Kr.seqQ (v := ?_) (a' := ?_) (by rfl) ?_ ?_ ?_; rotate_left 2; (focus (go_simp; first | done | rfl)); (focus ((try simp only [Kr.PT]); first | done | rfl)))
            refine Kr.seqDoneW ?_
            go_wp2; go_roundw
            case rel =>
              first
              | exact ⟨j + 1, by omega, rfl, HAL2, Lib.hid H⟩
              | (repeat apply Exists.intro); exact ⟨⟨j + 1, by omega, rfl, HAL2, Lib.hid H⟩, rfl⟩
              | (repeat apply Exists.intro); refine ⟨⟨j + 1, by omega, rfl, HAL2, Lib.hid H⟩, ?_⟩; refine ⟨?_, ?_⟩ <;> (repeat apply And.intro) <;> rfl
            case measure => simp [intOf]; omega
  have C1 : decide (tk = 1) = false := decide_eq_false (by exact k1)
  have C2 : decide (tk = 2) = false := decide_eq_false (by exact k2)
  have C3 : decide (tk = 3) = false := decide_eq_false (by exact k3)
  have hr : RES = false := by rw [← HRES.out]; exact vldN (by rw [HTK.out]; exact k1) (by rw [HTK.out]; exact k2) (by rw [HTK.out]; exact k3) d
  subst hr; clear k1 k2 k3
  go_upto_region 2 with fail
  refine Kr.seqStartW ?_
  (refine Kr.seqQ (v := .bool false) (a' := ?_) (by rfl) ?_ ?_ ?_; rotate_left 1; (focus (exact Kr.valOf rfl (eqlI C1))); (focus ((try simp only [Kr.PT]); first | done | rfl)))
  (refine Kr.seqQ (v := ?_) (a' := ?_) (by rfl) ?_ ?_ ?_; rotate_left 2; (focus (go_simp; first | done | rfl)); (focus ((try simp only [Kr.PT]); first | done | rfl)))
  refine Kr.seqDoneW ?_
  go_upto_region 4 with fail
  refine Kr.seqStartW ?_
  (refine Kr.seqQ (v := .bool false) (a' := ?_) (by rfl) ?_ ?_ ?_; rotate_left 1; (focus (exact Kr.valOf rfl (eqlI C2))); (focus ((try simp only [Kr.PT]); first | done | rfl)))
  (refine Kr.seqQ (v := ?_) (a' := ?_) (by rfl) ?_ ?_ ?_; rotate_left 2; (focus (go_simp; first | done | rfl)); (focus ((try simp only [Kr.PT]); first | done | rfl)))
  refine Kr.seqDoneW ?_
  go_upto_region 6 with fail
  refine Kr.seqStartW ?_
  (refine Kr.seqQ (v := .bool false) (a' := ?_) (by rfl) ?_ ?_ ?_; rotate_left 1; (focus (exact Kr.valOf rfl (eqlI C3))); (focus ((try simp only [Kr.PT]); first | done | rfl)))
  (refine Kr.seqQ (v := ?_) (a' := ?_) (by rfl) ?_ ?_ ?_; rotate_left 2; (focus (go_simp; first | done | rfl)); (focus ((try simp only [Kr.PT]); first | done | rfl)))
  refine Kr.seqDoneW ?_
  go_upto_region 16 with fail
  refine Kr.seqStartW ?_
  (refine Kr.seqQ (v := ?_) (a' := ?_) (by rfl) ?_ ?_ ?_; rotate_left 2; (focus (go_simp; first | done | rfl)); (focus ((try simp only [Kr.PT]); first | done | rfl)))
  refine Kr.seqDoneW ?_
  have hk := trivial
  go_wp2
  refine bodyPost_ret (v := .bool false) (by simp [results, Tryd.results38, go_sem, hk]) rfl ⟨rfl, H.g⟩
theorem within_v : ∀ {d : Nat}, d ≤ 8 → ∀ {k : Nat} {F : Nat → Prop} {v : Value} {t : It} {w : World}, ItV w k F v t →
    Calls Tryd.prog 38 #[v, .int .i64 (d : Int)] w fun e w' => e = .returned (.bool (vld d t)) ∧ Gr w w'
  | 0, h, _, _, _, _, _, hI => within_step h (fun e he => by omega) hI
  | d + 1, h, _, _, _, _, _, hI => within_step h (fun e he => by
      obtain rfl : e = d := by omega
      exact within_v (by omega)) hI

end Go.Proofs.YtcngcdfngifjnaaDoor.Dg


/- Valid, writeNumber. -/
namespace Go.Proofs.YtcngcdfngifjnaaDoor.Dg
open Go Go.RowKit Go.Proofs.YtcngcdfngifjnaaDoor.Ne Go.Proofs.YtcngcdfngifjnaaDoor.Kr

theorem shrZ {w : World} {x q : Int} {k : Nat} (hk : k < 64) (hq : x / 2 ^ k = q) : (binOp .shr 3 (.int .i64 x) (.int .i64 (k : Int))).run Tryd.prog w = .ok (.int .i64 q) w := by
  have h1 : ¬ ((k : Int) < 0) := by omega
  have h2 : (k : Int) < 64 := by omega
  have h3 : (k : Int).toNat = k := by omega
  clear hk
  go_simp
theorem convZ8 {w : World} {q : Int} {z : BitVec 8} (h : BitVec.ofInt 8 q = z) : (convert 3 5 (.int .i64 q)).run Tryd.prog w = .ok (.int .u8 (z.toNat : Int)) w := by
  have e : IntKind.u8.wrap q = (z.toNat : Int) := by
    rw [← h, IntKind.wrap_u8', BitVec.toNat_ofInt]
    omega
  clear h
  go_simp
def byt (n : Int) (j : Nat) : BitVec 8 := BitVec.ofInt 8 (n / 2 ^ (8 * j))
/-- A number in so many bytes, the greatest first. -/
def beI (m : Nat) (n : Int) : List (BitVec 8) := (List.range m).map fun i => byt n (m - 1 - i)
theorem beI_length (m : Nat) (n : Int) : (beI m n).length = m := by simp [beI]
theorem beI_take {m i : Nat} (n : Int) (h : i < m) : (beI m n).take (i + 1) = (beI m n).take i ++ [byt n (m - 1 - i)] := by
  rw [List.take_add_one]
  congr 1
  simp [beI, h]
def encL (t : It) : List (BitVec 8) := if t.k = 1 then 1 :: beI 8 t.n else 2 :: (beI 4 (t.b.length : Int) ++ t.b)
/-- The encoding of a valid item. -/
def enc : Nat → It → List (BitVec 8)
  | 0, t => encL t
  | d + 1, t => if t.k = 3 then 3 :: (beI 4 (t.l.length : Int) ++ t.l.flatMap (enc d)) else encL t
theorem enc1 {t : It} (h : t.k = 1) : ∀ d, enc d t = 1 :: beI 8 t.n
  | 0 => by simp [enc, encL, h]
  | d + 1 => by simp [enc, encL, h]
theorem enc2 {t : It} (h : t.k = 2) : ∀ d, enc d t = 2 :: (beI 4 (t.b.length : Int) ++ t.b)
  | 0 => by simp [enc, encL, h]
  | d + 1 => by simp [enc, encL, h]
theorem enc3 {t : It} (h : t.k = 3) (d : Nat) : enc (d + 1) t = 3 :: (beI 4 (t.l.length : Int) ++ t.l.flatMap (enc d)) := by simp [enc, h]
theorem vld_cases : ∀ {d : Nat} {t : It}, vld d t = true → t.k = 1 ∨ t.k = 2 ∨ (t.k = 3 ∧ ∃ e, d = e + 1 ∧ t.l.length ≤ 1000 ∧ ∀ x ∈ t.l, vld e x = true)
  | 0, t, h => by
    by_cases h1 : t.k = 1
    · exact .inl h1
    by_cases h2 : t.k = 2
    · exact .inr (.inl h2)
    simp [vld, leaf, h1, h2] at h
  | d + 1, t, h => by
    by_cases h1 : t.k = 1
    · exact .inl h1
    by_cases h2 : t.k = 2
    · exact .inr (.inl h2)
    by_cases h3 : t.k = 3
    · refine .inr (.inr ⟨h3, d, rfl, ?_⟩)
      rw [vld3 h3] at h
      simp only [Bool.and_eq_true, decide_eq_true_eq, List.all_eq_true] at h
      exact ⟨h.2.2.1, h.2.2.2⟩
    · rw [vldN h1 h2 h3] at h; cases h
/-- The encodings of the first j items. -/
def fl (d : Nat) (l : List It) (j : Nat) : List (BitVec 8) := (l.take j).flatMap (enc d)
theorem fl_succ {d : Nat} {l : List It} {j : Nat} {x : It} (h : l[j]? = some x) : fl d l (j + 1) = fl d l j ++ enc d x := by
  unfold fl
  rw [List.take_add_one, h, List.flatMap_append]
  simp
theorem fl_all (d : Nat) (l : List It) {j : Nat} (h : l.length ≤ j) : fl d l j = l.flatMap (enc d) := by
  unfold fl; rw [List.take_of_length_le h]
theorem fl_le (d : Nat) (l : List It) (j : Nat) : (fl d l j).length ≤ (l.flatMap (enc d)).length := by
  conv => rhs; rw [← List.take_append_drop j l]
  rw [List.flatMap_append, List.length_append]
  exact Nat.le_add_right _ _
theorem src_item {W : World} {F : Nat → Prop} {pb : Option Addr} {l : List (BitVec 8)} (h : l = [] ∨ ∃ b off, pb = some ⟨b, off, none⟩ ∧ F b ∧ BytesAt b off l W) : SrcB pb l W := h.imp id (fun ⟨b, off, e, _, h⟩ => ⟨b, off, e, h⟩)

set_option linter.unusedSimpArgs false in
set_option maxRecDepth 100000 in
set_option maxHeartbeats 16000000 in
theorem Valid_v {k : Nat} {F : Nat → Prop} {v : Value} {t : It} {w : World} (hI : ItV w k F v t) :
    Calls Tryd.prog 14 #[v] w fun e w' => e = .returned (.bool (vld 8 t)) ∧ Gr w w' := by
  have hI0 := hI
  obtain ⟨k0, rfl⟩ : ∃ k0, k = k0 + 1 := by cases k with
    | zero => exact hI.elim
    | succ k0 => exact ⟨k0, rfl⟩
  obtain ⟨pb, cb, pl, cl, hv, hk1, hn1, hpb, hcb, hbl, hll, hB, hL⟩ := hI; subst hv
  obtain ⟨tk, htk⟩ : ∃ z, t.k = z := ⟨_, rfl⟩; obtain ⟨tn, htn⟩ : ∃ z, t.n = z := ⟨_, rfl⟩; obtain ⟨bl, hbl2⟩ : ∃ z, t.b.length = z := ⟨_, rfl⟩; obtain ⟨ll, hll2⟩ : ∃ z, t.l.length = z := ⟨_, rfl⟩
  rw [htk] at hk1; rw [htn] at hn1; rw [hbl2] at hcb hbl; rw [hll2] at hll; have HTK := Lib.hid htk; have HTN := Lib.hid htn; have HBL := Lib.hid hbl2; have HLL := Lib.hid hll2; have HBB := Lib.hid hB; have HLS := Lib.hid hL; have HPB := Lib.hid hpb; have HI1 := Lib.hid hk1; have HI2 := Lib.hid hn1; rw [htk, htn, hbl2, hll2] at hI0; rw [htk, htn, hbl2, hll2]; clear htk htn hbl2 hll2 hB hL hpb hk1 hn1
  have hW := fun (W : World) (g : Gr w W) => within_v (d := 8) (Nat.le_refl _) (hI0.grow g)
  obtain ⟨RES, hRS⟩ : ∃ z, vld 8 t = z := ⟨_, rfl⟩; rw [hRS] at hW ⊢; have HW := Lib.hid hW; clear hRS hW hI0
  have H := Ow.start w
  go_enter Tryd.func14, Tryd.ntmps14
  go_upto_region 0 with fail
  refine Kr.seqStartW ?_
  refine Kr.seqR (by rfl) (fun K hK => ?_)
  refine wp_runV rfl boxI ?_
  obtain ⟨y1, hy⟩ : ∃ y, w.alloc (.cells ([.int .i64 tk, .int .i64 tn, .slice pb bl cb, .slice pl ll cl]).toArray 25) = y := ⟨_, rfl⟩
  obtain ⟨ba, hb⟩ : ∃ b, w.heap.size = b := ⟨_, rfl⟩
  rw [hy, hb]
  have hg : Gr w y1 := hy ▸ (Gr.refl _).alloc _
  replace H := H.alloc hy hb
  clear hy hb hg
  (refine Kr.outS hK (a' := ?_) ?_ ?_; rotate_left; (focus ((try simp only [Kr.PT]); first | done | rfl))); clear hK K
  (refine Kr.seqQ (v := ?_) (a' := ?_) (by rfl) ?_ ?_ ?_; rotate_left 2; (focus (go_simp; first | done | rfl)); (focus ((try simp only [Kr.PT]); first | done | rfl)))
  refine Kr.seqDoneW ?_
  go_upto_region 1 with fail
  refine Kr.seqStartW ?_
  (refine Kr.seqQ (v := .agg #[.int .i64 tk, .int .i64 tn, .slice pb bl cb, .slice pl ll cl]) (a' := ?_) (by rfl) ?_ ?_ ?_; rotate_left 1; (focus (exact Kr.valOf rfl (ldI (H.at 0 rfl)))); (focus ((try simp only [Kr.PT]); first | done | rfl)))
  refine Kr.seqR (by rfl) (fun K hK => ?_)
  go_simp
  go_at_call 38
  refine (HW.out _ H.g).mono ?_
  rintro e y2 ⟨rfl, hg⟩
  replace H := H.grow hg
  clear hg
  (refine Kr.outS hK (a' := ?_) ?_ ?_; rotate_left; (focus ((try simp only [Kr.PT]); first | done | rfl))); clear hK K
  (refine Kr.seqQ (v := ?_) (a' := ?_) (by rfl) ?_ ?_ ?_; rotate_left 2; (focus (go_simp; first | done | rfl)); (focus ((try simp only [Kr.PT]); first | done | rfl)))
  refine Kr.seqDoneW ?_
  have hk := trivial
  go_wp2
  refine bodyPost_ret (v := .bool RES) (by simp [results, Tryd.results14, go_sem, hk]) rfl ⟨rfl, H.g⟩
set_option linter.unusedSimpArgs false in
set_option maxRecDepth 100000 in
set_option maxHeartbeats 16000000 in
theorem wnum_v {w0 w : World} {rs : List Blk} {v : Value} {r : List Value} {n : Int} {m : Nat} (H : Ow w0 w rs) (HR : RowG 5 w0.heap.size v r w) (HA : Apt v rs) (hm : m ≤ 8) (hb : r.length ≤ 99999900) :
    Calls Tryd.prog 47 #[v, .int .i64 n, .int .i64 (m : Int)] w fun e w' => ∃ v2, e = .returned v2 ∧ RowG 5 w0.heap.size v2 (r ++ (beI m n).map w8) w' ∧ Apt v2 rs ∧ Ow w0 w' rs := by
  obtain ⟨R, hR⟩ : ∃ R, beI m n = R := ⟨_, rfl⟩
  have hRl : R.length = m := by rw [← hR]; exact beI_length _ _
  rw [hR]; have HRE := Lib.hid hR; clear hR; have HR0 := Lib.hid HR; clear HR; have HA0 := Lib.hid HA; clear HA
  have hm1 : IntKind.i64.wrap ((m : Int) - 1) = (m : Int) - 1 := IntWalk.i64_in _ (by omega)
  go_enter Tryd.func47, Tryd.ntmps47
  go_upto_region 0 with fail
  refine Kr.seqStartW ?_
  (refine Kr.seqQ (v := ?_) (a' := ?_) (by rfl) ?_ ?_ ?_; rotate_left 2; (focus (go_simp; first | done | rfl)); (focus ((try simp only [Kr.PT]); first | done | rfl)))
  refine Kr.seqDoneW ?_
  go_upto_region 1 with fail
  refine Kr.seqStartW ?_
  (refine Kr.seqQ (v := ?_) (a' := ?_) (by rfl) ?_ ?_ ?_; rotate_left 2; (focus (go_simp; first | done | rfl)); (focus ((try simp only [Kr.PT]); first | done | rfl)))
  (refine Kr.seqQ (v := .int .i64 ((m : Int) - 1)) (a' := ?_) (by rfl) ?_ ?_ ?_; rotate_left 1; (focus (exact Kr.valOf rfl (subI hm1))); (focus ((try simp only [Kr.PT]); first | done | rfl)))
  (refine Kr.seqQ (v := ?_) (a' := ?_) (by rfl) ?_ ?_ ?_; rotate_left 2; (focus (go_simp; first | done | rfl)); (focus ((try simp only [Kr.PT]); first | done | rfl)))
  refine Kr.seqDoneW ?_
  have H2 := Lib.hid H; clear H hm1
  go_wp2_with fail
  go_loopw [0, 7] (fun v iv wr => ∃ (j : Nat) (i : Int), j ≤ m ∧ i + j = (m : Int) - 1 ∧ iv = .int .i64 i ∧ Hid (RowG 5 w0.heap.size v (r ++ (R.take j).map w8) wr) ∧ Hid (Apt v rs) ∧ Hid (Ow w0 wr rs)) (fun _ iv _ => (intOf iv + 1).toNat)
  case atStart => exact ⟨0, (m : Int) - 1, by omega, by omega, rfl, by rw [List.take_zero, List.map_nil, List.append_nil]; exact HR0, HA0, H2⟩
  case round =>
    clear H2 HR0 HA0; obtain ⟨j, i, hj, hij, rfl, HR, HA, HH⟩ := hrel; have H := HH.out; replace HA := HA.out; clear HH
    have htl : (R.take j).length = j := by rw [List.length_take, hRl]; omega
    by_cases hje : j = m
    · have HC : decide ((0 : Int) ≤ i) = false := decide_eq_false (by omega)
      rw [show R.take j = R from List.take_of_length_le (by omega)] at HR
      clear hje htl
      go_upto_region 2 with fail
      refine Kr.seqStartW ?_
      (refine Kr.seqQ (v := ?_) (a' := ?_) (by rfl) ?_ ?_ ?_; rotate_left 2; (focus (go_simp; first | done | rfl)); (focus ((try simp only [Kr.PT]); first | done | rfl)))
      (refine Kr.seqQ (v := .bool false) (a' := ?_) (by rfl) ?_ ?_ ?_; rotate_left 1; (focus (exact Kr.valOf rfl (geqI HC))); (focus ((try simp only [Kr.PT]); first | done | rfl)))
      refine Kr.seqDoneW ?_
      go_upto_region 5 with fail
      refine Kr.seqStartW ?_
      (refine Kr.seqQ (v := ?_) (a' := ?_) (by rfl) ?_ ?_ ?_; rotate_left 2; (focus (go_simp; first | done | rfl)); (focus ((try simp only [Kr.PT]); first | done | rfl)))
      (refine Kr.seqQ (v := ?_) (a' := ?_) (by rfl) ?_ ?_ ?_; rotate_left 2; (focus (go_simp; first | done | rfl)); (focus ((try simp only [Kr.PT]); first | done | rfl)))
      refine Kr.seqDoneW ?_
      have hk := trivial
      go_wp2
      refine bodyPost_ret (v := u0) (by simp [results, Tryd.results47, go_sem, hk]) rfl ⟨_, rfl, HR.out, HA, H⟩
    · have hjl : j < m := by omega
      obtain ⟨k, rfl⟩ : ∃ k : Nat, i = (k : Int) := ⟨i.toNat, by omega⟩
      have HC : decide ((0 : Int) ≤ (k : Int)) = true := decide_eq_true (by omega)
      have hk7 : m - 1 - j = k := by omega
      obtain ⟨kk, hkk⟩ : ∃ z, 8 * k = z := ⟨_, rfl⟩; obtain ⟨q, hq⟩ : ∃ z, n / 2 ^ kk = z := ⟨_, rfl⟩; obtain ⟨z, hz⟩ : ∃ z, BitVec.ofInt 8 q = z := ⟨_, rfl⟩
      have hzb : byt n (m - 1 - j) = z := by unfold byt; rw [hk7, hkk, hq, hz]
      have htk : r ++ (R.take (j + 1)).map w8 = (r ++ (R.take j).map w8) ++ [w8 z] := by rw [← HRE.out, beI_take n hjl, hzb, List.map_append, List.append_assoc]; rfl
      have hmul : IntKind.i64.wrap ((8 : Int) * (k : Int)) = (kk : Int) := wrap_nat (by omega) (by omega)
      obtain ⟨i2, hi2⟩ : ∃ i2 : Int, (k : Int) - 1 = i2 := ⟨_, rfl⟩
      have hsub : IntKind.i64.wrap ((k : Int) - 1) = i2 := by rw [hi2]; exact IntWalk.i64_in _ (by omega)
      have HQ := Lib.hid hq; clear hq; have HZB := Lib.hid hzb; clear hzb; have HTK := Lib.hid htk; clear htk
      go_upto_region 2 with fail
      refine Kr.seqStartW ?_
      (refine Kr.seqQ (v := ?_) (a' := ?_) (by rfl) ?_ ?_ ?_; rotate_left 2; (focus (go_simp; first | done | rfl)); (focus ((try simp only [Kr.PT]); first | done | rfl)))
      (refine Kr.seqQ (v := .bool true) (a' := ?_) (by rfl) ?_ ?_ ?_; rotate_left 1; (focus (exact Kr.valOf rfl (geqI HC))); (focus ((try simp only [Kr.PT]); first | done | rfl)))
      refine Kr.seqDoneW ?_
      go_upto_region 4 with fail
      refine Kr.seqStartW ?_
      (refine Kr.seqQ (v := ?_) (a' := ?_) (by rfl) ?_ ?_ ?_; rotate_left 2; (focus (go_simp; first | done | rfl)); (focus ((try simp only [Kr.PT]); first | done | rfl)))
      (refine Kr.seqQ (v := ?_) (a' := ?_) (by rfl) ?_ ?_ ?_; rotate_left 2; (focus (go_simp; first | done | rfl)); (focus ((try simp only [Kr.PT]); first | done | rfl)))
      (refine Kr.seqQ (v := ?_) (a' := ?_) (by rfl) ?_ ?_ ?_; rotate_left 2; (focus (go_simp; first | done | rfl)); (focus ((try simp only [Kr.PT]); first | done | rfl)))
      (refine Kr.seqQ (v := .int .i64 (kk : Int)) (a' := ?_) (by rfl) ?_ ?_ ?_; rotate_left 1; (focus (exact Kr.valOf rfl (mulI hmul))); (focus ((try simp only [Kr.PT]); first | done | rfl)))
      (refine Kr.seqQ (v := .int .i64 q) (a' := ?_) (by rfl) ?_ ?_ ?_; rotate_left 1; (focus (exact Kr.valOf rfl (shrZ (by omega) HQ.out))); (focus ((try simp only [Kr.PT]); first | done | rfl)))
      (refine Kr.seqQ (v := .int .u8 ((z).toNat : Int)) (a' := ?_) (by rfl) ?_ ?_ ?_; rotate_left 1; (focus (exact Kr.valOf rfl (convZ8 hz))); (focus ((try simp only [Kr.PT]); first | done | rfl)))
      refine Kr.seqR (by rfl) (fun K hK => ?_)
      go_simp
      obtain ⟨y1, hy⟩ : ∃ y, wr.alloc (.cells #[.int .u8 ((z).toNat : Int)] 5) = y := ⟨_, rfl⟩
      obtain ⟨bone, hbn⟩ : ∃ b, wr.heap.size = b := ⟨_, rfl⟩
      rw [hy, hbn]
      have hy2 : wr.alloc (.cells ([.int .u8 ((z).toNat : Int)] : List Value).toArray 5) = y1 := hy
      have hg : Gr wr y1 := hy ▸ (Gr.refl _).alloc _
      have HLIT := Lib.hid (hbn ▸ hy2 ▸ lit_src (W := wr) (T := 5) [.int .u8 ((z).toNat : Int)]); clear hy2
      replace H := H.grow hg
      replace HR := Lib.hid (HR.out.grow hg)
      clear hg hy hbn
      (refine Kr.outS hK (a' := ?_) ?_ ?_; rotate_left; (focus ((try simp only [Kr.PT]); first | done | rfl))); clear hK K
      refine Kr.seqR (by rfl) (fun K hK => ?_)
      refine wp_appG (T := 5) (TS := 22) Tryd.underlying22 info8 rfl (.tmp 14) (.tmp 20) rfl (v := u0) (r := (r ++ (R.take j).map w8)) (d := [w8 z]) (p := (some ⟨bone, 0, none⟩)) (m := 1) (c := 1) (rs := (rs)) rfl rfl (rfl) (HLIT.out) (one_lit8 [z]) (fun e => by cases e) H HR.out HA (by rw [List.length_append, List.length_map, htl]; omega) (by decide) ?_
      intro q3 y2 H3 hR3 hA3
      clear H HR HA HLIT; have H := H3; have HR := Lib.hid hR3; have HA := hA3; clear H3 hR3 hA3
      (refine Kr.outS hK (a' := ?_) ?_ ?_; rotate_left; (focus ((try simp only [Kr.PT]); first | done | rfl))); clear hK K
      (refine Kr.seqQ (v := ?_) (a' := ?_) (by rfl) ?_ ?_ ?_; rotate_left 2; (focus (go_simp; first | done | rfl)); (focus ((try simp only [Kr.PT]); first | done | rfl)))
      refine Kr.seqDoneW ?_
      rw [← HTK.out] at HR
      go_upto_region 3 with fail
      refine Kr.seqStartW ?_
      (refine Kr.seqQ (v := ?_) (a' := ?_) (by rfl) ?_ ?_ ?_; rotate_left 2; (focus (go_simp; first | done | rfl)); (focus ((try simp only [Kr.PT]); first | done | rfl)))
      (refine Kr.seqQ (v := .int .i64 i2) (a' := ?_) (by rfl) ?_ ?_ ?_; rotate_left 1; (focus (exact Kr.valOf rfl (subI hsub))); (focus ((try simp only [Kr.PT]); first | done | rfl)))
      (refine Kr.seqQ (v := ?_) (a' := ?_) (by rfl) ?_ ?_ ?_; rotate_left 2; (focus (go_simp; first | done | rfl)); (focus ((try simp only [Kr.PT]); first | done | rfl)))
      refine Kr.seqDoneW ?_
      go_wp2; go_roundw
      case rel =>
        first
        | exact ⟨j + 1, i2, by omega, by omega, rfl, HR, Lib.hid HA, Lib.hid H⟩
        | (repeat apply Exists.intro); exact ⟨⟨j + 1, i2, by omega, by omega, rfl, HR, Lib.hid HA, Lib.hid H⟩, rfl⟩
        | (repeat apply Exists.intro); refine ⟨⟨j + 1, i2, by omega, by omega, rfl, HR, Lib.hid HA, Lib.hid H⟩, ?_⟩; refine ⟨?_, ?_⟩ <;> (repeat apply And.intro) <;> rfl
      case measure => simp [intOf]; omega
end Go.Proofs.YtcngcdfngifjnaaDoor.Dg


/- write. -/
namespace Go.Proofs.YtcngcdfngifjnaaDoor.Dg
open Go Go.RowKit Go.Proofs.YtcngcdfngifjnaaDoor.Ne Go.Proofs.YtcngcdfngifjnaaDoor.Kr

set_option linter.unusedSimpArgs false in
set_option maxRecDepth 100000 in
set_option maxHeartbeats 16000000 in
theorem write_step {d : Nat} (ih : ∀ e, e + 1 = d → ∀ {w0 w : World} {rs : List Blk} {v : Value} {r : List Value} {k : Nat} {F : Nat → Prop} {val : Value} {t : It} (_ : Ow w0 w rs) (_ : RowG 5 w0.heap.size v r w) (_ : Apt v rs) (_ : ItV w0 k F val t) (_ : vld e t = true) (_ : r.length + (enc e t).length ≤ 99999900), Calls Tryd.prog 36 #[v, val] w fun o w' => ∃ v2, o = .returned v2 ∧ RowG 5 w0.heap.size v2 (r ++ (enc e t).map w8) w' ∧ Apt v2 rs ∧ Ow w0 w' rs)
    {w0 w : World} {rs : List Blk} {v : Value} {r : List Value} {k : Nat} {F : Nat → Prop} {val : Value} {t : It} (H : Ow w0 w rs) (HR : RowG 5 w0.heap.size v r w) (HA : Apt v rs) (hI : ItV w0 k F val t) (hv : vld d t = true) (hb : r.length + (enc d t).length ≤ 99999900) :
    Calls Tryd.prog 36 #[v, val] w fun e w' => ∃ v2, e = .returned v2 ∧ RowG 5 w0.heap.size v2 (r ++ (enc d t).map w8) w' ∧ Apt v2 rs ∧ Ow w0 w' rs := by
  obtain ⟨k0, rfl⟩ : ∃ k0, k = k0 + 1 := by cases k with
    | zero => exact hI.elim
    | succ k0 => exact ⟨k0, rfl⟩
  obtain ⟨pb, cb, pl, cl, hv, hk1, hn1, hpb, hcb, hbl, hll, hB, hL⟩ := hI; subst hv
  obtain ⟨tk, htk⟩ : ∃ z, t.k = z := ⟨_, rfl⟩; obtain ⟨tn, htn⟩ : ∃ z, t.n = z := ⟨_, rfl⟩; obtain ⟨bl, hbl2⟩ : ∃ z, t.b.length = z := ⟨_, rfl⟩; obtain ⟨ll, hll2⟩ : ∃ z, t.l.length = z := ⟨_, rfl⟩
  rw [htk] at hk1; rw [htn] at hn1; rw [hbl2] at hcb hbl; rw [hll2] at hll; have HTK := Lib.hid htk; have HTN := Lib.hid htn; have HBL := Lib.hid hbl2; have HLL := Lib.hid hll2; have HBB := Lib.hid hB; have HLS := Lib.hid hL; have HPB := Lib.hid hpb; have HI1 := Lib.hid hk1; have HI2 := Lib.hid hn1; rw [htk, htn, hbl2, hll2]; clear htk htn hbl2 hll2 hB hL hpb hk1 hn1
  replace HR := Lib.hid HR; have HVC := Lib.hid (vld_cases hv)
  obtain ⟨E, hE⟩ : ∃ z, enc d t = z := ⟨_, rfl⟩; rw [hE] at hb ⊢; have HE := Lib.hid hE; clear hE hv
  go_enter Tryd.func36, Tryd.ntmps36
  go_upto_region 0 with fail
  refine Kr.seqStartW ?_
  refine Kr.seqR (by rfl) (fun K hK => ?_)
  refine wp_runV rfl boxI ?_
  obtain ⟨y1, hy⟩ : ∃ y, w.alloc (.cells ([.int .i64 tk, .int .i64 tn, .slice pb bl cb, .slice pl ll cl]).toArray 25) = y := ⟨_, rfl⟩
  obtain ⟨ba, hb⟩ : ∃ b, w.heap.size = b := ⟨_, rfl⟩
  rw [hy, hb]
  replace HA := apt_new (T2 := 25) (l := [.int .i64 tk, .int .i64 tn, .slice pb bl cb, .slice pl ll cl]) HR.out HA hb
  have hg : Gr w y1 := hy ▸ (Gr.refl _).alloc _
  replace H := H.alloc hy hb
  replace HR := Lib.hid (HR.out.grow hg)
  clear hy hb hg
  (refine Kr.outS hK (a' := ?_) ?_ ?_; rotate_left; (focus ((try simp only [Kr.PT]); first | done | rfl))); clear hK K
  (refine Kr.seqQ (v := ?_) (a' := ?_) (by rfl) ?_ ?_ ?_; rotate_left 2; (focus (go_simp; first | done | rfl)); (focus ((try simp only [Kr.PT]); first | done | rfl)))
  refine Kr.seqDoneW ?_
  obtain ⟨z0, hz0⟩ : ∃ z, BitVec.ofInt 8 tk = z := ⟨_, rfl⟩
  have hE1 : 1 ≤ E.length := by
    rw [← HE.out]
    rcases HVC.out with h | h | ⟨h, e, rfl, _⟩
    · rw [enc1 h]; simp
    · rw [enc2 h]; simp
    · rw [enc3 h]; simp
  go_upto_region 1 with fail
  refine Kr.seqStartW ?_
  (refine Kr.seqQ (v := ?_) (a' := ?_) (by rfl) ?_ ?_ ?_; rotate_left 2; (focus (go_simp; first | done | rfl)); (focus ((try simp only [Kr.PT]); first | done | rfl)))
  (refine Kr.seqQ (v := .pointer (some ⟨ba, 0, none⟩)) (a' := ?_) (by rfl) ?_ ?_ ?_; rotate_left 1; (focus (go_simp; first | done | rfl)); (focus ((try simp only [Kr.PT]); first | done | rfl)))
  (refine Kr.seqQ (v := .int .i64 tk) (a' := ?_) (by rfl) ?_ ?_ ?_; rotate_left 1; (focus (exact Kr.valOf rfl (ldInt (rowCell (j := 0) (H.at 0 rfl) rfl)))); (focus ((try simp only [Kr.PT]); first | done | rfl)))
  (refine Kr.seqQ (v := .int .u8 ((z0).toNat : Int)) (a' := ?_) (by rfl) ?_ ?_ ?_; rotate_left 1; (focus (exact Kr.valOf rfl (convZ8 hz0))); (focus ((try simp only [Kr.PT]); first | done | rfl)))
  refine Kr.seqR (by rfl) (fun K hK => ?_)
  go_simp
  obtain ⟨y2, hy⟩ : ∃ y, y1.alloc (.cells #[.int .u8 ((z0).toNat : Int)] 5) = y := ⟨_, rfl⟩
  obtain ⟨bone, hbn⟩ : ∃ b, y1.heap.size = b := ⟨_, rfl⟩
  rw [hy, hbn]
  have hy2 : y1.alloc (.cells ([.int .u8 ((z0).toNat : Int)] : List Value).toArray 5) = y2 := hy
  have hg : Gr y1 y2 := hy ▸ (Gr.refl _).alloc _
  have HLIT := Lib.hid (hbn ▸ hy2 ▸ lit_src (W := y1) (T := 5) [.int .u8 ((z0).toNat : Int)]); clear hy2
  replace H := H.grow hg
  replace HR := Lib.hid (HR.out.grow hg)
  clear hg hy hbn
  (refine Kr.outS hK (a' := ?_) ?_ ?_; rotate_left; (focus ((try simp only [Kr.PT]); first | done | rfl))); clear hK K
  refine Kr.seqR (by rfl) (fun K hK => ?_)
  refine wp_appG (T := 5) (TS := 22) Tryd.underlying22 info8 rfl (.tmp 7) (.tmp 11) rfl (v := v) (r := r) (d := [w8 z0]) (p := (some ⟨bone, 0, none⟩)) (m := 1) (c := 1) (rs := ((ba, 25, [.int .i64 tk, .int .i64 tn, .slice pb bl cb, .slice pl ll cl]) :: rs)) rfl rfl (rfl) (HLIT.out) (one_lit8 [z0]) (fun e => by cases e) H HR.out HA (by omega) (by decide) ?_
  intro q4 y3 H3 hR3 hA3
  clear H HR HA HLIT; have H := H3; have HR := Lib.hid hR3; have HA := hA3; clear H3 hR3 hA3
  (refine Kr.outS hK (a' := ?_) ?_ ?_; rotate_left; (focus ((try simp only [Kr.PT]); first | done | rfl))); clear hK K
  (refine Kr.seqQ (v := ?_) (a' := ?_) (by rfl) ?_ ?_ ?_; rotate_left 2; (focus (go_simp; first | done | rfl)); (focus ((try simp only [Kr.PT]); first | done | rfl)))
  refine Kr.seqDoneW ?_
  go_upto_region 2 with fail
  refine Kr.seqStartW ?_
  (refine Kr.seqQ (v := .pointer (some ⟨ba, 0, none⟩)) (a' := ?_) (by rfl) ?_ ?_ ?_; rotate_left 1; (focus (go_simp; first | done | rfl)); (focus ((try simp only [Kr.PT]); first | done | rfl)))
  (refine Kr.seqQ (v := .int .i64 tk) (a' := ?_) (by rfl) ?_ ?_ ?_; rotate_left 1; (focus (exact Kr.valOf rfl (ldInt (rowCell (j := 0) (H.at 0 rfl) rfl)))); (focus ((try simp only [Kr.PT]); first | done | rfl)))
  refine Kr.seqDoneW ?_
  by_cases k1 : tk = 1
  · have C1 : decide (tk = 1) = true := decide_eq_true (by exact k1)
    have hEE : E = 1#8 :: beI 8 tn := by rw [← HE.out, enc1 (HTK.out.trans k1) d, HTN.out]; rfl
    have hz1 : z0 = 1#8 := by rw [← hz0, k1]; rfl
    subst hEE; rw [hz1] at HR; clear hz0 k1
    have hbl8 : (beI 8 tn).length = 8 := beI_length _ _; rw [List.length_cons] at hb
    go_upto_region 3 with fail
    refine Kr.seqStartW ?_
    (refine Kr.seqQ (v := .bool true) (a' := ?_) (by rfl) ?_ ?_ ?_; rotate_left 1; (focus (exact Kr.valOf rfl (eqlI C1))); (focus ((try simp only [Kr.PT]); first | done | rfl)))
    (refine Kr.seqQ (v := ?_) (a' := ?_) (by rfl) ?_ ?_ ?_; rotate_left 2; (focus (go_simp; first | done | rfl)); (focus ((try simp only [Kr.PT]); first | done | rfl)))
    refine Kr.seqDoneW ?_
    go_upto_region 4 with fail
    refine Kr.seqStartW ?_
    (refine Kr.seqQ (v := ?_) (a' := ?_) (by rfl) ?_ ?_ ?_; rotate_left 2; (focus (go_simp; first | done | rfl)); (focus ((try simp only [Kr.PT]); first | done | rfl)))
    (refine Kr.seqQ (v := .pointer (some ⟨ba, 1, none⟩)) (a' := ?_) (by rfl) ?_ ?_ ?_; rotate_left 1; (focus (go_simp; first | done | rfl)); (focus ((try simp only [Kr.PT]); first | done | rfl)))
    (refine Kr.seqQ (v := .int .i64 tn) (a' := ?_) (by rfl) ?_ ?_ ?_; rotate_left 1; (focus (exact Kr.valOf rfl (ldInt (rowCell (j := 1) (H.at 0 rfl) rfl)))); (focus ((try simp only [Kr.PT]); first | done | rfl)))
    refine Kr.seqR (by rfl) (fun K hK => ?_)
    go_simp
    go_at_call 47
    refine (wnum_v (m := 8) (n := tn) H HR.out HA (by decide) (by simp; omega)).mono ?_
    rintro e y5 ⟨q6, rfl, hR3, hA3, H3⟩
    clear H HR HA; have H := H3; have HR := Lib.hid hR3; have HA := hA3; clear H3 hR3 hA3
    (refine Kr.outS hK (a' := ?_) ?_ ?_; rotate_left; (focus ((try simp only [Kr.PT]); first | done | rfl))); clear hK K
    (refine Kr.seqQ (v := ?_) (a' := ?_) (by rfl) ?_ ?_ ?_; rotate_left 2; (focus (go_simp; first | done | rfl)); (focus ((try simp only [Kr.PT]); first | done | rfl)))
    refine Kr.seqDoneW ?_
    replace HA := apt_tail HA; replace H := H.drop 1; dsimp only [List.drop] at H
    have HR2 := Lib.hid (show RowG 5 w0.heap.size q6 (r ++ (1#8 :: beI 8 tn).map w8) y5 by have := HR.out; rwa [List.append_assoc] at this); clear HR
    go_upto_region 15 with fail
    refine Kr.seqStartW ?_
    (refine Kr.seqQ (v := ?_) (a' := ?_) (by rfl) ?_ ?_ ?_; rotate_left 2; (focus (go_simp; first | done | rfl)); (focus ((try simp only [Kr.PT]); first | done | rfl)))
    (refine Kr.seqQ (v := ?_) (a' := ?_) (by rfl) ?_ ?_ ?_; rotate_left 2; (focus (go_simp; first | done | rfl)); (focus ((try simp only [Kr.PT]); first | done | rfl)))
    refine Kr.seqDoneW ?_
    have hk := trivial
    go_wp2
    refine bodyPost_ret (v := q6) (by simp [results, Tryd.results36, go_sem, hk]) rfl ⟨_, rfl, HR2.out, HA, H⟩
  by_cases k2 : tk = 2
  · have C1 : decide (tk = 1) = false := decide_eq_false (by exact k1)
    have C2 : decide (tk = 2) = true := decide_eq_true (by exact k2)
    have hEE : E = 2#8 :: (beI 4 (bl : Int) ++ t.b) := by rw [← HE.out, enc2 (HTK.out.trans k2) d, HBL.out]; rfl
    have hz1 : z0 = 2#8 := by rw [← hz0, k2]; rfl
    subst hEE; rw [hz1] at HR; clear hz0 k1 k2
    have hbl8 : (beI 4 (bl : Int)).length = 4 := beI_length _ _; rw [List.length_cons, List.length_append, hbl8, HBL.out] at hb
    go_upto_region 3 with fail
    refine Kr.seqStartW ?_
    (refine Kr.seqQ (v := .bool false) (a' := ?_) (by rfl) ?_ ?_ ?_; rotate_left 1; (focus (exact Kr.valOf rfl (eqlI C1))); (focus ((try simp only [Kr.PT]); first | done | rfl)))
    (refine Kr.seqQ (v := ?_) (a' := ?_) (by rfl) ?_ ?_ ?_; rotate_left 2; (focus (go_simp; first | done | rfl)); (focus ((try simp only [Kr.PT]); first | done | rfl)))
    refine Kr.seqDoneW ?_
    go_upto_region 5 with fail
    refine Kr.seqStartW ?_
    (refine Kr.seqQ (v := .bool true) (a' := ?_) (by rfl) ?_ ?_ ?_; rotate_left 1; (focus (exact Kr.valOf rfl (eqlI C2))); (focus ((try simp only [Kr.PT]); first | done | rfl)))
    (refine Kr.seqQ (v := ?_) (a' := ?_) (by rfl) ?_ ?_ ?_; rotate_left 2; (focus (go_simp; first | done | rfl)); (focus ((try simp only [Kr.PT]); first | done | rfl)))
    refine Kr.seqDoneW ?_
    go_upto_region 6 with fail
    refine Kr.seqStartW ?_
    (refine Kr.seqQ (v := ?_) (a' := ?_) (by rfl) ?_ ?_ ?_; rotate_left 2; (focus (go_simp; first | done | rfl)); (focus ((try simp only [Kr.PT]); first | done | rfl)))
    (refine Kr.seqQ (v := .pointer (some ⟨ba, 2, none⟩)) (a' := ?_) (by rfl) ?_ ?_ ?_; rotate_left 1; (focus (go_simp; first | done | rfl)); (focus ((try simp only [Kr.PT]); first | done | rfl)))
    (refine Kr.seqQ (v := .slice pb bl cb) (a' := ?_) (by rfl) ?_ ?_ ?_; rotate_left 1; (focus (exact Kr.valOf rfl (ldSl (rowCell (j := 2) (H.at 0 rfl) rfl)))); (focus ((try simp only [Kr.PT]); first | done | rfl)))
    (refine Kr.seqQ (v := .int .i64 (bl : Int)) (a' := ?_) (by rfl) ?_ ?_ ?_; rotate_left 1; (focus (exact Kr.valOf rfl ((by go_simp)))); (focus ((try simp only [Kr.PT]); first | done | rfl)))
    refine Kr.seqR (by rfl) (fun K hK => ?_)
    go_simp
    go_at_call 47
    refine (wnum_v (m := 4) (n := (bl : Int)) H HR.out HA (by decide) (by simp; omega)).mono ?_
    rintro e y7 ⟨q8, rfl, hR3, hA3, H3⟩
    clear H HR HA; have H := H3; have HR := Lib.hid hR3; have HA := hA3; clear H3 hR3 hA3
    (refine Kr.outS hK (a' := ?_) ?_ ?_; rotate_left; (focus ((try simp only [Kr.PT]); first | done | rfl))); clear hK K
    (refine Kr.seqQ (v := ?_) (a' := ?_) (by rfl) ?_ ?_ ?_; rotate_left 2; (focus (go_simp; first | done | rfl)); (focus ((try simp only [Kr.PT]); first | done | rfl)))
    refine Kr.seqDoneW ?_
    go_upto_region 7 with fail
    refine Kr.seqStartW ?_
    (refine Kr.seqQ (v := ?_) (a' := ?_) (by rfl) ?_ ?_ ?_; rotate_left 2; (focus (go_simp; first | done | rfl)); (focus ((try simp only [Kr.PT]); first | done | rfl)))
    (refine Kr.seqQ (v := .pointer (some ⟨ba, 2, none⟩)) (a' := ?_) (by rfl) ?_ ?_ ?_; rotate_left 1; (focus (go_simp; first | done | rfl)); (focus ((try simp only [Kr.PT]); first | done | rfl)))
    (refine Kr.seqQ (v := .slice pb bl cb) (a' := ?_) (by rfl) ?_ ?_ ?_; rotate_left 1; (focus (exact Kr.valOf rfl (ldSl (rowCell (j := 2) (H.at 0 rfl) rfl)))); (focus ((try simp only [Kr.PT]); first | done | rfl)))
    refine Kr.seqR (by rfl) (fun K hK => ?_)
    refine wp_appG (T := 5) (TS := 22) Tryd.underlying22 info8 rfl (.tmp 28) (.tmp 30) rfl (v := q8) (r := (r ++ [w8 2#8] ++ (beI 4 (bl : Int)).map w8)) (d := (t.b.map w8)) (p := pb) (m := bl) (c := cb) (rs := ((ba, 25, [.int .i64 tk, .int .i64 tn, .slice pb bl cb, .slice pl ll cl]) :: rs)) rfl rfl (by rw [List.length_map]; exact HBL.out) (((src_item HBB.out).grow H.g).srcG) (one_lit8 t.b) (HPB.out) H HR.out HA (by simp [hbl8]; omega) (by decide) ?_
    intro q10 y9 H3 hR3 hA3
    clear H HR HA ; have H := H3; have HR := Lib.hid hR3; have HA := hA3; clear H3 hR3 hA3
    (refine Kr.outS hK (a' := ?_) ?_ ?_; rotate_left; (focus ((try simp only [Kr.PT]); first | done | rfl))); clear hK K
    (refine Kr.seqQ (v := ?_) (a' := ?_) (by rfl) ?_ ?_ ?_; rotate_left 2; (focus (go_simp; first | done | rfl)); (focus ((try simp only [Kr.PT]); first | done | rfl)))
    refine Kr.seqDoneW ?_
    replace HA := apt_tail HA; replace H := H.drop 1; dsimp only [List.drop] at H
    have HR2 := Lib.hid (show RowG 5 w0.heap.size q10 (r ++ (2#8 :: (beI 4 (bl : Int) ++ t.b)).map w8) y9 by have := HR.out; rwa [List.append_assoc, List.append_assoc, ← List.map_append] at this); clear HR
    go_upto_region 15 with fail
    refine Kr.seqStartW ?_
    (refine Kr.seqQ (v := ?_) (a' := ?_) (by rfl) ?_ ?_ ?_; rotate_left 2; (focus (go_simp; first | done | rfl)); (focus ((try simp only [Kr.PT]); first | done | rfl)))
    (refine Kr.seqQ (v := ?_) (a' := ?_) (by rfl) ?_ ?_ ?_; rotate_left 2; (focus (go_simp; first | done | rfl)); (focus ((try simp only [Kr.PT]); first | done | rfl)))
    refine Kr.seqDoneW ?_
    have hk := trivial
    go_wp2
    refine bodyPost_ret (v := q10) (by simp [results, Tryd.results36, go_sem, hk]) rfl ⟨_, rfl, HR2.out, HA, H⟩
  have hk3 : t.k = 3 ∧ ∃ e, d = e + 1 ∧ t.l.length ≤ 1000 ∧ ∀ x ∈ t.l, vld e x = true := by
    rcases HVC.out with h | h | h
    · exact absurd (HTK.out.symm.trans h) k1
    · exact absurd (HTK.out.symm.trans h) k2
    · exact h
  obtain ⟨hk3, d, rfl, hl1000, hal⟩ := hk3; rw [HLL.out] at hl1000; have k3 : tk = 3 := HTK.out.symm.trans hk3; have HAL := Lib.hid hal; clear hal
  have C1 : decide (tk = 1) = false := decide_eq_false (by exact k1)
  have C2 : decide (tk = 2) = false := decide_eq_false (by exact k2)
  have C3 : decide (tk = 3) = true := decide_eq_true (by exact k3)
  have hEE : E = 3#8 :: (beI 4 (ll : Int) ++ t.l.flatMap (enc d)) := by rw [← HE.out, enc3 hk3 d, HLL.out]; rfl
  have hz1 : z0 = 3#8 := by rw [← hz0, k3]; rfl
  subst hEE; rw [hz1] at HR; clear hz0 k1 k2 k3 hk3
  have hbl8 : (beI 4 (ll : Int)).length = 4 := beI_length _ _; rw [List.length_cons, List.length_append, hbl8] at hb
  go_upto_region 3 with fail
  refine Kr.seqStartW ?_
  (refine Kr.seqQ (v := .bool false) (a' := ?_) (by rfl) ?_ ?_ ?_; rotate_left 1; (focus (exact Kr.valOf rfl (eqlI C1))); (focus ((try simp only [Kr.PT]); first | done | rfl)))
  (refine Kr.seqQ (v := ?_) (a' := ?_) (by rfl) ?_ ?_ ?_; rotate_left 2; (focus (go_simp; first | done | rfl)); (focus ((try simp only [Kr.PT]); first | done | rfl)))
  refine Kr.seqDoneW ?_
  go_upto_region 5 with fail
  refine Kr.seqStartW ?_
  (refine Kr.seqQ (v := .bool false) (a' := ?_) (by rfl) ?_ ?_ ?_; rotate_left 1; (focus (exact Kr.valOf rfl (eqlI C2))); (focus ((try simp only [Kr.PT]); first | done | rfl)))
  (refine Kr.seqQ (v := ?_) (a' := ?_) (by rfl) ?_ ?_ ?_; rotate_left 2; (focus (go_simp; first | done | rfl)); (focus ((try simp only [Kr.PT]); first | done | rfl)))
  refine Kr.seqDoneW ?_
  go_upto_region 8 with fail
  refine Kr.seqStartW ?_
  (refine Kr.seqQ (v := .bool true) (a' := ?_) (by rfl) ?_ ?_ ?_; rotate_left 1; (focus (exact Kr.valOf rfl (eqlI C3))); (focus ((try simp only [Kr.PT]); first | done | rfl)))
  (refine Kr.seqQ (v := ?_) (a' := ?_) (by rfl) ?_ ?_ ?_; rotate_left 2; (focus (go_simp; first | done | rfl)); (focus ((try simp only [Kr.PT]); first | done | rfl)))
  refine Kr.seqDoneW ?_
  go_upto_region 9 with fail
  refine Kr.seqStartW ?_
  (refine Kr.seqQ (v := ?_) (a' := ?_) (by rfl) ?_ ?_ ?_; rotate_left 2; (focus (go_simp; first | done | rfl)); (focus ((try simp only [Kr.PT]); first | done | rfl)))
  (refine Kr.seqQ (v := .pointer (some ⟨ba, 3, none⟩)) (a' := ?_) (by rfl) ?_ ?_ ?_; rotate_left 1; (focus (go_simp; first | done | rfl)); (focus ((try simp only [Kr.PT]); first | done | rfl)))
  (refine Kr.seqQ (v := .slice pl ll cl) (a' := ?_) (by rfl) ?_ ?_ ?_; rotate_left 1; (focus (exact Kr.valOf rfl (ldLs (rowCell (j := 3) (H.at 0 rfl) rfl)))); (focus ((try simp only [Kr.PT]); first | done | rfl)))
  (refine Kr.seqQ (v := .int .i64 (ll : Int)) (a' := ?_) (by rfl) ?_ ?_ ?_; rotate_left 1; (focus (exact Kr.valOf rfl ((by go_simp)))); (focus ((try simp only [Kr.PT]); first | done | rfl)))
  refine Kr.seqR (by rfl) (fun K hK => ?_)
  go_simp
  go_at_call 47
  refine (wnum_v (m := 4) (n := (ll : Int)) H HR.out HA (by decide) (by simp; omega)).mono ?_
  rintro e y11 ⟨q12, rfl, hR3, hA3, H3⟩
  clear H HR HA; have H := H3; have HR := Lib.hid hR3; have HA := hA3; clear H3 hR3 hA3
  (refine Kr.outS hK (a' := ?_) ?_ ?_; rotate_left; (focus ((try simp only [Kr.PT]); first | done | rfl))); clear hK K
  (refine Kr.seqQ (v := ?_) (a' := ?_) (by rfl) ?_ ?_ ?_; rotate_left 2; (focus (go_simp; first | done | rfl)); (focus ((try simp only [Kr.PT]); first | done | rfl)))
  refine Kr.seqDoneW ?_
  go_upto_region 10 with fail
  refine Kr.seqStartW ?_
  (refine Kr.seqQ (v := .pointer (some ⟨ba, 3, none⟩)) (a' := ?_) (by rfl) ?_ ?_ ?_; rotate_left 1; (focus (go_simp; first | done | rfl)); (focus ((try simp only [Kr.PT]); first | done | rfl)))
  (refine Kr.seqQ (v := .slice pl ll cl) (a' := ?_) (by rfl) ?_ ?_ ?_; rotate_left 1; (focus (exact Kr.valOf rfl (ldLs (rowCell (j := 3) (H.at 0 rfl) rfl)))); (focus ((try simp only [Kr.PT]); first | done | rfl)))
  (refine Kr.seqQ (v := .int .i64 (ll : Int)) (a' := ?_) (by rfl) ?_ ?_ ?_; rotate_left 1; (focus (exact Kr.valOf rfl ((by go_simp)))); (focus ((try simp only [Kr.PT]); first | done | rfl)))
  (refine Kr.seqQ (v := ?_) (a' := ?_) (by rfl) ?_ ?_ ?_; rotate_left 2; (focus (go_simp; first | done | rfl)); (focus ((try simp only [Kr.PT]); first | done | rfl)))
  refine Kr.seqDoneW ?_
  obtain ⟨P, hP⟩ : ∃ z, r ++ [w8 3#8] ++ (beI 4 (ll : Int)).map w8 = z := ⟨_, rfl⟩; have hPl : P.length = r.length + 5 := by rw [← hP]; simp [hbl8]
  rw [hP] at HR; have HPP := Lib.hid hP; clear hP C1 C2 C3 hE1
  have H2 := Lib.hid H; clear H
  go_wp2_with fail
  go_loopw [0, 42] (fun v iv wr => ∃ (j : Nat), j ≤ ll ∧ iv = .int .i64 (j : Int) ∧ Hid (RowG 5 w0.heap.size v (P ++ (fl d t.l j).map w8) wr) ∧ Hid (Apt v ((ba, 25, [.int .i64 tk, .int .i64 tn, .slice pb bl cb, .slice pl ll cl]) :: rs)) ∧ Hid (Ow w0 wr ((ba, 25, [.int .i64 tk, .int .i64 tn, .slice pb bl cb, .slice pl ll cl]) :: rs))) (fun _ iv _ => (ll - (intOf iv).toNat))
  case atStart => exact ⟨0, by omega, rfl, by rw [show (fl d t.l 0).map w8 = [] from rfl, List.append_nil]; exact HR, Lib.hid HA, H2⟩
  case round =>
    clear H2 HR HA; obtain ⟨j, hj, rfl, HR, HA, HH⟩ := hrel; have H := HH.out; replace HA := HA.out; clear HH
    by_cases hje : j = ll
    · have C4 : decide ((j : Int) < (ll : Int)) = false := decide_eq_false (by omega)
      rw [fl_all d t.l (by rw [HLL.out]; omega)] at HR; clear hje
      go_upto_region 11 with fail
      refine Kr.seqStartW ?_
      (refine Kr.seqQ (v := .bool false) (a' := ?_) (by rfl) ?_ ?_ ?_; rotate_left 1; (focus (exact Kr.valOf rfl (lssT C4))); (focus ((try simp only [Kr.PT]); first | done | rfl)))
      refine Kr.seqDoneW ?_
      replace HA := apt_tail HA; replace H := H.drop 1; dsimp only [List.drop] at H
      have HR2 := Lib.hid (show RowG 5 w0.heap.size u0 (r ++ (3#8 :: (beI 4 (ll : Int) ++ t.l.flatMap (enc d))).map w8) wr by have := HR.out; rwa [← HPP.out, List.append_assoc, List.append_assoc, ← List.map_append] at this); clear HR
      go_upto_region 15 with fail
      refine Kr.seqStartW ?_
      (refine Kr.seqQ (v := ?_) (a' := ?_) (by rfl) ?_ ?_ ?_; rotate_left 2; (focus (go_simp; first | done | rfl)); (focus ((try simp only [Kr.PT]); first | done | rfl)))
      (refine Kr.seqQ (v := ?_) (a' := ?_) (by rfl) ?_ ?_ ?_; rotate_left 2; (focus (go_simp; first | done | rfl)); (focus ((try simp only [Kr.PT]); first | done | rfl)))
      refine Kr.seqDoneW ?_
      have hk := trivial
      go_wp2
      refine bodyPost_ret (v := u0) (by simp [results, Tryd.results36, go_sem, hk]) rfl ⟨_, rfl, HR2.out, HA, H⟩
    · have hjl : j < ll := by omega
      have C4 : decide ((j : Int) < (ll : Int)) = true := decide_eq_true (by omega)
      clear hje
      obtain ⟨x, hx⟩ : ∃ x, t.l[j]? = some x := ⟨_, List.getElem?_eq_getElem (by rw [HLL.out]; exact hjl)⟩
      obtain ⟨b, off, v0, v1, v2, v3, hpl, hFb, c0, c1, c2, c3, hch⟩ := HLS.out j x hx
      subst hpl
      have HC0 := Lib.hid c0; have HC1 := Lib.hid c1; have HC2 := Lib.hid c2; have HC3 := Lib.hid c3; have HCH := Lib.hid hch; have HX := Lib.hid hx; clear c0 c1 c2 c3 hch hx hFb
      have HON : Hid (∀ v ∈ ([v0, v1, v2, v3] : List Value), v.oneCell' = true) := Lib.hid (ItV.one HCH.out)
      have HFS := Lib.hid (fl_succ (d := d) HX.out); have hfl1 := fl_le d t.l (j + 1); rw [HFS.out, List.length_append] at hfl1
      have HVX := Lib.hid (HAL.out x (List.mem_of_getElem? HX.out))
      go_upto_region 11 with fail
      refine Kr.seqStartW ?_
      (refine Kr.seqQ (v := .bool true) (a' := ?_) (by rfl) ?_ ?_ ?_; rotate_left 1; (focus (exact Kr.valOf rfl (lssT C4))); (focus ((try simp only [Kr.PT]); first | done | rfl)))
      refine Kr.seqDoneW ?_
      go_upto_region 12 with fail
      refine Kr.seqStartW ?_
      (refine Kr.seqQ (v := .pointer (some ⟨b, off + j * 4, none⟩)) (a' := ?_) (by rfl) ?_ ?_ ?_; rotate_left 1; (focus (exact Kr.valOf rfl (ixI hjl))); (focus ((try simp only [Kr.PT]); first | done | rfl)))
      (refine Kr.seqQ (v := .agg #[v0, v1, v2, v3]) (a' := ?_) (by rfl) ?_ ?_ ?_; rotate_left 1; (focus (exact Kr.valOf rfl (ldItem (H.g.cell HC0.out) (H.g.cell HC1.out) (H.g.cell HC2.out) (H.g.cell HC3.out)))); (focus ((try simp only [Kr.PT]); first | done | rfl)))
      refine Kr.seqR (by rfl) (fun K hK => ?_)
      refine wp_runV rfl newI ?_
      obtain ⟨y13, hy⟩ : ∃ y, wr.alloc (.cells ([.int .i64 0, .int .i64 0, .slice none 0 0, .slice none 0 0]).toArray 25) = y := ⟨_, rfl⟩
      obtain ⟨bx, hb⟩ : ∃ b, wr.heap.size = b := ⟨_, rfl⟩
      rw [hy, hb]
      replace HA := apt_new (T2 := 25) (l := [.int .i64 0, .int .i64 0, .slice none 0 0, .slice none 0 0]) HR.out HA hb
      have hg : Gr wr y13 := hy ▸ (Gr.refl _).alloc _
      replace H := H.alloc hy hb
      replace HR := Lib.hid (HR.out.grow hg)
      clear hy hb hg
      (refine Kr.outS hK (a' := ?_) ?_ ?_; rotate_left; (focus ((try simp only [Kr.PT]); first | done | rfl))); clear hK K
      refine Kr.seqR (by rfl) (fun K hK => ?_)
      refine wp_run rfl (stI (H.at 0 rfl) HON.out) ?_
      have hRp := rowG_putA (cs := ([v0, v1, v2, v3] : List Value).toArray) HR.out HA 0 rfl; replace HA := apt_set (l2 := [v0, v1, v2, v3]) HA 0 rfl; dsimp only [List.set] at HA
      obtain ⟨y14, hy⟩ : ∃ y, y13.setRow bx ([v0, v1, v2, v3] : List Value).toArray = y := ⟨_, rfl⟩; rw [hy]; rw [hy] at hRp; replace HR := Lib.hid hRp; clear hRp
      replace H := H.put 0 hy rfl; dsimp only [List.set] at H; clear hy
      (refine Kr.outS hK (a' := ?_) ?_ ?_; rotate_left; (focus ((try simp only [Kr.PT]); first | done | rfl))); clear hK K
      refine Kr.seqDoneW ?_
      go_upto_region 13 with fail
      refine Kr.seqStartW ?_
      (refine Kr.seqQ (v := ?_) (a' := ?_) (by rfl) ?_ ?_ ?_; rotate_left 2; (focus (go_simp; first | done | rfl)); (focus ((try simp only [Kr.PT]); first | done | rfl)))
      (refine Kr.seqQ (v := .agg #[v0, v1, v2, v3]) (a' := ?_) (by rfl) ?_ ?_ ?_; rotate_left 1; (focus (exact Kr.valOf rfl (ldI (H.at 0 rfl)))); (focus ((try simp only [Kr.PT]); first | done | rfl)))
      refine Kr.seqR (by rfl) (fun K hK => ?_)
      go_simp
      go_at_call 36
      refine (ih d rfl H HR.out HA HCH.out HVX.out (by rw [List.length_append, List.length_map, hPl]; omega)).mono ?_
      rintro e y15 ⟨q16, rfl, hR3, hA3, H3⟩
      clear H HR HA; have H := H3; have HR := Lib.hid hR3; have HA := hA3; clear H3 hR3 hA3
      (refine Kr.outS hK (a' := ?_) ?_ ?_; rotate_left; (focus ((try simp only [Kr.PT]); first | done | rfl))); clear hK K
      (refine Kr.seqQ (v := ?_) (a' := ?_) (by rfl) ?_ ?_ ?_; rotate_left 2; (focus (go_simp; first | done | rfl)); (focus ((try simp only [Kr.PT]); first | done | rfl)))
      refine Kr.seqDoneW ?_
      rw [List.append_assoc, ← List.map_append, ← HFS.out] at HR
      replace HA := apt_tail HA
      replace H := H.drop 1; dsimp only [List.drop] at H
      have HADD : IntKind.i64.wrap ((j : Int) + 1) = ((j + 1 : Nat) : Int) := wrap_nat (by omega) (by omega)
      go_upto_region 14 with fail
      refine Kr.seqStartW ?_
      (refine Kr.seqQ (v := .int .i64 ((j + 1 : Nat) : Int)) (a' := ?_) (by rfl) ?_ ?_ ?_; rotate_left 1; (focus (exact Kr.valOf rfl (addI HADD))); (focus ((try simp only [Kr.PT]); first | done | rfl)))
      (refine Kr.seqQ (v := ?_) (a' := ?_) (by rfl) ?_ ?_ ?_; rotate_left 2; (focus (go_simp; first | done | rfl)); (focus ((try simp only [Kr.PT]); first | done | rfl)))
      refine Kr.seqDoneW ?_
      go_wp2; go_roundw
      case rel =>
        first
        | exact ⟨j + 1, by omega, rfl, HR, Lib.hid HA, Lib.hid H⟩
        | (repeat apply Exists.intro); exact ⟨⟨j + 1, by omega, rfl, HR, Lib.hid HA, Lib.hid H⟩, rfl⟩
        | (repeat apply Exists.intro); refine ⟨⟨j + 1, by omega, rfl, HR, Lib.hid HA, Lib.hid H⟩, ?_⟩; refine ⟨?_, ?_⟩ <;> (repeat apply And.intro) <;> rfl
      case measure => simp [intOf]; omega
theorem write_v : ∀ (d : Nat), ∀ {w0 w : World} {rs : List Blk} {v : Value} {r : List Value} {k : Nat} {F : Nat → Prop} {val : Value} {t : It} (_ : Ow w0 w rs) (_ : RowG 5 w0.heap.size v r w) (_ : Apt v rs) (_ : ItV w0 k F val t) (_ : vld d t = true) (_ : r.length + (enc d t).length ≤ 99999900), Calls Tryd.prog 36 #[v, val] w fun o w' => ∃ v2, o = .returned v2 ∧ RowG 5 w0.heap.size v2 (r ++ (enc d t).map w8) w' ∧ Apt v2 rs ∧ Ow w0 w' rs
  | 0, _, _, _, _, _, _, _, _, _, h1, h2, h3, h4, h5, h6 => write_step (fun e he => by omega) h1 h2 h3 h4 h5 h6
  | d + 1, _, _, _, _, _, _, _, _, _, h1, h2, h3, h4, h5, h6 => write_step (fun e he => by
      obtain rfl : e = d := by omega
      exact write_v e) h1 h2 h3 h4 h5 h6

end Go.Proofs.YtcngcdfngifjnaaDoor.Dg


/- size, Encode. -/
namespace Go.Proofs.YtcngcdfngifjnaaDoor.Dg
open Go Go.RowKit Go.Proofs.YtcngcdfngifjnaaDoor.Ne Go.Proofs.YtcngcdfngifjnaaDoor.Kr

/-- What size says of an encoding of this length. -/
def Szd (L d : Nat) (m : Nat) : Prop := (L ≤ 16384 → m = L) ∧ (16384 < L → 16384 < m) ∧ m ≤ 4611686018427387904 + 20000 * (d + 1)
theorem slice_of {T : TypeId} {B : Nat} {v : Value} {xs : List Value} {W : World} (h : RowG T B v xs W) : ∃ p c, v = .slice p xs.length c := by
  obtain ⟨p, c, e, _⟩ := h.src
  exact ⟨p, c, e⟩

set_option linter.unusedSimpArgs false in
set_option maxRecDepth 100000 in
set_option maxHeartbeats 16000000 in
theorem size_step {d : Nat} (hd : d ≤ 8) (ih : ∀ e, e + 1 = d → ∀ {k : Nat} {F : Nat → Prop} {v : Value} {t : It} {w : World}, ItV w k F v t → vld e t = true → Calls Tryd.prog 35 #[v] w fun o w' => ∃ m : Nat, o = .returned (.int .i64 (m : Int)) ∧ Szd (enc e t).length e m ∧ Gr w w')
    {k : Nat} {F : Nat → Prop} {v : Value} {t : It} {w : World} (hI : ItV w k F v t) (hv : vld d t = true) :
    Calls Tryd.prog 35 #[v] w fun o w' => ∃ m : Nat, o = .returned (.int .i64 (m : Int)) ∧ Szd (enc d t).length d m ∧ Gr w w' := by
  obtain ⟨k0, rfl⟩ : ∃ k0, k = k0 + 1 := by cases k with
    | zero => exact hI.elim
    | succ k0 => exact ⟨k0, rfl⟩
  obtain ⟨pb, cb, pl, cl, hv, hk1, hn1, hpb, hcb, hbl, hll, hB, hL⟩ := hI; subst hv
  obtain ⟨tk, htk⟩ : ∃ z, t.k = z := ⟨_, rfl⟩; obtain ⟨tn, htn⟩ : ∃ z, t.n = z := ⟨_, rfl⟩; obtain ⟨bl, hbl2⟩ : ∃ z, t.b.length = z := ⟨_, rfl⟩; obtain ⟨ll, hll2⟩ : ∃ z, t.l.length = z := ⟨_, rfl⟩
  rw [htk] at hk1; rw [htn] at hn1; rw [hbl2] at hcb hbl; rw [hll2] at hll; have HTK := Lib.hid htk; have HTN := Lib.hid htn; have HBL := Lib.hid hbl2; have HLL := Lib.hid hll2; have HBB := Lib.hid hB; have HLS := Lib.hid hL; have HPB := Lib.hid hpb; have HI1 := Lib.hid hk1; have HI2 := Lib.hid hn1; rw [htk, htn, hbl2, hll2]; clear htk htn hbl2 hll2 hB hL hpb hk1 hn1
  have HD8 := Lib.hid hd; clear hd
  have HVC := Lib.hid (vld_cases hv)
  obtain ⟨L, hLn⟩ : ∃ z, (enc d t).length = z := ⟨_, rfl⟩; rw [hLn]; have HLN := Lib.hid hLn; clear hLn hv
  have H := Ow.start w
  go_enter Tryd.func35, Tryd.ntmps35
  go_upto_region 0 with fail
  refine Kr.seqStartW ?_
  refine Kr.seqR (by rfl) (fun K hK => ?_)
  refine wp_runV rfl boxI ?_
  obtain ⟨y1, hy⟩ : ∃ y, w.alloc (.cells ([.int .i64 tk, .int .i64 tn, .slice pb bl cb, .slice pl ll cl]).toArray 25) = y := ⟨_, rfl⟩
  obtain ⟨ba, hb⟩ : ∃ b, w.heap.size = b := ⟨_, rfl⟩
  rw [hy, hb]
  have hg : Gr w y1 := hy ▸ (Gr.refl _).alloc _
  replace H := H.alloc hy hb
  clear hy hb hg
  (refine Kr.outS hK (a' := ?_) ?_ ?_; rotate_left; (focus ((try simp only [Kr.PT]); first | done | rfl))); clear hK K
  (refine Kr.seqQ (v := ?_) (a' := ?_) (by rfl) ?_ ?_ ?_; rotate_left 2; (focus (go_simp; first | done | rfl)); (focus ((try simp only [Kr.PT]); first | done | rfl)))
  refine Kr.seqDoneW ?_
  go_upto_region 1 with fail
  refine Kr.seqStartW ?_
  (refine Kr.seqQ (v := .pointer (some ⟨ba, 0, none⟩)) (a' := ?_) (by rfl) ?_ ?_ ?_; rotate_left 1; (focus (go_simp; first | done | rfl)); (focus ((try simp only [Kr.PT]); first | done | rfl)))
  (refine Kr.seqQ (v := .int .i64 tk) (a' := ?_) (by rfl) ?_ ?_ ?_; rotate_left 1; (focus (exact Kr.valOf rfl (ldInt (rowCell (j := 0) (H.at 0 rfl) rfl)))); (focus ((try simp only [Kr.PT]); first | done | rfl)))
  refine Kr.seqDoneW ?_
  by_cases k1 : tk = 1
  · have C1 : decide (tk = 1) = true := decide_eq_true (by exact k1)
    have hEE : L = 9 := by rw [← HLN.out, enc1 (HTK.out.trans k1) d, List.length_cons, beI_length]
    subst hEE; clear k1
    go_upto_region 2 with fail
    refine Kr.seqStartW ?_
    (refine Kr.seqQ (v := .bool true) (a' := ?_) (by rfl) ?_ ?_ ?_; rotate_left 1; (focus (exact Kr.valOf rfl (eqlI C1))); (focus ((try simp only [Kr.PT]); first | done | rfl)))
    (refine Kr.seqQ (v := ?_) (a' := ?_) (by rfl) ?_ ?_ ?_; rotate_left 2; (focus (go_simp; first | done | rfl)); (focus ((try simp only [Kr.PT]); first | done | rfl)))
    refine Kr.seqDoneW ?_
    go_upto_region 3 with fail
    refine Kr.seqStartW ?_
    (refine Kr.seqQ (v := ?_) (a' := ?_) (by rfl) ?_ ?_ ?_; rotate_left 2; (focus (go_simp; first | done | rfl)); (focus ((try simp only [Kr.PT]); first | done | rfl)))
    refine Kr.seqDoneW ?_
    have hk := trivial
    go_wp2
    refine bodyPost_ret (v := .int .i64 9) (by simp [results, Tryd.results35, go_sem, hk]) rfl ⟨9, rfl, ⟨fun _ => rfl, fun h => absurd h (by decide), by omega⟩, H.g⟩
  by_cases k2 : tk = 2
  · have C1 : decide (tk = 1) = false := decide_eq_false (by exact k1)
    have C2 : decide (tk = 2) = true := decide_eq_true (by exact k2)
    have hEE : 5 + bl = L := by rw [← HLN.out, enc2 (HTK.out.trans k2) d, List.length_cons, List.length_append, beI_length, HBL.out]; omega
    clear k1 k2; have hadd : IntKind.i64.wrap ((5 : Int) + (bl : Int)) = (L : Int) := wrap_nat (by omega) (by omega)
    go_upto_region 2 with fail
    refine Kr.seqStartW ?_
    (refine Kr.seqQ (v := .bool false) (a' := ?_) (by rfl) ?_ ?_ ?_; rotate_left 1; (focus (exact Kr.valOf rfl (eqlI C1))); (focus ((try simp only [Kr.PT]); first | done | rfl)))
    (refine Kr.seqQ (v := ?_) (a' := ?_) (by rfl) ?_ ?_ ?_; rotate_left 2; (focus (go_simp; first | done | rfl)); (focus ((try simp only [Kr.PT]); first | done | rfl)))
    refine Kr.seqDoneW ?_
    go_upto_region 4 with fail
    refine Kr.seqStartW ?_
    (refine Kr.seqQ (v := .bool true) (a' := ?_) (by rfl) ?_ ?_ ?_; rotate_left 1; (focus (exact Kr.valOf rfl (eqlI C2))); (focus ((try simp only [Kr.PT]); first | done | rfl)))
    (refine Kr.seqQ (v := ?_) (a' := ?_) (by rfl) ?_ ?_ ?_; rotate_left 2; (focus (go_simp; first | done | rfl)); (focus ((try simp only [Kr.PT]); first | done | rfl)))
    refine Kr.seqDoneW ?_
    go_upto_region 5 with fail
    refine Kr.seqStartW ?_
    (refine Kr.seqQ (v := .pointer (some ⟨ba, 2, none⟩)) (a' := ?_) (by rfl) ?_ ?_ ?_; rotate_left 1; (focus (go_simp; first | done | rfl)); (focus ((try simp only [Kr.PT]); first | done | rfl)))
    (refine Kr.seqQ (v := .slice pb bl cb) (a' := ?_) (by rfl) ?_ ?_ ?_; rotate_left 1; (focus (exact Kr.valOf rfl (ldSl (rowCell (j := 2) (H.at 0 rfl) rfl)))); (focus ((try simp only [Kr.PT]); first | done | rfl)))
    (refine Kr.seqQ (v := .int .i64 (bl : Int)) (a' := ?_) (by rfl) ?_ ?_ ?_; rotate_left 1; (focus (exact Kr.valOf rfl ((by go_simp)))); (focus ((try simp only [Kr.PT]); first | done | rfl)))
    (refine Kr.seqQ (v := .int .i64 (L : Int)) (a' := ?_) (by rfl) ?_ ?_ ?_; rotate_left 1; (focus (exact Kr.valOf rfl (addI hadd))); (focus ((try simp only [Kr.PT]); first | done | rfl)))
    (refine Kr.seqQ (v := ?_) (a' := ?_) (by rfl) ?_ ?_ ?_; rotate_left 2; (focus (go_simp; first | done | rfl)); (focus ((try simp only [Kr.PT]); first | done | rfl)))
    refine Kr.seqDoneW ?_
    have hk := trivial
    go_wp2
    refine bodyPost_ret (v := .int .i64 (L : Int)) (by simp [results, Tryd.results35, go_sem, hk]) rfl ⟨L, rfl, ⟨fun _ => rfl, fun h => h, by omega⟩, H.g⟩
  have hk3 : t.k = 3 ∧ ∃ e, d = e + 1 ∧ t.l.length ≤ 1000 ∧ ∀ x ∈ t.l, vld e x = true := by
    rcases HVC.out with h | h | h
    · exact absurd (HTK.out.symm.trans h) k1
    · exact absurd (HTK.out.symm.trans h) k2
    · exact h
  obtain ⟨hk3, d, rfl, hl1000, hal⟩ := hk3; rw [HLL.out] at hl1000; have k3 : tk = 3 := HTK.out.symm.trans hk3; have HAL := Lib.hid hal; clear hal
  have C1 : decide (tk = 1) = false := decide_eq_false (by exact k1)
  have C2 : decide (tk = 2) = false := decide_eq_false (by exact k2)
  have HEE : Hid (5 + (t.l.flatMap (enc d)).length = L) := Lib.hid (by rw [← HLN.out, enc3 hk3 d, List.length_cons, List.length_append, beI_length]; omega)
  clear k1 k2 k3 hk3
  go_upto_region 2 with fail
  refine Kr.seqStartW ?_
  (refine Kr.seqQ (v := .bool false) (a' := ?_) (by rfl) ?_ ?_ ?_; rotate_left 1; (focus (exact Kr.valOf rfl (eqlI C1))); (focus ((try simp only [Kr.PT]); first | done | rfl)))
  (refine Kr.seqQ (v := ?_) (a' := ?_) (by rfl) ?_ ?_ ?_; rotate_left 2; (focus (go_simp; first | done | rfl)); (focus ((try simp only [Kr.PT]); first | done | rfl)))
  refine Kr.seqDoneW ?_
  go_upto_region 4 with fail
  refine Kr.seqStartW ?_
  (refine Kr.seqQ (v := .bool false) (a' := ?_) (by rfl) ?_ ?_ ?_; rotate_left 1; (focus (exact Kr.valOf rfl (eqlI C2))); (focus ((try simp only [Kr.PT]); first | done | rfl)))
  (refine Kr.seqQ (v := ?_) (a' := ?_) (by rfl) ?_ ?_ ?_; rotate_left 2; (focus (go_simp; first | done | rfl)); (focus ((try simp only [Kr.PT]); first | done | rfl)))
  refine Kr.seqDoneW ?_
  go_upto_region 6 with fail
  refine Kr.seqStartW ?_
  (refine Kr.seqQ (v := ?_) (a' := ?_) (by rfl) ?_ ?_ ?_; rotate_left 2; (focus (go_simp; first | done | rfl)); (focus ((try simp only [Kr.PT]); first | done | rfl)))
  refine Kr.seqDoneW ?_
  go_upto_region 7 with fail
  refine Kr.seqStartW ?_
  (refine Kr.seqQ (v := .pointer (some ⟨ba, 3, none⟩)) (a' := ?_) (by rfl) ?_ ?_ ?_; rotate_left 1; (focus (go_simp; first | done | rfl)); (focus ((try simp only [Kr.PT]); first | done | rfl)))
  (refine Kr.seqQ (v := .slice pl ll cl) (a' := ?_) (by rfl) ?_ ?_ ?_; rotate_left 1; (focus (exact Kr.valOf rfl (ldLs (rowCell (j := 3) (H.at 0 rfl) rfl)))); (focus ((try simp only [Kr.PT]); first | done | rfl)))
  (refine Kr.seqQ (v := .int .i64 (ll : Int)) (a' := ?_) (by rfl) ?_ ?_ ?_; rotate_left 1; (focus (exact Kr.valOf rfl ((by go_simp)))); (focus ((try simp only [Kr.PT]); first | done | rfl)))
  (refine Kr.seqQ (v := ?_) (a' := ?_) (by rfl) ?_ ?_ ?_; rotate_left 2; (focus (go_simp; first | done | rfl)); (focus ((try simp only [Kr.PT]); first | done | rfl)))
  refine Kr.seqDoneW ?_
  have H2 := Lib.hid H; clear H C1 C2
  go_wp2_with fail
  go_loopw [3, 19] (fun nv iv wr => ∃ (j n : Nat), j ≤ ll ∧ iv = .int .i64 (j : Int) ∧ nv = .int .i64 (n : Int) ∧ Hid (Szd (5 + (fl d t.l j).length) (d + 1) n) ∧ Hid (Ow w wr [(ba, 25, [.int .i64 tk, .int .i64 tn, .slice pb bl cb, .slice pl ll cl])])) (fun _ iv _ => (ll - (intOf iv).toNat))
  case atStart => exact ⟨0, 5, by omega, rfl, rfl, Lib.hid ⟨fun _ => rfl, fun h => absurd h (by show ¬ 16384 < 5; decide), by omega⟩, H2⟩
  case round =>
    clear H2; obtain ⟨j, n, hj, rfl, rfl, HS, HH⟩ := hrel; have H := HH.out; clear HH
    by_cases hje : j = ll
    · have C4 : decide ((j : Int) < (ll : Int)) = false := decide_eq_false (by omega)
      have hs := HS.out; rw [fl_all d t.l (by rw [HLL.out]; omega), HEE.out] at hs; have HSS := Lib.hid hs; clear hs hje
      go_upto_region 8 with fail
      refine Kr.seqStartW ?_
      (refine Kr.seqQ (v := .bool false) (a' := ?_) (by rfl) ?_ ?_ ?_; rotate_left 1; (focus (exact Kr.valOf rfl (lssT C4))); (focus ((try simp only [Kr.PT]); first | done | rfl)))
      refine Kr.seqDoneW ?_
      go_upto_region 13 with fail
      refine Kr.seqStartW ?_
      (refine Kr.seqQ (v := ?_) (a' := ?_) (by rfl) ?_ ?_ ?_; rotate_left 2; (focus (go_simp; first | done | rfl)); (focus ((try simp only [Kr.PT]); first | done | rfl)))
      (refine Kr.seqQ (v := ?_) (a' := ?_) (by rfl) ?_ ?_ ?_; rotate_left 2; (focus (go_simp; first | done | rfl)); (focus ((try simp only [Kr.PT]); first | done | rfl)))
      refine Kr.seqDoneW ?_
      have hk := trivial
      go_wp2
      refine bodyPost_ret (v := .int .i64 (n : Int)) (by simp [results, Tryd.results35, go_sem, hk]) rfl ⟨n, rfl, HSS.out, H.g⟩
    · have hjl : j < ll := by omega
      have C4 : decide ((j : Int) < (ll : Int)) = true := decide_eq_true (by omega)
      clear hje
      obtain ⟨x, hx⟩ : ∃ x, t.l[j]? = some x := ⟨_, List.getElem?_eq_getElem (by rw [HLL.out]; exact hjl)⟩
      obtain ⟨b, off, v0, v1, v2, v3, hpl, hFb, c0, c1, c2, c3, hch⟩ := HLS.out j x hx
      subst hpl
      have HC0 := Lib.hid c0; have HC1 := Lib.hid c1; have HC2 := Lib.hid c2; have HC3 := Lib.hid c3; have HCH := Lib.hid hch; have HX := Lib.hid hx; clear c0 c1 c2 c3 hch hx hFb
      have HON : Hid (∀ v ∈ ([v0, v1, v2, v3] : List Value), v.oneCell' = true) := Lib.hid (ItV.one HCH.out)
      have HFS := Lib.hid (fl_succ (d := d) HX.out); have HFL := Lib.hid (fl_le d t.l j)
      have HVX := Lib.hid (HAL.out x (List.mem_of_getElem? HX.out))
      go_upto_region 8 with fail
      refine Kr.seqStartW ?_
      (refine Kr.seqQ (v := .bool true) (a' := ?_) (by rfl) ?_ ?_ ?_; rotate_left 1; (focus (exact Kr.valOf rfl (lssT C4))); (focus ((try simp only [Kr.PT]); first | done | rfl)))
      refine Kr.seqDoneW ?_
      go_upto_region 9 with fail
      refine Kr.seqStartW ?_
      (refine Kr.seqQ (v := .pointer (some ⟨b, off + j * 4, none⟩)) (a' := ?_) (by rfl) ?_ ?_ ?_; rotate_left 1; (focus (exact Kr.valOf rfl (ixI hjl))); (focus ((try simp only [Kr.PT]); first | done | rfl)))
      (refine Kr.seqQ (v := .agg #[v0, v1, v2, v3]) (a' := ?_) (by rfl) ?_ ?_ ?_; rotate_left 1; (focus (exact Kr.valOf rfl (ldItem (H.g.cell HC0.out) (H.g.cell HC1.out) (H.g.cell HC2.out) (H.g.cell HC3.out)))); (focus ((try simp only [Kr.PT]); first | done | rfl)))
      refine Kr.seqR (by rfl) (fun K hK => ?_)
      refine wp_runV rfl newI ?_
      obtain ⟨y2, hy⟩ : ∃ y, wr.alloc (.cells ([.int .i64 0, .int .i64 0, .slice none 0 0, .slice none 0 0]).toArray 25) = y := ⟨_, rfl⟩
      obtain ⟨bx, hb⟩ : ∃ b, wr.heap.size = b := ⟨_, rfl⟩
      rw [hy, hb]
      have hg : Gr wr y2 := hy ▸ (Gr.refl _).alloc _
      replace H := H.alloc hy hb
      clear hy hb hg
      (refine Kr.outS hK (a' := ?_) ?_ ?_; rotate_left; (focus ((try simp only [Kr.PT]); first | done | rfl))); clear hK K
      refine Kr.seqR (by rfl) (fun K hK => ?_)
      refine wp_run rfl (stI (H.at 0 rfl) HON.out) ?_
      obtain ⟨y3, hy⟩ : ∃ y, y2.setRow bx ([v0, v1, v2, v3]).toArray = y := ⟨_, rfl⟩
      rw [hy]
      replace H := H.put 0 hy rfl
      dsimp only [List.set] at H
      clear hy
      (refine Kr.outS hK (a' := ?_) ?_ ?_; rotate_left; (focus ((try simp only [Kr.PT]); first | done | rfl))); clear hK K
      refine Kr.seqDoneW ?_
      by_cases hbig : 16384 < n
      · have C5 : decide ((16384 : Int) < (n : Int)) = true := decide_eq_true (by omega)
        have HSS : Hid (Szd L (d + 1) n) := Lib.hid (by
          have h1 := HS.out; have h2 := HFL.out; have h3 := HEE.out
          refine ⟨fun h => ?_, fun _ => hbig, h1.2.2⟩
          have := h1.1 (by omega); omega)
        clear hbig
        go_upto_region 10 with fail
        refine Kr.seqStartW ?_
        (refine Kr.seqQ (v := ?_) (a' := ?_) (by rfl) ?_ ?_ ?_; rotate_left 2; (focus (go_simp; first | done | rfl)); (focus ((try simp only [Kr.PT]); first | done | rfl)))
        (refine Kr.seqQ (v := .bool true) (a' := ?_) (by rfl) ?_ ?_ ?_; rotate_left 1; (focus (exact Kr.valOf rfl (gtrI C5))); (focus ((try simp only [Kr.PT]); first | done | rfl)))
        refine Kr.seqDoneW ?_
        go_upto_region 13 with fail
        refine Kr.seqStartW ?_
        (refine Kr.seqQ (v := ?_) (a' := ?_) (by rfl) ?_ ?_ ?_; rotate_left 2; (focus (go_simp; first | done | rfl)); (focus ((try simp only [Kr.PT]); first | done | rfl)))
        (refine Kr.seqQ (v := ?_) (a' := ?_) (by rfl) ?_ ?_ ?_; rotate_left 2; (focus (go_simp; first | done | rfl)); (focus ((try simp only [Kr.PT]); first | done | rfl)))
        refine Kr.seqDoneW ?_
        have hk := trivial
        go_wp2
        refine bodyPost_ret (v := .int .i64 (n : Int)) (by simp [results, Tryd.results35, go_sem, hk]) rfl ⟨n, rfl, HSS.out, H.g⟩
      · have C5 : decide ((16384 : Int) < (n : Int)) = false := decide_eq_false (by omega)
        go_upto_region 10 with fail
        refine Kr.seqStartW ?_
        (refine Kr.seqQ (v := ?_) (a' := ?_) (by rfl) ?_ ?_ ?_; rotate_left 2; (focus (go_simp; first | done | rfl)); (focus ((try simp only [Kr.PT]); first | done | rfl)))
        (refine Kr.seqQ (v := .bool false) (a' := ?_) (by rfl) ?_ ?_ ?_; rotate_left 1; (focus (exact Kr.valOf rfl (gtrI C5))); (focus ((try simp only [Kr.PT]); first | done | rfl)))
        refine Kr.seqDoneW ?_
        go_upto_region 11 with fail
        refine Kr.seqStartW ?_
        (refine Kr.seqQ (v := ?_) (a' := ?_) (by rfl) ?_ ?_ ?_; rotate_left 2; (focus (go_simp; first | done | rfl)); (focus ((try simp only [Kr.PT]); first | done | rfl)))
        (refine Kr.seqQ (v := .agg #[v0, v1, v2, v3]) (a' := ?_) (by rfl) ?_ ?_ ?_; rotate_left 1; (focus (exact Kr.valOf rfl (ldI (H.at 0 rfl)))); (focus ((try simp only [Kr.PT]); first | done | rfl)))
        refine Kr.seqR (by rfl) (fun K hK => ?_)
        go_simp
        go_at_call 35
        refine (ih d rfl (w := y3) (HCH.out.grow H.g) HVX.out).mono ?_
        rintro e y4 ⟨m, rfl, hm, hg⟩
        replace H := H.grow hg
        clear hg
        have hmb := hm.2.2; have HM := Lib.hid hm; clear hm
        obtain ⟨n2, hn2⟩ : ∃ z, n + m = z := ⟨_, rfl⟩; have hadd : IntKind.i64.wrap ((n : Int) + (m : Int)) = (n2 : Int) := wrap_nat (by omega) (by have := HD8.out; omega)
        (refine Kr.outS hK (a' := ?_) ?_ ?_; rotate_left; (focus ((try simp only [Kr.PT]); first | done | rfl))); clear hK K
        (refine Kr.seqQ (v := .int .i64 (n2 : Int)) (a' := ?_) (by rfl) ?_ ?_ ?_; rotate_left 1; (focus (exact Kr.valOf rfl (addI hadd))); (focus ((try simp only [Kr.PT]); first | done | rfl)))
        (refine Kr.seqQ (v := ?_) (a' := ?_) (by rfl) ?_ ?_ ?_; rotate_left 2; (focus (go_simp; first | done | rfl)); (focus ((try simp only [Kr.PT]); first | done | rfl)))
        refine Kr.seqDoneW ?_
        have HS2 : Hid (Szd (5 + (fl d t.l (j + 1)).length) (d + 1) n2) := Lib.hid (by
          have h1 := HS.out; have h2 := HM.out; have h3 := HFS.out
          rw [h3, List.length_append]
          unfold Szd at *
          refine ⟨fun h => ?_, fun h => ?_, by omega⟩
          · have a1 := h1.1 (by omega); have a2 := h2.1 (by omega); omega
          · by_cases h5 : (enc d x).length ≤ 16384
            · have a2 := h2.1 h5
              by_cases h6 : 5 + (fl d t.l j).length ≤ 16384
              · have a1 := h1.1 h6; omega
              · have a1 := h1.2.1 (by omega); omega
            · have a2 := h2.2.1 (by omega); omega)
        replace H := H.drop 1; dsimp only [List.drop] at H
        have HADD : IntKind.i64.wrap ((j : Int) + 1) = ((j + 1 : Nat) : Int) := wrap_nat (by omega) (by omega)
        go_upto_region 12 with fail
        refine Kr.seqStartW ?_
        (refine Kr.seqQ (v := .int .i64 ((j + 1 : Nat) : Int)) (a' := ?_) (by rfl) ?_ ?_ ?_; rotate_left 1; (focus (exact Kr.valOf rfl (addI HADD))); (focus ((try simp only [Kr.PT]); first | done | rfl)))
        (refine Kr.seqQ (v := ?_) (a' := ?_) (by rfl) ?_ ?_ ?_; rotate_left 2; (focus (go_simp; first | done | rfl)); (focus ((try simp only [Kr.PT]); first | done | rfl)))
        refine Kr.seqDoneW ?_
        go_wp2; go_roundw
        case rel =>
          first
          | exact ⟨j + 1, n2, by omega, rfl, rfl, HS2, Lib.hid H⟩
          | (repeat apply Exists.intro); exact ⟨⟨j + 1, n2, by omega, rfl, rfl, HS2, Lib.hid H⟩, rfl⟩
          | (repeat apply Exists.intro); refine ⟨⟨j + 1, n2, by omega, rfl, rfl, HS2, Lib.hid H⟩, ?_⟩; refine ⟨?_, ?_⟩ <;> (repeat apply And.intro) <;> rfl
        case measure => simp [intOf]; omega
theorem size_v : ∀ (d : Nat), d ≤ 8 → ∀ {k : Nat} {F : Nat → Prop} {v : Value} {t : It} {w : World}, ItV w k F v t → vld d t = true → Calls Tryd.prog 35 #[v] w fun o w' => ∃ m : Nat, o = .returned (.int .i64 (m : Int)) ∧ Szd (enc d t).length d m ∧ Gr w w'
  | 0, h, _, _, _, _, _, h1, h2 => size_step h (fun e he => by omega) h1 h2
  | d + 1, h, _, _, _, _, _, h1, h2 => size_step h (fun e he => by
      obtain rfl : e = d := by omega
      exact size_v e (by omega)) h1 h2

set_option linter.unusedSimpArgs false in
set_option maxRecDepth 100000 in
set_option maxHeartbeats 16000000 in
theorem Encode_bad {k : Nat} {F : Nat → Prop} {v : Value} {t : It} {w : World} (hI : ItV w k F v t) (hv : vld 8 t = false) :
    Calls Tryd.prog 12 #[v] w fun e w' => e = .returned (.tuple #[.slice none 0 0, .int .i64 1]) ∧ Gr w w' := by
  have hI0 := hI
  obtain ⟨k0, rfl⟩ : ∃ k0, k = k0 + 1 := by cases k with
    | zero => exact hI.elim
    | succ k0 => exact ⟨k0, rfl⟩
  obtain ⟨pb, cb, pl, cl, hv, hk1, hn1, hpb, hcb, hbl, hll, hB, hL⟩ := hI; subst hv
  obtain ⟨tk, htk⟩ : ∃ z, t.k = z := ⟨_, rfl⟩; obtain ⟨tn, htn⟩ : ∃ z, t.n = z := ⟨_, rfl⟩; obtain ⟨bl, hbl2⟩ : ∃ z, t.b.length = z := ⟨_, rfl⟩; obtain ⟨ll, hll2⟩ : ∃ z, t.l.length = z := ⟨_, rfl⟩
  rw [htk] at hk1; rw [htn] at hn1; rw [hbl2] at hcb hbl; rw [hll2] at hll; have HTK := Lib.hid htk; have HTN := Lib.hid htn; have HBL := Lib.hid hbl2; have HLL := Lib.hid hll2; have HBB := Lib.hid hB; have HLS := Lib.hid hL; have HPB := Lib.hid hpb; have HI1 := Lib.hid hk1; have HI2 := Lib.hid hn1; rw [htk, htn, hbl2, hll2]; clear htk htn hbl2 hll2 hB hL hpb hk1 hn1
  have hI1 : ItV w (k0 + 1) F (.agg #[.int .i64 tk, .int .i64 tn, .slice pb bl cb, .slice pl ll cl]) t := by rw [HTK.out, HTN.out, HBL.out, HLL.out] at hI0; exact hI0
  have HI := Lib.hid hI1; clear hI0 hI1
  have HV := Lib.hid hv; clear hv
  have H := Ow.start w
  go_enter Tryd.func12, Tryd.ntmps12
  go_upto_region 0 with fail
  refine Kr.seqStartW ?_
  refine Kr.seqR (by rfl) (fun K hK => ?_)
  refine wp_runV rfl boxI ?_
  obtain ⟨y1, hy⟩ : ∃ y, w.alloc (.cells ([.int .i64 tk, .int .i64 tn, .slice pb bl cb, .slice pl ll cl]).toArray 25) = y := ⟨_, rfl⟩
  obtain ⟨ba, hb⟩ : ∃ b, w.heap.size = b := ⟨_, rfl⟩
  rw [hy, hb]
  have hg : Gr w y1 := hy ▸ (Gr.refl _).alloc _
  replace H := H.alloc hy hb
  clear hy hb hg
  (refine Kr.outS hK (a' := ?_) ?_ ?_; rotate_left; (focus ((try simp only [Kr.PT]); first | done | rfl))); clear hK K
  (refine Kr.seqQ (v := ?_) (a' := ?_) (by rfl) ?_ ?_ ?_; rotate_left 2; (focus (go_simp; first | done | rfl)); (focus ((try simp only [Kr.PT]); first | done | rfl)))
  (refine Kr.seqQ (v := ?_) (a' := ?_) (by rfl) ?_ ?_ ?_; rotate_left 2; (focus (go_simp; first | done | rfl)); (focus ((try simp only [Kr.PT]); first | done | rfl)))
  refine Kr.seqDoneW ?_
  go_upto_region 1 with fail
  refine Kr.seqStartW ?_
  (refine Kr.seqQ (v := .agg #[.int .i64 tk, .int .i64 tn, .slice pb bl cb, .slice pl ll cl]) (a' := ?_) (by rfl) ?_ ?_ ?_; rotate_left 1; (focus (exact Kr.valOf rfl (ldI (H.at 0 rfl)))); (focus ((try simp only [Kr.PT]); first | done | rfl)))
  refine Kr.seqR (by rfl) (fun K hK => ?_)
  go_simp
  go_at_call 14
  have hP := Valid_v (w := y1) (HI.out.grow H.g); rw [HV.out] at hP
  refine (hP).mono ?_
  rintro e y2 ⟨rfl, hg⟩
  replace H := H.grow hg
  clear hg
  clear hP
  (refine Kr.outS hK (a' := ?_) ?_ ?_; rotate_left; (focus ((try simp only [Kr.PT]); first | done | rfl))); clear hK K
  (refine Kr.seqQ (v := ?_) (a' := ?_) (by rfl) ?_ ?_ ?_; rotate_left 2; (focus (go_simp; first | done | rfl)); (focus ((try simp only [Kr.PT]); first | done | rfl)))
  (refine Kr.seqQ (v := ?_) (a' := ?_) (by rfl) ?_ ?_ ?_; rotate_left 2; (focus (go_simp; first | done | rfl)); (focus ((try simp only [Kr.PT]); first | done | rfl)))
  refine Kr.seqDoneW ?_
  go_upto_region 2 with fail
  refine Kr.seqStartW ?_
  (refine Kr.seqQ (v := ?_) (a' := ?_) (by rfl) ?_ ?_ ?_; rotate_left 2; (focus (go_simp; first | done | rfl)); (focus ((try simp only [Kr.PT]); first | done | rfl)))
  (refine Kr.seqQ (v := ?_) (a' := ?_) (by rfl) ?_ ?_ ?_; rotate_left 2; (focus (go_simp; first | done | rfl)); (focus ((try simp only [Kr.PT]); first | done | rfl)))
  refine Kr.seqDoneW ?_
  have hk := trivial
  go_wp2
  refine bodyPost_ret (v := .tuple #[.slice none 0 0, .int .i64 1]) (by simp [results, Tryd.results12, go_sem, hk]) rfl ⟨rfl, H.g⟩
set_option linter.unusedSimpArgs false in
set_option maxRecDepth 100000 in
set_option maxHeartbeats 16000000 in
theorem Encode_big {k : Nat} {F : Nat → Prop} {v : Value} {t : It} {w : World} (hI : ItV w k F v t) (hv : vld 8 t = true) (hL16 : 16384 < (enc 8 t).length) :
    Calls Tryd.prog 12 #[v] w fun e w' => e = .returned (.tuple #[.slice none 0 0, .int .i64 5]) ∧ Gr w w' := by
  have hI0 := hI
  obtain ⟨k0, rfl⟩ : ∃ k0, k = k0 + 1 := by cases k with
    | zero => exact hI.elim
    | succ k0 => exact ⟨k0, rfl⟩
  obtain ⟨pb, cb, pl, cl, hv, hk1, hn1, hpb, hcb, hbl, hll, hB, hL⟩ := hI; subst hv
  obtain ⟨tk, htk⟩ : ∃ z, t.k = z := ⟨_, rfl⟩; obtain ⟨tn, htn⟩ : ∃ z, t.n = z := ⟨_, rfl⟩; obtain ⟨bl, hbl2⟩ : ∃ z, t.b.length = z := ⟨_, rfl⟩; obtain ⟨ll, hll2⟩ : ∃ z, t.l.length = z := ⟨_, rfl⟩
  rw [htk] at hk1; rw [htn] at hn1; rw [hbl2] at hcb hbl; rw [hll2] at hll; have HTK := Lib.hid htk; have HTN := Lib.hid htn; have HBL := Lib.hid hbl2; have HLL := Lib.hid hll2; have HBB := Lib.hid hB; have HLS := Lib.hid hL; have HPB := Lib.hid hpb; have HI1 := Lib.hid hk1; have HI2 := Lib.hid hn1; rw [htk, htn, hbl2, hll2]; clear htk htn hbl2 hll2 hB hL hpb hk1 hn1
  have hI1 : ItV w (k0 + 1) F (.agg #[.int .i64 tk, .int .i64 tn, .slice pb bl cb, .slice pl ll cl]) t := by rw [HTK.out, HTN.out, HBL.out, HLL.out] at hI0; exact hI0
  have HI := Lib.hid hI1; clear hI0 hI1
  have HV := Lib.hid hv; clear hv
  obtain ⟨L, hLn⟩ : ∃ z, (enc 8 t).length = z := ⟨_, rfl⟩; rw [hLn] at hL16; have HLN := Lib.hid hLn; clear hLn
  have H := Ow.start w
  go_enter Tryd.func12, Tryd.ntmps12
  go_upto_region 0 with fail
  refine Kr.seqStartW ?_
  refine Kr.seqR (by rfl) (fun K hK => ?_)
  refine wp_runV rfl boxI ?_
  obtain ⟨y1, hy⟩ : ∃ y, w.alloc (.cells ([.int .i64 tk, .int .i64 tn, .slice pb bl cb, .slice pl ll cl]).toArray 25) = y := ⟨_, rfl⟩
  obtain ⟨ba, hb⟩ : ∃ b, w.heap.size = b := ⟨_, rfl⟩
  rw [hy, hb]
  have hg : Gr w y1 := hy ▸ (Gr.refl _).alloc _
  replace H := H.alloc hy hb
  clear hy hb hg
  (refine Kr.outS hK (a' := ?_) ?_ ?_; rotate_left; (focus ((try simp only [Kr.PT]); first | done | rfl))); clear hK K
  (refine Kr.seqQ (v := ?_) (a' := ?_) (by rfl) ?_ ?_ ?_; rotate_left 2; (focus (go_simp; first | done | rfl)); (focus ((try simp only [Kr.PT]); first | done | rfl)))
  (refine Kr.seqQ (v := ?_) (a' := ?_) (by rfl) ?_ ?_ ?_; rotate_left 2; (focus (go_simp; first | done | rfl)); (focus ((try simp only [Kr.PT]); first | done | rfl)))
  refine Kr.seqDoneW ?_
  go_upto_region 1 with fail
  refine Kr.seqStartW ?_
  (refine Kr.seqQ (v := .agg #[.int .i64 tk, .int .i64 tn, .slice pb bl cb, .slice pl ll cl]) (a' := ?_) (by rfl) ?_ ?_ ?_; rotate_left 1; (focus (exact Kr.valOf rfl (ldI (H.at 0 rfl)))); (focus ((try simp only [Kr.PT]); first | done | rfl)))
  refine Kr.seqR (by rfl) (fun K hK => ?_)
  go_simp
  go_at_call 14
  have hP := Valid_v (w := y1) (HI.out.grow H.g); rw [HV.out] at hP
  refine (hP).mono ?_
  rintro e y2 ⟨rfl, hg⟩
  replace H := H.grow hg
  clear hg
  clear hP
  (refine Kr.outS hK (a' := ?_) ?_ ?_; rotate_left; (focus ((try simp only [Kr.PT]); first | done | rfl))); clear hK K
  (refine Kr.seqQ (v := ?_) (a' := ?_) (by rfl) ?_ ?_ ?_; rotate_left 2; (focus (go_simp; first | done | rfl)); (focus ((try simp only [Kr.PT]); first | done | rfl)))
  (refine Kr.seqQ (v := ?_) (a' := ?_) (by rfl) ?_ ?_ ?_; rotate_left 2; (focus (go_simp; first | done | rfl)); (focus ((try simp only [Kr.PT]); first | done | rfl)))
  refine Kr.seqDoneW ?_
  go_upto_region 3 with fail
  refine Kr.seqStartW ?_
  (refine Kr.seqQ (v := .agg #[.int .i64 tk, .int .i64 tn, .slice pb bl cb, .slice pl ll cl]) (a' := ?_) (by rfl) ?_ ?_ ?_; rotate_left 1; (focus (exact Kr.valOf rfl (ldI (H.at 0 rfl)))); (focus ((try simp only [Kr.PT]); first | done | rfl)))
  refine Kr.seqR (by rfl) (fun K hK => ?_)
  go_simp
  go_at_call 35
  refine (size_v 8 (Nat.le_refl _) (w := y2) (HI.out.grow H.g) HV.out).mono ?_
  rintro e y3 ⟨m, rfl, hm, hg⟩
  replace H := H.grow hg
  rw [HLN.out] at hm; clear hg
  have hm2 := hm.2.1 hL16; clear hm
  have C1 : decide ((16384 : Int) < (m : Int)) = true := decide_eq_true (by omega)
  clear hm2
  (refine Kr.outS hK (a' := ?_) ?_ ?_; rotate_left; (focus ((try simp only [Kr.PT]); first | done | rfl))); clear hK K
  (refine Kr.seqQ (v := .bool true) (a' := ?_) (by rfl) ?_ ?_ ?_; rotate_left 1; (focus (exact Kr.valOf rfl (gtrI C1))); (focus ((try simp only [Kr.PT]); first | done | rfl)))
  (refine Kr.seqQ (v := ?_) (a' := ?_) (by rfl) ?_ ?_ ?_; rotate_left 2; (focus (go_simp; first | done | rfl)); (focus ((try simp only [Kr.PT]); first | done | rfl)))
  refine Kr.seqDoneW ?_
  go_upto_region 4 with fail
  refine Kr.seqStartW ?_
  (refine Kr.seqQ (v := ?_) (a' := ?_) (by rfl) ?_ ?_ ?_; rotate_left 2; (focus (go_simp; first | done | rfl)); (focus ((try simp only [Kr.PT]); first | done | rfl)))
  (refine Kr.seqQ (v := ?_) (a' := ?_) (by rfl) ?_ ?_ ?_; rotate_left 2; (focus (go_simp; first | done | rfl)); (focus ((try simp only [Kr.PT]); first | done | rfl)))
  refine Kr.seqDoneW ?_
  have hk := trivial
  go_wp2
  refine bodyPost_ret (v := .tuple #[.slice none 0 0, .int .i64 5]) (by simp [results, Tryd.results12, go_sem, hk]) rfl ⟨rfl, H.g⟩
set_option linter.unusedSimpArgs false in
set_option maxRecDepth 100000 in
set_option maxHeartbeats 16000000 in
theorem Encode_ok {k : Nat} {F : Nat → Prop} {v : Value} {t : It} {w : World} (hI : ItV w k F v t) (hv : vld 8 t = true) (hL16 : (enc 8 t).length ≤ 16384) :
    Calls Tryd.prog 12 #[v] w fun e w' => ∃ p c, e = .returned (.tuple #[.slice p (enc 8 t).length c, .int .i64 0]) ∧ RowG 5 w.heap.size (.slice p (enc 8 t).length c) ((enc 8 t).map w8) w' ∧ Gr w w' := by
  have hI0 := hI
  obtain ⟨k0, rfl⟩ : ∃ k0, k = k0 + 1 := by cases k with
    | zero => exact hI.elim
    | succ k0 => exact ⟨k0, rfl⟩
  obtain ⟨pb, cb, pl, cl, hv, hk1, hn1, hpb, hcb, hbl, hll, hB, hL⟩ := hI; subst hv
  obtain ⟨tk, htk⟩ : ∃ z, t.k = z := ⟨_, rfl⟩; obtain ⟨tn, htn⟩ : ∃ z, t.n = z := ⟨_, rfl⟩; obtain ⟨bl, hbl2⟩ : ∃ z, t.b.length = z := ⟨_, rfl⟩; obtain ⟨ll, hll2⟩ : ∃ z, t.l.length = z := ⟨_, rfl⟩
  rw [htk] at hk1; rw [htn] at hn1; rw [hbl2] at hcb hbl; rw [hll2] at hll; have HTK := Lib.hid htk; have HTN := Lib.hid htn; have HBL := Lib.hid hbl2; have HLL := Lib.hid hll2; have HBB := Lib.hid hB; have HLS := Lib.hid hL; have HPB := Lib.hid hpb; have HI1 := Lib.hid hk1; have HI2 := Lib.hid hn1; rw [htk, htn, hbl2, hll2]; clear htk htn hbl2 hll2 hB hL hpb hk1 hn1
  have hI1 : ItV w (k0 + 1) F (.agg #[.int .i64 tk, .int .i64 tn, .slice pb bl cb, .slice pl ll cl]) t := by rw [HTK.out, HTN.out, HBL.out, HLL.out] at hI0; exact hI0
  have HI := Lib.hid hI1; clear hI0 hI1
  have HV := Lib.hid hv; clear hv
  obtain ⟨L, hLn⟩ : ∃ z, (enc 8 t).length = z := ⟨_, rfl⟩; rw [hLn] at hL16 ⊢; have HLN := Lib.hid hLn; clear hLn
  have H := Ow.start w
  go_enter Tryd.func12, Tryd.ntmps12
  go_upto_region 0 with fail
  refine Kr.seqStartW ?_
  refine Kr.seqR (by rfl) (fun K hK => ?_)
  refine wp_runV rfl boxI ?_
  obtain ⟨y1, hy⟩ : ∃ y, w.alloc (.cells ([.int .i64 tk, .int .i64 tn, .slice pb bl cb, .slice pl ll cl]).toArray 25) = y := ⟨_, rfl⟩
  obtain ⟨ba, hb⟩ : ∃ b, w.heap.size = b := ⟨_, rfl⟩
  rw [hy, hb]
  have hg : Gr w y1 := hy ▸ (Gr.refl _).alloc _
  replace H := H.alloc hy hb
  clear hy hb hg
  (refine Kr.outS hK (a' := ?_) ?_ ?_; rotate_left; (focus ((try simp only [Kr.PT]); first | done | rfl))); clear hK K
  (refine Kr.seqQ (v := ?_) (a' := ?_) (by rfl) ?_ ?_ ?_; rotate_left 2; (focus (go_simp; first | done | rfl)); (focus ((try simp only [Kr.PT]); first | done | rfl)))
  (refine Kr.seqQ (v := ?_) (a' := ?_) (by rfl) ?_ ?_ ?_; rotate_left 2; (focus (go_simp; first | done | rfl)); (focus ((try simp only [Kr.PT]); first | done | rfl)))
  refine Kr.seqDoneW ?_
  go_upto_region 1 with fail
  refine Kr.seqStartW ?_
  (refine Kr.seqQ (v := .agg #[.int .i64 tk, .int .i64 tn, .slice pb bl cb, .slice pl ll cl]) (a' := ?_) (by rfl) ?_ ?_ ?_; rotate_left 1; (focus (exact Kr.valOf rfl (ldI (H.at 0 rfl)))); (focus ((try simp only [Kr.PT]); first | done | rfl)))
  refine Kr.seqR (by rfl) (fun K hK => ?_)
  go_simp
  go_at_call 14
  have hP := Valid_v (w := y1) (HI.out.grow H.g); rw [HV.out] at hP
  refine (hP).mono ?_
  rintro e y2 ⟨rfl, hg⟩
  replace H := H.grow hg
  clear hg
  clear hP
  (refine Kr.outS hK (a' := ?_) ?_ ?_; rotate_left; (focus ((try simp only [Kr.PT]); first | done | rfl))); clear hK K
  (refine Kr.seqQ (v := ?_) (a' := ?_) (by rfl) ?_ ?_ ?_; rotate_left 2; (focus (go_simp; first | done | rfl)); (focus ((try simp only [Kr.PT]); first | done | rfl)))
  (refine Kr.seqQ (v := ?_) (a' := ?_) (by rfl) ?_ ?_ ?_; rotate_left 2; (focus (go_simp; first | done | rfl)); (focus ((try simp only [Kr.PT]); first | done | rfl)))
  refine Kr.seqDoneW ?_
  go_upto_region 3 with fail
  refine Kr.seqStartW ?_
  (refine Kr.seqQ (v := .agg #[.int .i64 tk, .int .i64 tn, .slice pb bl cb, .slice pl ll cl]) (a' := ?_) (by rfl) ?_ ?_ ?_; rotate_left 1; (focus (exact Kr.valOf rfl (ldI (H.at 0 rfl)))); (focus ((try simp only [Kr.PT]); first | done | rfl)))
  refine Kr.seqR (by rfl) (fun K hK => ?_)
  go_simp
  go_at_call 35
  refine (size_v 8 (Nat.le_refl _) (w := y2) (HI.out.grow H.g) HV.out).mono ?_
  rintro e y3 ⟨m, rfl, hm, hg⟩
  replace H := H.grow hg
  rw [HLN.out] at hm; clear hg
  have hm2 := hm.1 hL16; clear hm
  have C1 : decide ((16384 : Int) < (m : Int)) = false := decide_eq_false (by omega)
  clear hm2
  (refine Kr.outS hK (a' := ?_) ?_ ?_; rotate_left; (focus ((try simp only [Kr.PT]); first | done | rfl))); clear hK K
  (refine Kr.seqQ (v := .bool false) (a' := ?_) (by rfl) ?_ ?_ ?_; rotate_left 1; (focus (exact Kr.valOf rfl (gtrI C1))); (focus ((try simp only [Kr.PT]); first | done | rfl)))
  (refine Kr.seqQ (v := ?_) (a' := ?_) (by rfl) ?_ ?_ ?_; rotate_left 2; (focus (go_simp; first | done | rfl)); (focus ((try simp only [Kr.PT]); first | done | rfl)))
  refine Kr.seqDoneW ?_
  go_upto_region 5 with fail
  refine Kr.seqStartW ?_
  (refine Kr.seqQ (v := .agg #[.int .i64 tk, .int .i64 tn, .slice pb bl cb, .slice pl ll cl]) (a' := ?_) (by rfl) ?_ ?_ ?_; rotate_left 1; (focus (exact Kr.valOf rfl (ldI (H.at 0 rfl)))); (focus ((try simp only [Kr.PT]); first | done | rfl)))
  refine Kr.seqR (by rfl) (fun K hK => ?_)
  go_simp
  go_at_call 36
  refine (write_v 8 (Ow.start y3) (RowG.nil 5 _ _) (Apt.none _) (HI.out.grow H.g) HV.out (by rw [HLN.out]; show 0 + L ≤ _; omega)).mono ?_
  rintro e y4 ⟨v2, rfl, hR, hA, hO⟩
  rw [List.nil_append] at hR; obtain ⟨p, c, hsl⟩ := slice_of hR; rw [List.length_map, HLN.out] at hsl; subst hsl
  have HR := Lib.hid (rowG_low H.g.le hR); have hg := hO.g; clear hR hA hO
  replace H := H.grow hg
  clear hg
  (refine Kr.outS hK (a' := ?_) ?_ ?_; rotate_left; (focus ((try simp only [Kr.PT]); first | done | rfl))); clear hK K
  (refine Kr.seqQ (v := ?_) (a' := ?_) (by rfl) ?_ ?_ ?_; rotate_left 2; (focus (go_simp; first | done | rfl)); (focus ((try simp only [Kr.PT]); first | done | rfl)))
  (refine Kr.seqQ (v := ?_) (a' := ?_) (by rfl) ?_ ?_ ?_; rotate_left 2; (focus (go_simp; first | done | rfl)); (focus ((try simp only [Kr.PT]); first | done | rfl)))
  refine Kr.seqDoneW ?_
  have hk := trivial
  go_wp2
  refine bodyPost_ret (v := .tuple #[.slice p L c, .int .i64 0]) (by simp [results, Tryd.results12, go_sem, hk]) rfl ⟨p, c, rfl, HR.out, H.g⟩
end Go.Proofs.YtcngcdfngifjnaaDoor.Dg


/- Texts. -/
namespace Go.Proofs
open Go.Shelf
shelf_lay LaysM.n176 Nm 176 at Tryd as Tryd.laysAI
end Go.Proofs
namespace Go.Proofs.YtcngcdfngifjnaaDoor.Dg
open Go Go.RowKit Go.Proofs.YtcngcdfngifjnaaDoor.Ne Go.Proofs.YtcngcdfngifjnaaDoor.Kr
/-- The table that AppendInt reads. -/
def Tab (w : World) : Prop := Lib.TabIs Tryd.prog w "internal/strconv.uint64pow10" .u64 Lib.pow10Tab
theorem Tab.grow {w W : World} (h : Tab w) (g : Gr w W) : Tab W := Lib.tabBelow_of_tabIs h W g
def itB (n : Int) : List (BitVec 8) := (Lib.itoa n).map UInt8.toBitVec
theorem itB_cells (n : Int) : (itB n).map w8 = Lib.byteCells (Lib.itoa n) := by
  simp [itB, Lib.byteCells, w8]
theorem apt_types {T : TypeId} {B : Nat} {v : Value} {xs : List Value} {W w0 : World} {rs : List Blk} (h : RowG T B v xs W) (H : Ow w0 W rs) (hrs : ∀ x ∈ rs, x.2.1 ≠ T) : Apt v rs := fun k hk x hx e => by
  rcases h.2 with ⟨h1, _⟩ | ⟨g, cap, cur, h1, _, h3, _⟩
  · rw [h1] at hk; cases hk
  · rw [h1] at hk
    have e1 : g = k := by simpa [Value.ownBlock] using hk
    have h5 := H.r x hx
    rw [e, ← e1, h3] at h5
    injection h5 with h5
    injection h5 with _ h5 _
    exact hrs x hx h5.symm
theorem appendInt_v {w0 w : World} {rs : List Blk} {v : Value} {r : List Value} {n : Int} (H : Ow w0 w rs) (HR : RowG 5 w0.heap.size v r w) (hrs : ∀ x ∈ rs, x.2.1 ≠ 5) (hT : Tab w0) (hn : InR n) (hb : r.length ≤ 99999900) :
    Calls Tryd.prog 52 #[v, .int .i64 n, .int .i64 10] w fun e w' => ∃ v2, e = .returned v2 ∧ RowG 5 w0.heap.size v2 (r ++ (itB n).map w8) w' ∧ Apt v2 rs ∧ Ow w0 w' rs := by
  have h := Any.strconv_AppendInt_10 Tryd.laysAI w0.heap.size r.length n hn.1 (by have := hn.2; omega) v r w HR H.g.size (by omega) (fun w' hb => Lib.tabBelow_of_tabIs hT w' (Below.trans H.g hb))
  refine h.mono ?_
  rintro e w' ⟨v2, rfl, h1, h2, h3⟩
  have H' : Ow w0 w' rs := ⟨Below.trans H.g h2, fun x hx => h3 _ _ (H.r x hx) (fun e => by cases e) (fun c fz e => hrs x hx (by injection e)), H.low, H.ne⟩
  have HR' : RowG 5 w0.heap.size v2 (r ++ (itB n).map w8) w' := by
    show w'.ownsRow _ _ _ _ (r ++ (itB n).map w8).length (r ++ (itB n).map w8)
    rw [itB_cells, List.length_append, Lib.byteCells_length]
    exact h1
  exact ⟨v2, rfl, HR', apt_types HR' H' hrs, H'⟩
/-- Items, separated by blanks. -/
def jn (f : It → List (BitVec 8)) (l : List It) : Nat → List (BitVec 8)
  | 0 => []
  | j + 1 => jn f l j ++ ((if j = 0 then [] else [32#8]) ++ (match l[j]? with | some x => f x | none => []))
def txtL (t : It) : List (BitVec 8) := if t.k = 1 then itB t.n else 120 :: hexL t.b
/-- The string of a valid item. -/
def txt : Nat → It → List (BitVec 8)
  | 0, t => txtL t
  | d + 1, t => if t.k = 3 then 40 :: (jn (txt d) t.l t.l.length ++ [41]) else txtL t
theorem txt1 {t : It} (h : t.k = 1) : ∀ d, txt d t = itB t.n
  | 0 => by simp [txt, txtL, h]
  | d + 1 => by simp [txt, txtL, h]
theorem txt2 {t : It} (h : t.k = 2) : ∀ d, txt d t = 120 :: hexL t.b
  | 0 => by simp [txt, txtL, h]
  | d + 1 => by simp [txt, txtL, h]
theorem txt3 {t : It} (h : t.k = 3) (d : Nat) : txt (d + 1) t = 40 :: (jn (txt d) t.l t.l.length ++ [41]) := by simp [txt, h]
theorem jn_succ {f : It → List (BitVec 8)} {l : List It} {j : Nat} {x : It} (h : l[j]? = some x) : jn f l (j + 1) = jn f l j ++ ((if j = 0 then [] else [32#8]) ++ f x) := by
  rw [jn, h]
theorem jn_le (f : It → List (BitVec 8)) (l : List It) (m : Nat) : ∀ i, (jn f l m).length ≤ (jn f l (m + i)).length
  | 0 => Nat.le_refl _
  | i + 1 => by
    refine Nat.le_trans (jn_le f l m i) ?_
    rw [show m + (i + 1) = (m + i) + 1 by omega, jn, List.length_append]
    exact Nat.le_add_right _ _
theorem hexL_take {l : List (BitVec 8)} {i : Nat} {x : BitVec 8} (h : l[i]? = some x) : hexL (l.take (i + 1)) = hexL (l.take i) ++ two x := by
  rw [List.take_add_one, h]; exact hexL_snoc _ _

end Go.Proofs.YtcngcdfngifjnaaDoor.Dg


/- writeText, Text. -/
namespace Go.Proofs.YtcngcdfngifjnaaDoor.Dg
open Go Go.RowKit Go.Proofs.YtcngcdfngifjnaaDoor.Ne Go.Proofs.YtcngcdfngifjnaaDoor.Kr

set_option linter.unusedSimpArgs false in
set_option maxRecDepth 100000 in
set_option maxHeartbeats 16000000 in
theorem wtext_step {d : Nat} (ih : ∀ e, e + 1 = d → ∀ {w0 w : World} {rs : List Blk} {v : Value} {r : List Value} {k : Nat} {F : Nat → Prop} {val : Value} {t : It} (_ : Ow w0 w rs) (_ : RowG 5 w0.heap.size v r w) (_ : Apt v rs) (_ : ∀ x ∈ rs, x.2.1 ≠ 5) (_ : Tab w0) (_ : ItV w0 k F val t) (_ : vld e t = true) (_ : r.length + (txt e t).length ≤ 99999900), Calls Tryd.prog 43 #[v, val] w fun o w' => ∃ v2, o = .returned v2 ∧ RowG 5 w0.heap.size v2 (r ++ (txt e t).map w8) w' ∧ Apt v2 rs ∧ Ow w0 w' rs)
    {w0 w : World} {rs : List Blk} {v : Value} {r : List Value} {k : Nat} {F : Nat → Prop} {val : Value} {t : It} (H : Ow w0 w rs) (HR : RowG 5 w0.heap.size v r w) (HA : Apt v rs) (hrs : ∀ x ∈ rs, x.2.1 ≠ 5) (hT : Tab w0) (hI : ItV w0 k F val t) (hv : vld d t = true) (hb : r.length + (txt d t).length ≤ 99999900) :
    Calls Tryd.prog 43 #[v, val] w fun e w' => ∃ v2, e = .returned v2 ∧ RowG 5 w0.heap.size v2 (r ++ (txt d t).map w8) w' ∧ Apt v2 rs ∧ Ow w0 w' rs := by
  obtain ⟨k0, rfl⟩ : ∃ k0, k = k0 + 1 := by cases k with
    | zero => exact hI.elim
    | succ k0 => exact ⟨k0, rfl⟩
  obtain ⟨pb, cb, pl, cl, hv, hk1, hn1, hpb, hcb, hbl, hll, hB, hL⟩ := hI; subst hv
  obtain ⟨tk, htk⟩ : ∃ z, t.k = z := ⟨_, rfl⟩; obtain ⟨tn, htn⟩ : ∃ z, t.n = z := ⟨_, rfl⟩; obtain ⟨bl, hbl2⟩ : ∃ z, t.b.length = z := ⟨_, rfl⟩; obtain ⟨ll, hll2⟩ : ∃ z, t.l.length = z := ⟨_, rfl⟩
  rw [htk] at hk1; rw [htn] at hn1; rw [hbl2] at hcb hbl; rw [hll2] at hll; have HTK := Lib.hid htk; have HTN := Lib.hid htn; have HBL := Lib.hid hbl2; have HLL := Lib.hid hll2; have HBB := Lib.hid hB; have HLS := Lib.hid hL; have HPB := Lib.hid hpb; have HI1 := Lib.hid hk1; have HI2 := Lib.hid hn1; rw [htk, htn, hbl2, hll2]; clear htk htn hbl2 hll2 hB hL hpb hk1 hn1
  replace HR := Lib.hid HR; have HVC := Lib.hid (vld_cases hv); have HTAB := Lib.hid hT; clear hT
  obtain ⟨E, hE⟩ : ∃ z, txt d t = z := ⟨_, rfl⟩; rw [hE] at hb ⊢; have HE := Lib.hid hE; clear hE hv
  have hrs2 : ∀ T (b : Nat) (l : List Value), T ≠ 5 → ∀ x ∈ (b, T, l) :: rs, x.2.1 ≠ 5 := fun T b l hT x hx => by
    rcases List.mem_cons.1 hx with rfl | hx
    · exact hT
    · exact hrs x hx
  have HRS := Lib.hid hrs2; have HRS0 := Lib.hid hrs; clear hrs2 hrs
  go_enter Tryd.func43, Tryd.ntmps43
  go_upto_region 0 with fail
  refine Kr.seqStartW ?_
  refine Kr.seqR (by rfl) (fun K hK => ?_)
  refine wp_runV rfl boxI ?_
  obtain ⟨y1, hy⟩ : ∃ y, w.alloc (.cells ([.int .i64 tk, .int .i64 tn, .slice pb bl cb, .slice pl ll cl]).toArray 25) = y := ⟨_, rfl⟩
  obtain ⟨ba, hb⟩ : ∃ b, w.heap.size = b := ⟨_, rfl⟩
  rw [hy, hb]
  replace HA := apt_new (T2 := 25) (l := [.int .i64 tk, .int .i64 tn, .slice pb bl cb, .slice pl ll cl]) HR.out HA hb
  have hg : Gr w y1 := hy ▸ (Gr.refl _).alloc _
  replace H := H.alloc hy hb
  replace HR := Lib.hid (HR.out.grow hg)
  clear hy hb hg
  (refine Kr.outS hK (a' := ?_) ?_ ?_; rotate_left; (focus ((try simp only [Kr.PT]); first | done | rfl))); clear hK K
  (refine Kr.seqQ (v := ?_) (a' := ?_) (by rfl) ?_ ?_ ?_; rotate_left 2; (focus (go_simp; first | done | rfl)); (focus ((try simp only [Kr.PT]); first | done | rfl)))
  refine Kr.seqDoneW ?_
  go_upto_region 1 with fail
  refine Kr.seqStartW ?_
  (refine Kr.seqQ (v := .pointer (some ⟨ba, 0, none⟩)) (a' := ?_) (by rfl) ?_ ?_ ?_; rotate_left 1; (focus (go_simp; first | done | rfl)); (focus ((try simp only [Kr.PT]); first | done | rfl)))
  (refine Kr.seqQ (v := .int .i64 tk) (a' := ?_) (by rfl) ?_ ?_ ?_; rotate_left 1; (focus (exact Kr.valOf rfl (ldInt (rowCell (j := 0) (H.at 0 rfl) rfl)))); (focus ((try simp only [Kr.PT]); first | done | rfl)))
  refine Kr.seqDoneW ?_
  by_cases k1 : tk = 1
  · have C1 : decide (tk = 1) = true := decide_eq_true (by exact k1)
    have hEE : E = itB tn := by rw [← HE.out, txt1 (HTK.out.trans k1) d, HTN.out]
    subst hEE; clear k1
    go_upto_region 2 with fail
    refine Kr.seqStartW ?_
    (refine Kr.seqQ (v := .bool true) (a' := ?_) (by rfl) ?_ ?_ ?_; rotate_left 1; (focus (exact Kr.valOf rfl (eqlI C1))); (focus ((try simp only [Kr.PT]); first | done | rfl)))
    (refine Kr.seqQ (v := ?_) (a' := ?_) (by rfl) ?_ ?_ ?_; rotate_left 2; (focus (go_simp; first | done | rfl)); (focus ((try simp only [Kr.PT]); first | done | rfl)))
    refine Kr.seqDoneW ?_
    go_upto_region 3 with fail
    refine Kr.seqStartW ?_
    (refine Kr.seqQ (v := ?_) (a' := ?_) (by rfl) ?_ ?_ ?_; rotate_left 2; (focus (go_simp; first | done | rfl)); (focus ((try simp only [Kr.PT]); first | done | rfl)))
    (refine Kr.seqQ (v := .pointer (some ⟨ba, 1, none⟩)) (a' := ?_) (by rfl) ?_ ?_ ?_; rotate_left 1; (focus (go_simp; first | done | rfl)); (focus ((try simp only [Kr.PT]); first | done | rfl)))
    (refine Kr.seqQ (v := .int .i64 tn) (a' := ?_) (by rfl) ?_ ?_ ?_; rotate_left 1; (focus (exact Kr.valOf rfl (ldInt (rowCell (j := 1) (H.at 0 rfl) rfl)))); (focus ((try simp only [Kr.PT]); first | done | rfl)))
    refine Kr.seqR (by rfl) (fun K hK => ?_)
    go_simp
    go_at_call 52
    refine (appendInt_v H HR.out (HRS.out _ _ _ (by decide)) HTAB.out HI2.out (by omega)).mono ?_
    rintro e y2 ⟨q3, rfl, hR3, hA3, H3⟩
    clear H HR HA; have H := H3; have HR := Lib.hid hR3; have HA := hA3; clear H3 hR3 hA3
    (refine Kr.outS hK (a' := ?_) ?_ ?_; rotate_left; (focus ((try simp only [Kr.PT]); first | done | rfl))); clear hK K
    (refine Kr.seqQ (v := ?_) (a' := ?_) (by rfl) ?_ ?_ ?_; rotate_left 2; (focus (go_simp; first | done | rfl)); (focus ((try simp only [Kr.PT]); first | done | rfl)))
    refine Kr.seqDoneW ?_
    replace HA := apt_tail HA; replace H := H.drop 1; dsimp only [List.drop] at H
    have hk := trivial
    go_wp2
    refine bodyPost_ret (v := q3) (by simp [results, Tryd.results43, go_sem, hk]) rfl ⟨_, rfl, HR.out, HA, H⟩
  by_cases k2 : tk = 2
  · have C1 : decide (tk = 1) = false := decide_eq_false (by exact k1)
    have C2 : decide (tk = 2) = true := decide_eq_true (by exact k2)
    have hEE : E = 120#8 :: hexL t.b := by rw [← HE.out, txt2 (HTK.out.trans k2) d]; rfl
    subst hEE; clear k1 k2; rw [List.length_cons, hexL_length, HBL.out] at hb
    go_upto_region 2 with fail
    refine Kr.seqStartW ?_
    (refine Kr.seqQ (v := .bool false) (a' := ?_) (by rfl) ?_ ?_ ?_; rotate_left 1; (focus (exact Kr.valOf rfl (eqlI C1))); (focus ((try simp only [Kr.PT]); first | done | rfl)))
    (refine Kr.seqQ (v := ?_) (a' := ?_) (by rfl) ?_ ?_ ?_; rotate_left 2; (focus (go_simp; first | done | rfl)); (focus ((try simp only [Kr.PT]); first | done | rfl)))
    refine Kr.seqDoneW ?_
    go_upto_region 4 with fail
    refine Kr.seqStartW ?_
    (refine Kr.seqQ (v := .bool true) (a' := ?_) (by rfl) ?_ ?_ ?_; rotate_left 1; (focus (exact Kr.valOf rfl (eqlI C2))); (focus ((try simp only [Kr.PT]); first | done | rfl)))
    (refine Kr.seqQ (v := ?_) (a' := ?_) (by rfl) ?_ ?_ ?_; rotate_left 2; (focus (go_simp; first | done | rfl)); (focus ((try simp only [Kr.PT]); first | done | rfl)))
    refine Kr.seqDoneW ?_
    go_upto_region 5 with fail
    refine Kr.seqStartW ?_
    (refine Kr.seqQ (v := ?_) (a' := ?_) (by rfl) ?_ ?_ ?_; rotate_left 2; (focus (go_simp; first | done | rfl)); (focus ((try simp only [Kr.PT]); first | done | rfl)))
    refine Kr.seqR (by rfl) (fun K hK => ?_)
    go_simp
    obtain ⟨y4, hy⟩ : ∃ y, y1.alloc (.cells #[.int .u8 120] 5) = y := ⟨_, rfl⟩
    obtain ⟨bone, hbn⟩ : ∃ b, y1.heap.size = b := ⟨_, rfl⟩
    rw [hy, hbn]
    have hy2 : y1.alloc (.cells ([.int .u8 120] : List Value).toArray 5) = y4 := hy
    have hg : Gr y1 y4 := hy ▸ (Gr.refl _).alloc _
    have HLIT := Lib.hid (hbn ▸ hy2 ▸ lit_src (W := y1) (T := 5) [.int .u8 120]); clear hy2
    replace H := H.grow hg
    replace HR := Lib.hid (HR.out.grow hg)
    clear hg hy hbn
    (refine Kr.outS hK (a' := ?_) ?_ ?_; rotate_left; (focus ((try simp only [Kr.PT]); first | done | rfl))); clear hK K
    refine Kr.seqR (by rfl) (fun K hK => ?_)
    refine wp_appG (T := 5) (TS := 22) Tryd.underlying22 info8 rfl (.tmp 19) (.tmp 20) rfl (v := v) (r := r) (d := [w8 120#8]) (p := (some ⟨bone, 0, none⟩)) (m := 1) (c := 1) (rs := ((ba, 25, [.int .i64 tk, .int .i64 tn, .slice pb bl cb, .slice pl ll cl]) :: rs)) rfl rfl (rfl) (HLIT.out) (one_lit8 [120#8]) (fun e => by cases e) H HR.out HA (by omega) (by decide) ?_
    intro q6 y5 H3 hR3 hA3
    clear H HR HA HLIT; have H := H3; have HR := Lib.hid hR3; have HA := hA3; clear H3 hR3 hA3
    (refine Kr.outS hK (a' := ?_) ?_ ?_; rotate_left; (focus ((try simp only [Kr.PT]); first | done | rfl))); clear hK K
    (refine Kr.seqQ (v := ?_) (a' := ?_) (by rfl) ?_ ?_ ?_; rotate_left 2; (focus (go_simp; first | done | rfl)); (focus ((try simp only [Kr.PT]); first | done | rfl)))
    refine Kr.seqDoneW ?_
    go_upto_region 6 with fail
    refine Kr.seqStartW ?_
    (refine Kr.seqQ (v := .pointer (some ⟨ba, 2, none⟩)) (a' := ?_) (by rfl) ?_ ?_ ?_; rotate_left 1; (focus (go_simp; first | done | rfl)); (focus ((try simp only [Kr.PT]); first | done | rfl)))
    (refine Kr.seqQ (v := .slice pb bl cb) (a' := ?_) (by rfl) ?_ ?_ ?_; rotate_left 1; (focus (exact Kr.valOf rfl (ldSl (rowCell (j := 2) (H.at 0 rfl) rfl)))); (focus ((try simp only [Kr.PT]); first | done | rfl)))
    (refine Kr.seqQ (v := .int .i64 (bl : Int)) (a' := ?_) (by rfl) ?_ ?_ ?_; rotate_left 1; (focus (exact Kr.valOf rfl ((by go_simp)))); (focus ((try simp only [Kr.PT]); first | done | rfl)))
    (refine Kr.seqQ (v := ?_) (a' := ?_) (by rfl) ?_ ?_ ?_; rotate_left 2; (focus (go_simp; first | done | rfl)); (focus ((try simp only [Kr.PT]); first | done | rfl)))
    refine Kr.seqDoneW ?_
    have h0 : r ++ [w8 120#8] = r ++ [w8 120#8] ++ (hexL (t.b.take 0)).map w8 := by rw [List.take_zero]; exact (List.append_nil _).symm
    rw [h0] at HR; clear h0 C1 C2
    have H2 := Lib.hid H; clear H
    go_wp2_with fail
    go_loopw [0, 25] (fun v iv wr => ∃ (j : Nat), j ≤ bl ∧ iv = .int .i64 (j : Int) ∧ Hid (RowG 5 w0.heap.size v (r ++ [w8 120#8] ++ (hexL (t.b.take j)).map w8) wr) ∧ Hid (Apt v ((ba, 25, [.int .i64 tk, .int .i64 tn, .slice pb bl cb, .slice pl ll cl]) :: rs)) ∧ Hid (Ow w0 wr ((ba, 25, [.int .i64 tk, .int .i64 tn, .slice pb bl cb, .slice pl ll cl]) :: rs))) (fun _ iv _ => (bl - (intOf iv).toNat))
    case atStart => exact ⟨0, by omega, rfl, HR, Lib.hid HA, H2⟩
    case round =>
      clear H2 HR HA; obtain ⟨j, hj, rfl, HR, HA, HH⟩ := hrel; have H := HH.out; replace HA := HA.out; clear HH
      by_cases hje : j = bl
      · have C4 : decide ((j : Int) < (bl : Int)) = false := decide_eq_false (by omega)
        rw [show t.b.take j = t.b from List.take_of_length_le (by rw [HBL.out]; omega)] at HR; clear hje
        go_upto_region 7 with fail
        refine Kr.seqStartW ?_
        (refine Kr.seqQ (v := .bool false) (a' := ?_) (by rfl) ?_ ?_ ?_; rotate_left 1; (focus (exact Kr.valOf rfl (lssT C4))); (focus ((try simp only [Kr.PT]); first | done | rfl)))
        refine Kr.seqDoneW ?_
        replace HA := apt_tail HA; replace H := H.drop 1; dsimp only [List.drop] at H
        have HR2 := Lib.hid (show RowG 5 w0.heap.size u0 (r ++ (120#8 :: hexL t.b).map w8) wr by have := HR.out; rwa [List.append_assoc] at this); clear HR
        go_upto_region 11 with fail
        refine Kr.seqStartW ?_
        (refine Kr.seqQ (v := ?_) (a' := ?_) (by rfl) ?_ ?_ ?_; rotate_left 2; (focus (go_simp; first | done | rfl)); (focus ((try simp only [Kr.PT]); first | done | rfl)))
        (refine Kr.seqQ (v := ?_) (a' := ?_) (by rfl) ?_ ?_ ?_; rotate_left 2; (focus (go_simp; first | done | rfl)); (focus ((try simp only [Kr.PT]); first | done | rfl)))
        refine Kr.seqDoneW ?_
        have hk := trivial
        go_wp2
        refine bodyPost_ret (v := u0) (by simp [results, Tryd.results43, go_sem, hk]) rfl ⟨_, rfl, HR2.out, HA, H⟩
      · have hjl : j < bl := by omega
        have C4 : decide ((j : Int) < (bl : Int)) = true := decide_eq_true (by omega)
        obtain ⟨x0, hx0⟩ : ∃ x, t.b[j]? = some x := ⟨_, List.getElem?_eq_getElem (by rw [HBL.out]; exact hjl)⟩
        obtain ⟨b, off, hpb, hbytes⟩ := src_some (src_item HBB.out) (by rw [HBL.out]; omega); subst hpb; have HC0 := Lib.hid (hbytes j x0 hx0); clear hbytes
        obtain ⟨q0, hq0⟩ : ∃ q, x0.toNat / 16 = q := ⟨_, rfl⟩
        obtain ⟨q1, hq1⟩ : ∃ q, x0.toNat % 16 = q := ⟨_, rfl⟩
        have hq0l : q0 < 16 := by have := x0.isLt; omega
        have hq1l : q1 < 16 := by omega
        obtain ⟨d0, hd0⟩ : ∃ d, dig q0 = d := ⟨_, rfl⟩
        obtain ⟨d1, hd1⟩ : ∃ d, dig q1 = d := ⟨_, rfl⟩
        have HTK2 : Hid (r ++ [w8 120#8] ++ (hexL (t.b.take (j + 1))).map w8 = (r ++ [w8 120#8] ++ (hexL (t.b.take j)).map w8) ++ [d0, d1].map w8) := Lib.hid (by rw [hexL_take hx0, two, hq0, hq1, hd0, hd1, List.map_append, List.append_assoc (r ++ [w8 120#8])])
        have hrl : (r ++ [w8 120#8] ++ (hexL (t.b.take j)).map w8).length = r.length + 1 + 2 * j := by rw [List.length_append, List.length_append, List.length_map, hexL_length, List.length_take, HBL.out, Nat.min_eq_left (by omega)]; rfl
        clear hx0 hje
        go_upto_region 7 with fail
        refine Kr.seqStartW ?_
        (refine Kr.seqQ (v := .bool true) (a' := ?_) (by rfl) ?_ ?_ ?_; rotate_left 1; (focus (exact Kr.valOf rfl (lssT C4))); (focus ((try simp only [Kr.PT]); first | done | rfl)))
        refine Kr.seqDoneW ?_
        go_upto_region 8 with fail
        refine Kr.seqStartW ?_
        (refine Kr.seqQ (v := .pointer (some ⟨b, off + j, none⟩)) (a' := ?_) (by rfl) ?_ ?_ ?_; rotate_left 1; (focus (exact Kr.valOf rfl (ixB hjl))); (focus ((try simp only [Kr.PT]); first | done | rfl)))
        (refine Kr.seqQ (v := .int .u8 ((x0).toNat : Int)) (a' := ?_) (by rfl) ?_ ?_ ?_; rotate_left 1; (focus (exact Kr.valOf rfl (ldE8 (H.g.cell HC0.out)))); (focus ((try simp only [Kr.PT]); first | done | rfl)))
        (refine Kr.seqQ (v := ?_) (a' := ?_) (by rfl) ?_ ?_ ?_; rotate_left 2; (focus (go_simp; first | done | rfl)); (focus ((try simp only [Kr.PT]); first | done | rfl)))
        refine Kr.seqDoneW ?_
        go_upto_region 9 with fail
        refine Kr.startL (fun W' => True) [] (by kernel_rfl) ?_
        have gd : Gr wr wr.drew := (Gr.refl _).drew
        generalize wr.drew = d7 at gd ⊢
        replace H := H.grow gd
        replace HR := Lib.hid (HR.out.grow gd)
        clear gd
        (refine Kr.tPQ 0 (v := ?_) (a' := ?_) rfl (by kernel_rfl) (fun _ _ _ h => h) (by rfl) (fun _ => trivial) (fun wx => ?_) ?_ ?_; rotate_left 2; (focus (go_simp; first | done | rfl)); (focus ((try simp only [Kr.PT]); first | done | rfl)))
        (refine Kr.tPQ 1 (v := ?_) (a' := ?_) rfl (by kernel_rfl) (fun _ _ _ h => h) (by rfl) (fun _ => trivial) (fun wx => ?_) ?_ ?_; rotate_left 2; (focus (go_simp; first | done | rfl)); (focus ((try simp only [Kr.PT]); first | done | rfl)))
        (refine Kr.tPQ 2 (v := .int .u8 (q0 : Int)) (a' := ?_) rfl (by kernel_rfl) (fun _ _ _ h => h) (by rfl) (fun _ => trivial) (fun wx => ?_) ?_ ?_; rotate_left 1; (focus (exact Kr.valOf rfl (shr4B hq0))); (focus ((try simp only [Kr.PT]); first | done | rfl)))
        (refine Kr.tPQ 3 (v := .int .u8 ((d0).toNat : Int)) (a' := ?_) rfl (by kernel_rfl) (fun _ _ _ h => h) (by rfl) (fun _ => trivial) (fun wx => ?_) ?_ ?_; rotate_left 1; (focus (exact Kr.valOf rfl ((by rw [← hd0]; exact atHex q0 hq0l _)))); (focus ((try simp only [Kr.PT]); first | done | rfl)))
        (refine Kr.tPQ 4 (v := ?_) (a' := ?_) rfl (by kernel_rfl) (fun _ _ _ h => h) (by rfl) (fun _ => trivial) (fun wx => ?_) ?_ ?_; rotate_left 2; (focus (go_simp; first | done | rfl)); (focus ((try simp only [Kr.PT]); first | done | rfl)))
        (refine Kr.tPQ 5 (v := .int .u8 (q1 : Int)) (a' := ?_) rfl (by kernel_rfl) (fun _ _ _ h => h) (by rfl) (fun _ => trivial) (fun wx => ?_) ?_ ?_; rotate_left 1; (focus (exact Kr.valOf rfl (and15B hq1))); (focus ((try simp only [Kr.PT]); first | done | rfl)))
        (refine Kr.tPQ 6 (v := .int .u8 ((d1).toNat : Int)) (a' := ?_) rfl (by kernel_rfl) (fun _ _ _ h => h) (by rfl) (fun _ => trivial) (fun wx => ?_) ?_ ?_; rotate_left 1; (focus (exact Kr.valOf rfl ((by rw [← hd1]; exact atHex q1 hq1l _)))); (focus ((try simp only [Kr.PT]); first | done | rfl)))
        refine Kr.readyL (rs := [7]) (by kernel_rfl) (by simp) ?_
        refine Kr.AllL.cons rfl (fun K hK => ?_) Kr.AllL.nil
        go_simp
        obtain ⟨y8, hy⟩ : ∃ y, d7.alloc (.cells #[.int .u8 ((d0).toNat : Int), .int .u8 ((d1).toNat : Int)] 5) = y := ⟨_, rfl⟩
        obtain ⟨bone, hbn⟩ : ∃ b, d7.heap.size = b := ⟨_, rfl⟩
        rw [hy, hbn]
        have hy2 : d7.alloc (.cells ([.int .u8 ((d0).toNat : Int), .int .u8 ((d1).toNat : Int)] : List Value).toArray 5) = y8 := hy
        have hg : Gr d7 y8 := hy ▸ (Gr.refl _).alloc _
        have HLIT := Lib.hid (hbn ▸ hy2 ▸ lit_src (W := d7) (T := 5) [.int .u8 ((d0).toNat : Int), .int .u8 ((d1).toNat : Int)]); clear hy2
        replace H := H.grow hg
        replace HR := Lib.hid (HR.out.grow hg)
        clear hg hy hbn
        (refine Kr.outL hK (a' := ?_) ?_ (fun _ => trivial) ?_; rotate_left; (focus ((try simp only [Kr.PT]); first | done | rfl))); clear hK K
        refine Kr.readyL (rs := [8]) (by kernel_rfl) (by simp) ?_
        refine Kr.AllL.cons rfl (fun K hK => ?_) Kr.AllL.nil
        rw [if_pos (by rfl)]
        refine wp_appG (T := 5) (TS := 22) Tryd.underlying22 info8 rfl (.tmp 29) (.tmp 36) rfl (v := u0) (r := (r ++ [w8 120#8] ++ (hexL (t.b.take j)).map w8)) (d := ([d0, d1].map w8)) (p := (some ⟨bone, 0, none⟩)) (m := 2) (c := 2) (rs := ((ba, 25, [.int .i64 tk, .int .i64 tn, .slice (some ⟨b, off, none⟩) bl cb, .slice pl ll cl]) :: rs)) rfl rfl (rfl) (HLIT.out) (one_lit8 [d0, d1]) (fun e => by cases e) H HR.out HA (by rw [hrl]; omega) (by decide) ?_
        intro q10 y9 H3 hR3 hA3
        clear H HR HA HLIT; have H := H3; have HR := Lib.hid hR3; have HA := hA3; clear H3 hR3 hA3
        (refine Kr.outL hK (a' := ?_) ?_ (fun _ => trivial) ?_; rotate_left; (focus ((try simp only [Kr.PT]); first | done | rfl))); clear hK K
        (refine Kr.tPQ 9 (v := ?_) (a' := ?_) rfl (by kernel_rfl) (fun _ _ _ h => h) (by rfl) (fun _ => trivial) (fun wx => ?_) ?_ ?_; rotate_left 2; (focus (go_simp; first | done | rfl)); (focus ((try simp only [Kr.PT]); first | done | rfl)))
        refine Kr.doneL (by kernel_rfl) ?_ _
        rw [← HTK2.out] at HR
        have HADD : IntKind.i64.wrap ((j : Int) + 1) = ((j + 1 : Nat) : Int) := wrap_nat (by omega) (by omega)
        go_upto_region 10 with fail
        refine Kr.seqStartW ?_
        (refine Kr.seqQ (v := .int .i64 ((j + 1 : Nat) : Int)) (a' := ?_) (by rfl) ?_ ?_ ?_; rotate_left 1; (focus (exact Kr.valOf rfl (addI HADD))); (focus ((try simp only [Kr.PT]); first | done | rfl)))
        (refine Kr.seqQ (v := ?_) (a' := ?_) (by rfl) ?_ ?_ ?_; rotate_left 2; (focus (go_simp; first | done | rfl)); (focus ((try simp only [Kr.PT]); first | done | rfl)))
        refine Kr.seqDoneW ?_
        go_wp2; go_roundw
        case rel =>
          first
          | exact ⟨j + 1, by omega, rfl, HR, Lib.hid HA, Lib.hid H⟩
          | (repeat apply Exists.intro); exact ⟨⟨j + 1, by omega, rfl, HR, Lib.hid HA, Lib.hid H⟩, rfl⟩
          | (repeat apply Exists.intro); refine ⟨⟨j + 1, by omega, rfl, HR, Lib.hid HA, Lib.hid H⟩, ?_⟩; refine ⟨?_, ?_⟩ <;> (repeat apply And.intro) <;> rfl
        case measure => simp [intOf]; omega
  have hk3 : t.k = 3 ∧ ∃ e, d = e + 1 ∧ t.l.length ≤ 1000 ∧ ∀ x ∈ t.l, vld e x = true := by
    rcases HVC.out with h | h | h
    · exact absurd (HTK.out.symm.trans h) k1
    · exact absurd (HTK.out.symm.trans h) k2
    · exact h
  obtain ⟨hk3, d, rfl, hl1000, hal⟩ := hk3; rw [HLL.out] at hl1000; have HAL := Lib.hid hal; clear hal
  have C1 : decide (tk = 1) = false := decide_eq_false (by exact k1)
  have C2 : decide (tk = 2) = false := decide_eq_false (by exact k2)
  have hEE : E = 40#8 :: (jn (txt d) t.l ll ++ [41#8]) := by rw [← HE.out, txt3 hk3 d, HLL.out]; rfl
  subst hEE; clear k1 k2 hk3; rw [List.length_cons, List.length_append] at hb; have hb1 : ([41#8] : List (BitVec 8)).length = 1 := rfl; rw [hb1] at hb; clear hb1
  go_upto_region 2 with fail
  refine Kr.seqStartW ?_
  (refine Kr.seqQ (v := .bool false) (a' := ?_) (by rfl) ?_ ?_ ?_; rotate_left 1; (focus (exact Kr.valOf rfl (eqlI C1))); (focus ((try simp only [Kr.PT]); first | done | rfl)))
  (refine Kr.seqQ (v := ?_) (a' := ?_) (by rfl) ?_ ?_ ?_; rotate_left 2; (focus (go_simp; first | done | rfl)); (focus ((try simp only [Kr.PT]); first | done | rfl)))
  refine Kr.seqDoneW ?_
  go_upto_region 4 with fail
  refine Kr.seqStartW ?_
  (refine Kr.seqQ (v := .bool false) (a' := ?_) (by rfl) ?_ ?_ ?_; rotate_left 1; (focus (exact Kr.valOf rfl (eqlI C2))); (focus ((try simp only [Kr.PT]); first | done | rfl)))
  (refine Kr.seqQ (v := ?_) (a' := ?_) (by rfl) ?_ ?_ ?_; rotate_left 2; (focus (go_simp; first | done | rfl)); (focus ((try simp only [Kr.PT]); first | done | rfl)))
  refine Kr.seqDoneW ?_
  go_upto_region 12 with fail
  refine Kr.seqStartW ?_
  (refine Kr.seqQ (v := ?_) (a' := ?_) (by rfl) ?_ ?_ ?_; rotate_left 2; (focus (go_simp; first | done | rfl)); (focus ((try simp only [Kr.PT]); first | done | rfl)))
  refine Kr.seqR (by rfl) (fun K hK => ?_)
  go_simp
  obtain ⟨y11, hy⟩ : ∃ y, y1.alloc (.cells #[.int .u8 40] 5) = y := ⟨_, rfl⟩
  obtain ⟨bone, hbn⟩ : ∃ b, y1.heap.size = b := ⟨_, rfl⟩
  rw [hy, hbn]
  have hy2 : y1.alloc (.cells ([.int .u8 40] : List Value).toArray 5) = y11 := hy
  have hg : Gr y1 y11 := hy ▸ (Gr.refl _).alloc _
  have HLIT := Lib.hid (hbn ▸ hy2 ▸ lit_src (W := y1) (T := 5) [.int .u8 40]); clear hy2
  replace H := H.grow hg
  replace HR := Lib.hid (HR.out.grow hg)
  clear hg hy hbn
  (refine Kr.outS hK (a' := ?_) ?_ ?_; rotate_left; (focus ((try simp only [Kr.PT]); first | done | rfl))); clear hK K
  refine Kr.seqR (by rfl) (fun K hK => ?_)
  refine wp_appG (T := 5) (TS := 22) Tryd.underlying22 info8 rfl (.tmp 40) (.tmp 41) rfl (v := v) (r := r) (d := [w8 40#8]) (p := (some ⟨bone, 0, none⟩)) (m := 1) (c := 1) (rs := ((ba, 25, [.int .i64 tk, .int .i64 tn, .slice pb bl cb, .slice pl ll cl]) :: rs)) rfl rfl (rfl) (HLIT.out) (one_lit8 [40#8]) (fun e => by cases e) H HR.out HA (by omega) (by decide) ?_
  intro q13 y12 H3 hR3 hA3
  clear H HR HA HLIT; have H := H3; have HR := Lib.hid hR3; have HA := hA3; clear H3 hR3 hA3
  (refine Kr.outS hK (a' := ?_) ?_ ?_; rotate_left; (focus ((try simp only [Kr.PT]); first | done | rfl))); clear hK K
  (refine Kr.seqQ (v := ?_) (a' := ?_) (by rfl) ?_ ?_ ?_; rotate_left 2; (focus (go_simp; first | done | rfl)); (focus ((try simp only [Kr.PT]); first | done | rfl)))
  refine Kr.seqDoneW ?_
  go_upto_region 13 with fail
  refine Kr.seqStartW ?_
  (refine Kr.seqQ (v := .pointer (some ⟨ba, 3, none⟩)) (a' := ?_) (by rfl) ?_ ?_ ?_; rotate_left 1; (focus (go_simp; first | done | rfl)); (focus ((try simp only [Kr.PT]); first | done | rfl)))
  (refine Kr.seqQ (v := .slice pl ll cl) (a' := ?_) (by rfl) ?_ ?_ ?_; rotate_left 1; (focus (exact Kr.valOf rfl (ldLs (rowCell (j := 3) (H.at 0 rfl) rfl)))); (focus ((try simp only [Kr.PT]); first | done | rfl)))
  (refine Kr.seqQ (v := .int .i64 (ll : Int)) (a' := ?_) (by rfl) ?_ ?_ ?_; rotate_left 1; (focus (exact Kr.valOf rfl ((by go_simp)))); (focus ((try simp only [Kr.PT]); first | done | rfl)))
  (refine Kr.seqQ (v := ?_) (a' := ?_) (by rfl) ?_ ?_ ?_; rotate_left 2; (focus (go_simp; first | done | rfl)); (focus ((try simp only [Kr.PT]); first | done | rfl)))
  refine Kr.seqDoneW ?_
  obtain ⟨P, hP⟩ : ∃ z, r ++ [w8 40#8] = z := ⟨_, rfl⟩; have hPl : P.length = r.length + 1 := by rw [← hP]; simp
  rw [hP] at HR; have HPP := Lib.hid hP; clear hP C1 C2
  have H2 := Lib.hid H; clear H
  go_wp2_with fail
  go_loopw [0, 46] (fun v iv wr => ∃ (j : Nat), j ≤ ll ∧ iv = .int .i64 (j : Int) ∧ Hid (RowG 5 w0.heap.size v (P ++ (jn (txt d) t.l j).map w8) wr) ∧ Hid (Apt v ((ba, 25, [.int .i64 tk, .int .i64 tn, .slice pb bl cb, .slice pl ll cl]) :: rs)) ∧ Hid (Ow w0 wr ((ba, 25, [.int .i64 tk, .int .i64 tn, .slice pb bl cb, .slice pl ll cl]) :: rs))) (fun _ iv _ => (ll - (intOf iv).toNat))
  case atStart => exact ⟨0, by omega, rfl, by rw [show (jn (txt d) t.l 0).map w8 = [] from rfl, List.append_nil]; exact HR, Lib.hid HA, H2⟩
  case round =>
    clear H2 HR HA; obtain ⟨j, hj, rfl, HR, HA, HH⟩ := hrel; have H := HH.out; replace HA := HA.out; clear HH
    by_cases hje : j = ll
    · have C4 : decide ((j : Int) < (ll : Int)) = false := decide_eq_false (by omega)
      rw [hje] at HR; clear hje
      go_upto_region 14 with fail
      refine Kr.seqStartW ?_
      (refine Kr.seqQ (v := .bool false) (a' := ?_) (by rfl) ?_ ?_ ?_; rotate_left 1; (focus (exact Kr.valOf rfl (lssT C4))); (focus ((try simp only [Kr.PT]); first | done | rfl)))
      refine Kr.seqDoneW ?_
      go_upto_region 20 with fail
      refine Kr.seqStartW ?_
      (refine Kr.seqQ (v := ?_) (a' := ?_) (by rfl) ?_ ?_ ?_; rotate_left 2; (focus (go_simp; first | done | rfl)); (focus ((try simp only [Kr.PT]); first | done | rfl)))
      refine Kr.seqR (by rfl) (fun K hK => ?_)
      go_simp
      obtain ⟨y14, hy⟩ : ∃ y, wr.alloc (.cells #[.int .u8 41] 5) = y := ⟨_, rfl⟩
      obtain ⟨bone, hbn⟩ : ∃ b, wr.heap.size = b := ⟨_, rfl⟩
      rw [hy, hbn]
      have hy2 : wr.alloc (.cells ([.int .u8 41] : List Value).toArray 5) = y14 := hy
      have hg : Gr wr y14 := hy ▸ (Gr.refl _).alloc _
      have HLIT := Lib.hid (hbn ▸ hy2 ▸ lit_src (W := wr) (T := 5) [.int .u8 41]); clear hy2
      replace H := H.grow hg
      replace HR := Lib.hid (HR.out.grow hg)
      clear hg hy hbn
      (refine Kr.outS hK (a' := ?_) ?_ ?_; rotate_left; (focus ((try simp only [Kr.PT]); first | done | rfl))); clear hK K
      refine Kr.seqR (by rfl) (fun K hK => ?_)
      refine wp_appG (T := 5) (TS := 22) Tryd.underlying22 info8 rfl (.tmp 60) (.tmp 61) rfl (v := u0) (r := (P ++ (jn (txt d) t.l ll).map w8)) (d := [w8 41#8]) (p := (some ⟨bone, 0, none⟩)) (m := 1) (c := 1) (rs := ((ba, 25, [.int .i64 tk, .int .i64 tn, .slice pb bl cb, .slice pl ll cl]) :: rs)) rfl rfl (rfl) (HLIT.out) (one_lit8 [41#8]) (fun e => by cases e) H HR.out HA (by rw [List.length_append, List.length_map, hPl]; omega) (by decide) ?_
      intro q16 y15 H3 hR3 hA3
      clear H HR HA HLIT; have H := H3; have HR := Lib.hid hR3; have HA := hA3; clear H3 hR3 hA3
      (refine Kr.outS hK (a' := ?_) ?_ ?_; rotate_left; (focus ((try simp only [Kr.PT]); first | done | rfl))); clear hK K
      (refine Kr.seqQ (v := ?_) (a' := ?_) (by rfl) ?_ ?_ ?_; rotate_left 2; (focus (go_simp; first | done | rfl)); (focus ((try simp only [Kr.PT]); first | done | rfl)))
      refine Kr.seqDoneW ?_
      replace HA := apt_tail HA; replace H := H.drop 1; dsimp only [List.drop] at H
      have HR2 := Lib.hid (show RowG 5 w0.heap.size q16 (r ++ (40#8 :: (jn (txt d) t.l ll ++ [41#8])).map w8) y15 by have := HR.out; rw [← HPP.out] at this; simpa using this); clear HR
      have hk := trivial
      go_wp2
      refine bodyPost_ret (v := q16) (by simp [results, Tryd.results43, go_sem, hk]) rfl ⟨_, rfl, HR2.out, HA, H⟩
    · have hjl : j < ll := by omega
      have C4 : decide ((j : Int) < (ll : Int)) = true := decide_eq_true (by omega)
      clear hje
      obtain ⟨x, hx⟩ : ∃ x, t.l[j]? = some x := ⟨_, List.getElem?_eq_getElem (by rw [HLL.out]; exact hjl)⟩
      obtain ⟨b, off, v0, v1, v2, v3, hpl, hFb, c0, c1, c2, c3, hch⟩ := HLS.out j x hx
      subst hpl
      have HC0 := Lib.hid c0; have HC1 := Lib.hid c1; have HC2 := Lib.hid c2; have HC3 := Lib.hid c3; have HCH := Lib.hid hch; have HX := Lib.hid hx; clear c0 c1 c2 c3 hch hx hFb
      have HON : Hid (∀ v ∈ ([v0, v1, v2, v3] : List Value), v.oneCell' = true) := Lib.hid (ItV.one HCH.out)
      have HFS := Lib.hid (jn_succ (f := txt d) HX.out); have hfl1 := jn_le (txt d) t.l (j + 1) (ll - (j + 1)); rw [show j + 1 + (ll - (j + 1)) = ll by omega, HFS.out, List.length_append, List.length_append] at hfl1
      have HVX := Lib.hid (HAL.out x (List.mem_of_getElem? HX.out))
      go_upto_region 14 with fail
      refine Kr.seqStartW ?_
      (refine Kr.seqQ (v := .bool true) (a' := ?_) (by rfl) ?_ ?_ ?_; rotate_left 1; (focus (exact Kr.valOf rfl (lssT C4))); (focus ((try simp only [Kr.PT]); first | done | rfl)))
      refine Kr.seqDoneW ?_
      go_upto_region 15 with fail
      refine Kr.seqStartW ?_
      (refine Kr.seqQ (v := ?_) (a' := ?_) (by rfl) ?_ ?_ ?_; rotate_left 2; (focus (go_simp; first | done | rfl)); (focus ((try simp only [Kr.PT]); first | done | rfl)))
      (refine Kr.seqQ (v := .pointer (some ⟨b, off + j * 4, none⟩)) (a' := ?_) (by rfl) ?_ ?_ ?_; rotate_left 1; (focus (exact Kr.valOf rfl (ixI hjl))); (focus ((try simp only [Kr.PT]); first | done | rfl)))
      (refine Kr.seqQ (v := .agg #[v0, v1, v2, v3]) (a' := ?_) (by rfl) ?_ ?_ ?_; rotate_left 1; (focus (exact Kr.valOf rfl (ldItem (H.g.cell HC0.out) (H.g.cell HC1.out) (H.g.cell HC2.out) (H.g.cell HC3.out)))); (focus ((try simp only [Kr.PT]); first | done | rfl)))
      refine Kr.seqR (by rfl) (fun K hK => ?_)
      refine wp_runV rfl newI ?_
      obtain ⟨y17, hy⟩ : ∃ y, wr.alloc (.cells ([.int .i64 0, .int .i64 0, .slice none 0 0, .slice none 0 0]).toArray 25) = y := ⟨_, rfl⟩
      obtain ⟨bx, hb⟩ : ∃ b, wr.heap.size = b := ⟨_, rfl⟩
      rw [hy, hb]
      replace HA := apt_new (T2 := 25) (l := [.int .i64 0, .int .i64 0, .slice none 0 0, .slice none 0 0]) HR.out HA hb
      have hg : Gr wr y17 := hy ▸ (Gr.refl _).alloc _
      replace H := H.alloc hy hb
      replace HR := Lib.hid (HR.out.grow hg)
      clear hy hb hg
      (refine Kr.outS hK (a' := ?_) ?_ ?_; rotate_left; (focus ((try simp only [Kr.PT]); first | done | rfl))); clear hK K
      (refine Kr.seqQ (v := ?_) (a' := ?_) (by rfl) ?_ ?_ ?_; rotate_left 2; (focus (go_simp; first | done | rfl)); (focus ((try simp only [Kr.PT]); first | done | rfl)))
      refine Kr.seqR (by rfl) (fun K hK => ?_)
      refine wp_run rfl (stI (H.at 0 rfl) HON.out) ?_
      have hRp := rowG_putA (cs := ([v0, v1, v2, v3] : List Value).toArray) HR.out HA 0 rfl; replace HA := apt_set (l2 := [v0, v1, v2, v3]) HA 0 rfl; dsimp only [List.set] at HA
      obtain ⟨y18, hy⟩ : ∃ y, y17.setRow bx ([v0, v1, v2, v3] : List Value).toArray = y := ⟨_, rfl⟩; rw [hy]; rw [hy] at hRp; replace HR := Lib.hid hRp; clear hRp
      replace H := H.put 0 hy rfl; dsimp only [List.set] at H; clear hy
      (refine Kr.outS hK (a' := ?_) ?_ ?_; rotate_left; (focus ((try simp only [Kr.PT]); first | done | rfl))); clear hK K
      refine Kr.seqDoneW ?_
      by_cases hj0 : j = 0
      · have C5 : decide ((0 : Int) < (j : Int)) = false := decide_eq_false (by omega)
        have HIF : Hid ((if j = 0 then [] else [32#8]) = ([] : List (BitVec 8))) := Lib.hid (if_pos hj0); rw [HIF.out] at hfl1; rw [List.length_nil] at hfl1; clear hj0
        go_upto_region 16 with fail
        refine Kr.seqStartW ?_
        (refine Kr.seqQ (v := ?_) (a' := ?_) (by rfl) ?_ ?_ ?_; rotate_left 2; (focus (go_simp; first | done | rfl)); (focus ((try simp only [Kr.PT]); first | done | rfl)))
        (refine Kr.seqQ (v := .bool false) (a' := ?_) (by rfl) ?_ ?_ ?_; rotate_left 1; (focus (exact Kr.valOf rfl (gtrI C5))); (focus ((try simp only [Kr.PT]); first | done | rfl)))
        refine Kr.seqDoneW ?_
        have HRS2 : Hid (∀ y ∈ ((bx, 25, [v0, v1, v2, v3]) :: (ba, 25, [.int .i64 tk, .int .i64 tn, .slice pb bl cb, .slice (some ⟨b, off, none⟩) ll cl]) :: rs), y.2.1 ≠ 5) := Lib.hid (fun y hy => by
          rcases List.mem_cons.1 hy with rfl | hy
          · exact (show 25 ≠ 5 by decide)
          · exact HRS.out _ _ _ (by decide) y hy)
        go_upto_region 18 with fail
        refine Kr.seqStartW ?_
        (refine Kr.seqQ (v := ?_) (a' := ?_) (by rfl) ?_ ?_ ?_; rotate_left 2; (focus (go_simp; first | done | rfl)); (focus ((try simp only [Kr.PT]); first | done | rfl)))
        (refine Kr.seqQ (v := .agg #[v0, v1, v2, v3]) (a' := ?_) (by rfl) ?_ ?_ ?_; rotate_left 1; (focus (exact Kr.valOf rfl (ldI (H.at 0 rfl)))); (focus ((try simp only [Kr.PT]); first | done | rfl)))
        refine Kr.seqR (by rfl) (fun K hK => ?_)
        go_simp
        go_at_call 43
        refine (ih d rfl H HR.out HA (fun y hy => HRS2.out y hy) HTAB.out HCH.out HVX.out (by simp only [List.length_append, List.length_map, List.length_cons, List.length_nil, hPl]; omega)).mono ?_
        rintro e y19 ⟨q20, rfl, hR3, hA3, H3⟩
        clear H HR HA; have H := H3; have HR := Lib.hid hR3; have HA := hA3; clear H3 hR3 hA3
        (refine Kr.outS hK (a' := ?_) ?_ ?_; rotate_left; (focus ((try simp only [Kr.PT]); first | done | rfl))); clear hK K
        (refine Kr.seqQ (v := ?_) (a' := ?_) (by rfl) ?_ ?_ ?_; rotate_left 2; (focus (go_simp; first | done | rfl)); (focus ((try simp only [Kr.PT]); first | done | rfl)))
        refine Kr.seqDoneW ?_
        rw [show P ++ (jn (txt d) t.l j).map w8 ++ (txt d x).map w8 = P ++ (jn (txt d) t.l (j + 1)).map w8 by rw [HFS.out, HIF.out]; simp] at HR
        replace HA := apt_tail HA
        replace H := H.drop 1; dsimp only [List.drop] at H
        have HADD : IntKind.i64.wrap ((j : Int) + 1) = ((j + 1 : Nat) : Int) := wrap_nat (by omega) (by omega)
        go_upto_region 19 with fail
        refine Kr.seqStartW ?_
        (refine Kr.seqQ (v := .int .i64 ((j + 1 : Nat) : Int)) (a' := ?_) (by rfl) ?_ ?_ ?_; rotate_left 1; (focus (exact Kr.valOf rfl (addI HADD))); (focus ((try simp only [Kr.PT]); first | done | rfl)))
        (refine Kr.seqQ (v := ?_) (a' := ?_) (by rfl) ?_ ?_ ?_; rotate_left 2; (focus (go_simp; first | done | rfl)); (focus ((try simp only [Kr.PT]); first | done | rfl)))
        refine Kr.seqDoneW ?_
        go_wp2; go_roundw
        case rel =>
          first
          | exact ⟨j + 1, by omega, rfl, HR, Lib.hid HA, Lib.hid H⟩
          | (repeat apply Exists.intro); exact ⟨⟨j + 1, by omega, rfl, HR, Lib.hid HA, Lib.hid H⟩, rfl⟩
          | (repeat apply Exists.intro); refine ⟨⟨j + 1, by omega, rfl, HR, Lib.hid HA, Lib.hid H⟩, ?_⟩; refine ⟨?_, ?_⟩ <;> (repeat apply And.intro) <;> rfl
        case measure => simp [intOf]; omega
      · have C5 : decide ((0 : Int) < (j : Int)) = true := decide_eq_true (by omega)
        have HIF : Hid ((if j = 0 then [] else [32#8]) = ([32#8] : List (BitVec 8))) := Lib.hid (if_neg hj0); rw [HIF.out] at hfl1; rw [List.length_cons, List.length_nil] at hfl1; clear hj0
        go_upto_region 16 with fail
        refine Kr.seqStartW ?_
        (refine Kr.seqQ (v := ?_) (a' := ?_) (by rfl) ?_ ?_ ?_; rotate_left 2; (focus (go_simp; first | done | rfl)); (focus ((try simp only [Kr.PT]); first | done | rfl)))
        (refine Kr.seqQ (v := .bool true) (a' := ?_) (by rfl) ?_ ?_ ?_; rotate_left 1; (focus (exact Kr.valOf rfl (gtrI C5))); (focus ((try simp only [Kr.PT]); first | done | rfl)))
        refine Kr.seqDoneW ?_
        go_upto_region 17 with fail
        refine Kr.seqStartW ?_
        (refine Kr.seqQ (v := ?_) (a' := ?_) (by rfl) ?_ ?_ ?_; rotate_left 2; (focus (go_simp; first | done | rfl)); (focus ((try simp only [Kr.PT]); first | done | rfl)))
        refine Kr.seqR (by rfl) (fun K hK => ?_)
        go_simp
        obtain ⟨y21, hy⟩ : ∃ y, y18.alloc (.cells #[.int .u8 32] 5) = y := ⟨_, rfl⟩
        obtain ⟨bone, hbn⟩ : ∃ b, y18.heap.size = b := ⟨_, rfl⟩
        rw [hy, hbn]
        have hy2 : y18.alloc (.cells ([.int .u8 32] : List Value).toArray 5) = y21 := hy
        have hg : Gr y18 y21 := hy ▸ (Gr.refl _).alloc _
        have HLIT := Lib.hid (hbn ▸ hy2 ▸ lit_src (W := y18) (T := 5) [.int .u8 32]); clear hy2
        replace H := H.grow hg
        replace HR := Lib.hid (HR.out.grow hg)
        clear hg hy hbn
        (refine Kr.outS hK (a' := ?_) ?_ ?_; rotate_left; (focus ((try simp only [Kr.PT]); first | done | rfl))); clear hK K
        refine Kr.seqR (by rfl) (fun K hK => ?_)
        refine wp_appG (T := 5) (TS := 22) Tryd.underlying22 info8 rfl (.tmp 53) (.tmp 54) rfl (v := u0) (r := (P ++ (jn (txt d) t.l j).map w8)) (d := [w8 32#8]) (p := (some ⟨bone, 0, none⟩)) (m := 1) (c := 1) (rs := ((bx, 25, [v0, v1, v2, v3]) :: (ba, 25, [.int .i64 tk, .int .i64 tn, .slice pb bl cb, .slice (some ⟨b, off, none⟩) ll cl]) :: rs)) rfl rfl (rfl) (HLIT.out) (one_lit8 [32#8]) (fun e => by cases e) H HR.out HA (by rw [List.length_append, List.length_map, hPl]; omega) (by decide) ?_
        intro q23 y22 H3 hR3 hA3
        clear H HR HA HLIT; have H := H3; have HR := Lib.hid hR3; have HA := hA3; clear H3 hR3 hA3
        (refine Kr.outS hK (a' := ?_) ?_ ?_; rotate_left; (focus ((try simp only [Kr.PT]); first | done | rfl))); clear hK K
        (refine Kr.seqQ (v := ?_) (a' := ?_) (by rfl) ?_ ?_ ?_; rotate_left 2; (focus (go_simp; first | done | rfl)); (focus ((try simp only [Kr.PT]); first | done | rfl)))
        refine Kr.seqDoneW ?_
        have HRS2 : Hid (∀ y ∈ ((bx, 25, [v0, v1, v2, v3]) :: (ba, 25, [.int .i64 tk, .int .i64 tn, .slice pb bl cb, .slice (some ⟨b, off, none⟩) ll cl]) :: rs), y.2.1 ≠ 5) := Lib.hid (fun y hy => by
          rcases List.mem_cons.1 hy with rfl | hy
          · exact (show 25 ≠ 5 by decide)
          · exact HRS.out _ _ _ (by decide) y hy)
        go_upto_region 18 with fail
        refine Kr.seqStartW ?_
        (refine Kr.seqQ (v := ?_) (a' := ?_) (by rfl) ?_ ?_ ?_; rotate_left 2; (focus (go_simp; first | done | rfl)); (focus ((try simp only [Kr.PT]); first | done | rfl)))
        (refine Kr.seqQ (v := .agg #[v0, v1, v2, v3]) (a' := ?_) (by rfl) ?_ ?_ ?_; rotate_left 1; (focus (exact Kr.valOf rfl (ldI (H.at 0 rfl)))); (focus ((try simp only [Kr.PT]); first | done | rfl)))
        refine Kr.seqR (by rfl) (fun K hK => ?_)
        go_simp
        go_at_call 43
        refine (ih d rfl H HR.out HA (fun y hy => HRS2.out y hy) HTAB.out HCH.out HVX.out (by simp only [List.length_append, List.length_map, List.length_cons, List.length_nil, hPl]; omega)).mono ?_
        rintro e y24 ⟨q25, rfl, hR3, hA3, H3⟩
        clear H HR HA; have H := H3; have HR := Lib.hid hR3; have HA := hA3; clear H3 hR3 hA3
        (refine Kr.outS hK (a' := ?_) ?_ ?_; rotate_left; (focus ((try simp only [Kr.PT]); first | done | rfl))); clear hK K
        (refine Kr.seqQ (v := ?_) (a' := ?_) (by rfl) ?_ ?_ ?_; rotate_left 2; (focus (go_simp; first | done | rfl)); (focus ((try simp only [Kr.PT]); first | done | rfl)))
        refine Kr.seqDoneW ?_
        rw [show P ++ (jn (txt d) t.l j).map w8 ++ [w8 32#8] ++ (txt d x).map w8 = P ++ (jn (txt d) t.l (j + 1)).map w8 by rw [HFS.out, HIF.out]; simp] at HR
        replace HA := apt_tail HA
        replace H := H.drop 1; dsimp only [List.drop] at H
        have HADD : IntKind.i64.wrap ((j : Int) + 1) = ((j + 1 : Nat) : Int) := wrap_nat (by omega) (by omega)
        go_upto_region 19 with fail
        refine Kr.seqStartW ?_
        (refine Kr.seqQ (v := .int .i64 ((j + 1 : Nat) : Int)) (a' := ?_) (by rfl) ?_ ?_ ?_; rotate_left 1; (focus (exact Kr.valOf rfl (addI HADD))); (focus ((try simp only [Kr.PT]); first | done | rfl)))
        (refine Kr.seqQ (v := ?_) (a' := ?_) (by rfl) ?_ ?_ ?_; rotate_left 2; (focus (go_simp; first | done | rfl)); (focus ((try simp only [Kr.PT]); first | done | rfl)))
        refine Kr.seqDoneW ?_
        go_wp2; go_roundw
        case rel =>
          first
          | exact ⟨j + 1, by omega, rfl, HR, Lib.hid HA, Lib.hid H⟩
          | (repeat apply Exists.intro); exact ⟨⟨j + 1, by omega, rfl, HR, Lib.hid HA, Lib.hid H⟩, rfl⟩
          | (repeat apply Exists.intro); refine ⟨⟨j + 1, by omega, rfl, HR, Lib.hid HA, Lib.hid H⟩, ?_⟩; refine ⟨?_, ?_⟩ <;> (repeat apply And.intro) <;> rfl
        case measure => simp [intOf]; omega
theorem wtext_v : ∀ (d : Nat), ∀ {w0 w : World} {rs : List Blk} {v : Value} {r : List Value} {k : Nat} {F : Nat → Prop} {val : Value} {t : It} (_ : Ow w0 w rs) (_ : RowG 5 w0.heap.size v r w) (_ : Apt v rs) (_ : ∀ x ∈ rs, x.2.1 ≠ 5) (_ : Tab w0) (_ : ItV w0 k F val t) (_ : vld d t = true) (_ : r.length + (txt d t).length ≤ 99999900), Calls Tryd.prog 43 #[v, val] w fun o w' => ∃ v2, o = .returned v2 ∧ RowG 5 w0.heap.size v2 (r ++ (txt d t).map w8) w' ∧ Apt v2 rs ∧ Ow w0 w' rs
  | 0, _, _, _, _, _, _, _, _, _, h1, h2, h3, h4, h5, h6, h7, h8 => wtext_step (fun e he => by omega) h1 h2 h3 h4 h5 h6 h7 h8
  | d + 1, _, _, _, _, _, _, _, _, _, h1, h2, h3, h4, h5, h6, h7, h8 => wtext_step (fun e he => by
      obtain rfl : e = d := by omega
      exact wtext_v e) h1 h2 h3 h4 h5 h6 h7 h8

set_option linter.unusedSimpArgs false in
set_option maxRecDepth 100000 in
set_option maxHeartbeats 16000000 in
theorem Text_bad {k : Nat} {F : Nat → Prop} {v : Value} {t : It} {w : World} (hI : ItV w k F v t) (hv : vld 8 t = false) :
    Calls Tryd.prog 22 #[v] w fun e w' => e = .returned (.tuple #[.string ⟨#[]⟩, .int .i64 1]) ∧ Gr w w' := by
  have hI0 := hI
  obtain ⟨k0, rfl⟩ : ∃ k0, k = k0 + 1 := by cases k with
    | zero => exact hI.elim
    | succ k0 => exact ⟨k0, rfl⟩
  obtain ⟨pb, cb, pl, cl, hv, hk1, hn1, hpb, hcb, hbl, hll, hB, hL⟩ := hI; subst hv
  obtain ⟨tk, htk⟩ : ∃ z, t.k = z := ⟨_, rfl⟩; obtain ⟨tn, htn⟩ : ∃ z, t.n = z := ⟨_, rfl⟩; obtain ⟨bl, hbl2⟩ : ∃ z, t.b.length = z := ⟨_, rfl⟩; obtain ⟨ll, hll2⟩ : ∃ z, t.l.length = z := ⟨_, rfl⟩
  rw [htk] at hk1; rw [htn] at hn1; rw [hbl2] at hcb hbl; rw [hll2] at hll; have HTK := Lib.hid htk; have HTN := Lib.hid htn; have HBL := Lib.hid hbl2; have HLL := Lib.hid hll2; have HBB := Lib.hid hB; have HLS := Lib.hid hL; have HPB := Lib.hid hpb; have HI1 := Lib.hid hk1; have HI2 := Lib.hid hn1; rw [htk, htn, hbl2, hll2]; clear htk htn hbl2 hll2 hB hL hpb hk1 hn1
  have hI1 : ItV w (k0 + 1) F (.agg #[.int .i64 tk, .int .i64 tn, .slice pb bl cb, .slice pl ll cl]) t := by rw [HTK.out, HTN.out, HBL.out, HLL.out] at hI0; exact hI0
  have HI := Lib.hid hI1; clear hI0 hI1; have HV := Lib.hid hv; clear hv
  have H := Ow.start w
  go_enter Tryd.func22, Tryd.ntmps22
  go_upto_region 0 with fail
  refine Kr.seqStartW ?_
  refine Kr.seqR (by rfl) (fun K hK => ?_)
  refine wp_runV rfl boxI ?_
  obtain ⟨y1, hy⟩ : ∃ y, w.alloc (.cells ([.int .i64 tk, .int .i64 tn, .slice pb bl cb, .slice pl ll cl]).toArray 25) = y := ⟨_, rfl⟩
  obtain ⟨ba, hb⟩ : ∃ b, w.heap.size = b := ⟨_, rfl⟩
  rw [hy, hb]
  have hg : Gr w y1 := hy ▸ (Gr.refl _).alloc _
  replace H := H.alloc hy hb
  clear hy hb hg
  (refine Kr.outS hK (a' := ?_) ?_ ?_; rotate_left; (focus ((try simp only [Kr.PT]); first | done | rfl))); clear hK K
  (refine Kr.seqQ (v := ?_) (a' := ?_) (by rfl) ?_ ?_ ?_; rotate_left 2; (focus (go_simp; first | done | rfl)); (focus ((try simp only [Kr.PT]); first | done | rfl)))
  (refine Kr.seqQ (v := ?_) (a' := ?_) (by rfl) ?_ ?_ ?_; rotate_left 2; (focus (go_simp; first | done | rfl)); (focus ((try simp only [Kr.PT]); first | done | rfl)))
  refine Kr.seqDoneW ?_
  go_upto_region 1 with fail
  refine Kr.seqStartW ?_
  (refine Kr.seqQ (v := .agg #[.int .i64 tk, .int .i64 tn, .slice pb bl cb, .slice pl ll cl]) (a' := ?_) (by rfl) ?_ ?_ ?_; rotate_left 1; (focus (exact Kr.valOf rfl (ldI (H.at 0 rfl)))); (focus ((try simp only [Kr.PT]); first | done | rfl)))
  refine Kr.seqR (by rfl) (fun K hK => ?_)
  go_simp
  go_at_call 14
  have hP := Valid_v (w := y1) (HI.out.grow H.g); rw [HV.out] at hP
  refine (hP).mono ?_
  rintro e y2 ⟨rfl, hg⟩
  replace H := H.grow hg
  clear hg
  clear hP
  (refine Kr.outS hK (a' := ?_) ?_ ?_; rotate_left; (focus ((try simp only [Kr.PT]); first | done | rfl))); clear hK K
  (refine Kr.seqQ (v := ?_) (a' := ?_) (by rfl) ?_ ?_ ?_; rotate_left 2; (focus (go_simp; first | done | rfl)); (focus ((try simp only [Kr.PT]); first | done | rfl)))
  refine Kr.seqDoneW ?_
  go_upto_region 2 with fail
  refine Kr.seqStartW ?_
  (refine Kr.seqQ (v := ?_) (a' := ?_) (by rfl) ?_ ?_ ?_; rotate_left 2; (focus (go_simp; first | done | rfl)); (focus ((try simp only [Kr.PT]); first | done | rfl)))
  (refine Kr.seqQ (v := ?_) (a' := ?_) (by rfl) ?_ ?_ ?_; rotate_left 2; (focus (go_simp; first | done | rfl)); (focus ((try simp only [Kr.PT]); first | done | rfl)))
  refine Kr.seqDoneW ?_
  have hk := trivial
  go_wp2
  refine bodyPost_ret (v := .tuple #[.string ⟨#[]⟩, .int .i64 1]) (by simp [results, Tryd.results22, go_sem, hk]) rfl ⟨rfl, H.g⟩
set_option linter.unusedSimpArgs false in
set_option maxRecDepth 100000 in
set_option maxHeartbeats 16000000 in
theorem Text_ok {k : Nat} {F : Nat → Prop} {v : Value} {t : It} {w : World} (hI : ItV w k F v t) (hv : vld 8 t = true) (hT : Tab w) (hb : (txt 8 t).length ≤ 99999000) :
    Calls Tryd.prog 22 #[v] w fun e w' => e = .returned (.tuple #[.string (strB (txt 8 t)), .int .i64 0]) ∧ Gr w w' := by
  have hI0 := hI
  obtain ⟨k0, rfl⟩ : ∃ k0, k = k0 + 1 := by cases k with
    | zero => exact hI.elim
    | succ k0 => exact ⟨k0, rfl⟩
  obtain ⟨pb, cb, pl, cl, hv, hk1, hn1, hpb, hcb, hbl, hll, hB, hL⟩ := hI; subst hv
  obtain ⟨tk, htk⟩ : ∃ z, t.k = z := ⟨_, rfl⟩; obtain ⟨tn, htn⟩ : ∃ z, t.n = z := ⟨_, rfl⟩; obtain ⟨bl, hbl2⟩ : ∃ z, t.b.length = z := ⟨_, rfl⟩; obtain ⟨ll, hll2⟩ : ∃ z, t.l.length = z := ⟨_, rfl⟩
  rw [htk] at hk1; rw [htn] at hn1; rw [hbl2] at hcb hbl; rw [hll2] at hll; have HTK := Lib.hid htk; have HTN := Lib.hid htn; have HBL := Lib.hid hbl2; have HLL := Lib.hid hll2; have HBB := Lib.hid hB; have HLS := Lib.hid hL; have HPB := Lib.hid hpb; have HI1 := Lib.hid hk1; have HI2 := Lib.hid hn1; rw [htk, htn, hbl2, hll2]; clear htk htn hbl2 hll2 hB hL hpb hk1 hn1
  have hI1 : ItV w (k0 + 1) F (.agg #[.int .i64 tk, .int .i64 tn, .slice pb bl cb, .slice pl ll cl]) t := by rw [HTK.out, HTN.out, HBL.out, HLL.out] at hI0; exact hI0
  have HI := Lib.hid hI1; clear hI0 hI1; have HV := Lib.hid hv; clear hv
  have HTAB := Lib.hid hT; clear hT; obtain ⟨E, hE⟩ : ∃ z, txt 8 t = z := ⟨_, rfl⟩; rw [hE] at hb ⊢; have HE := Lib.hid hE; clear hE; obtain ⟨S, hS⟩ : ∃ z, strB E = z := ⟨_, rfl⟩; rw [hS]; have HSB := Lib.hid hS; clear hS
  have H := Ow.start w
  go_enter Tryd.func22, Tryd.ntmps22
  go_upto_region 0 with fail
  refine Kr.seqStartW ?_
  refine Kr.seqR (by rfl) (fun K hK => ?_)
  refine wp_runV rfl boxI ?_
  obtain ⟨y1, hy⟩ : ∃ y, w.alloc (.cells ([.int .i64 tk, .int .i64 tn, .slice pb bl cb, .slice pl ll cl]).toArray 25) = y := ⟨_, rfl⟩
  obtain ⟨ba, hb⟩ : ∃ b, w.heap.size = b := ⟨_, rfl⟩
  rw [hy, hb]
  have hg : Gr w y1 := hy ▸ (Gr.refl _).alloc _
  replace H := H.alloc hy hb
  clear hy hb hg
  (refine Kr.outS hK (a' := ?_) ?_ ?_; rotate_left; (focus ((try simp only [Kr.PT]); first | done | rfl))); clear hK K
  (refine Kr.seqQ (v := ?_) (a' := ?_) (by rfl) ?_ ?_ ?_; rotate_left 2; (focus (go_simp; first | done | rfl)); (focus ((try simp only [Kr.PT]); first | done | rfl)))
  (refine Kr.seqQ (v := ?_) (a' := ?_) (by rfl) ?_ ?_ ?_; rotate_left 2; (focus (go_simp; first | done | rfl)); (focus ((try simp only [Kr.PT]); first | done | rfl)))
  refine Kr.seqDoneW ?_
  go_upto_region 1 with fail
  refine Kr.seqStartW ?_
  (refine Kr.seqQ (v := .agg #[.int .i64 tk, .int .i64 tn, .slice pb bl cb, .slice pl ll cl]) (a' := ?_) (by rfl) ?_ ?_ ?_; rotate_left 1; (focus (exact Kr.valOf rfl (ldI (H.at 0 rfl)))); (focus ((try simp only [Kr.PT]); first | done | rfl)))
  refine Kr.seqR (by rfl) (fun K hK => ?_)
  go_simp
  go_at_call 14
  have hP := Valid_v (w := y1) (HI.out.grow H.g); rw [HV.out] at hP
  refine (hP).mono ?_
  rintro e y2 ⟨rfl, hg⟩
  replace H := H.grow hg
  clear hg
  clear hP
  (refine Kr.outS hK (a' := ?_) ?_ ?_; rotate_left; (focus ((try simp only [Kr.PT]); first | done | rfl))); clear hK K
  (refine Kr.seqQ (v := ?_) (a' := ?_) (by rfl) ?_ ?_ ?_; rotate_left 2; (focus (go_simp; first | done | rfl)); (focus ((try simp only [Kr.PT]); first | done | rfl)))
  refine Kr.seqDoneW ?_
  go_upto_region 3 with fail
  refine Kr.seqStartW ?_
  (refine Kr.seqQ (v := .agg #[.int .i64 tk, .int .i64 tn, .slice pb bl cb, .slice pl ll cl]) (a' := ?_) (by rfl) ?_ ?_ ?_; rotate_left 1; (focus (exact Kr.valOf rfl (ldI (H.at 0 rfl)))); (focus ((try simp only [Kr.PT]); first | done | rfl)))
  refine Kr.seqR (by rfl) (fun K hK => ?_)
  go_simp
  go_at_call 43
  refine (wtext_v 8 (Ow.start y2) (RowG.nil 5 _ _) (Apt.none _) (fun x hx => by cases hx) (HTAB.out.grow H.g) (HI.out.grow H.g) HV.out (by rw [HE.out]; show 0 + E.length ≤ _; omega)).mono ?_
  rintro e y3 ⟨v2, rfl, hR, hA, hO⟩
  rw [List.nil_append, HE.out] at hR; obtain ⟨p, c, hsl, _, _, hsrc⟩ := hR.src; rw [List.length_map] at hsl; subst hsl; obtain ⟨n, hn⟩ : ∃ z, E.length = z := ⟨_, rfl⟩; rw [hn]
  have HSRC := Lib.hid (srcB_of hsrc); have hg := hO.g; clear hR hA hO hsrc
  replace H := H.grow hg
  clear hg
  (refine Kr.outS hK (a' := ?_) ?_ ?_; rotate_left; (focus ((try simp only [Kr.PT]); first | done | rfl))); clear hK K
  (refine Kr.seqQ (v := .string S) (a' := ?_) (by rfl) ?_ ?_ ?_; rotate_left 1; (focus (exact Kr.valOf rfl ((by rw [← HSB.out]; exact run_str HSRC.out hn)))); (focus ((try simp only [Kr.PT]); first | done | rfl)))
  (refine Kr.seqQ (v := ?_) (a' := ?_) (by rfl) ?_ ?_ ?_; rotate_left 2; (focus (go_simp; first | done | rfl)); (focus ((try simp only [Kr.PT]); first | done | rfl)))
  (refine Kr.seqQ (v := ?_) (a' := ?_) (by rfl) ?_ ?_ ?_; rotate_left 2; (focus (go_simp; first | done | rfl)); (focus ((try simp only [Kr.PT]); first | done | rfl)))
  refine Kr.seqDoneW ?_
  have hk := trivial
  go_wp2
  refine bodyPost_ret (v := .tuple #[.string S, .int .i64 0]) (by simp [results, Tryd.results22, go_sem, hk]) rfl ⟨rfl, H.g⟩
end Go.Proofs.YtcngcdfngifjnaaDoor.Dg


/- The reader: fail. -/
namespace Go.Proofs.YtcngcdfngifjnaaDoor.Dg
open Go Go.RowKit Go.Proofs.YtcngcdfngifjnaaDoor.Ne Go.Proofs.YtcngcdfngifjnaaDoor.Kr

/-- What grows, but for one block. -/
structure GrX (br : Nat) (w W : World) : Prop where
  os : W.os = w.os
  tape : W.tape = w.tape
  output : W.output = w.output
  size : w.heap.size ≤ W.heap.size
  block : ∀ k, k < w.heap.size → k ≠ br → W.heap[k]? = w.heap[k]?
theorem GrX.refl (br : Nat) (w : World) : GrX br w w := ⟨rfl, rfl, rfl, Nat.le_refl _, fun _ _ _ => rfl⟩
theorem GrX.of {br : Nat} {w W : World} (g : Gr w W) : GrX br w W := ⟨g.os, g.tape, g.output, g.size, fun k h _ => g.block k h⟩
theorem GrX.trans {br : Nat} {a b c : World} (h : GrX br a b) (k : GrX br b c) : GrX br a c := ⟨k.os.trans h.os, k.tape.trans h.tape, k.output.trans h.output, Nat.le_trans h.size k.size, fun j hj hn => (k.block j (Nat.lt_of_lt_of_le hj h.size) hn).trans (h.block j hj hn)⟩
theorem GrX.gr {br : Nat} {w0 w W : World} (h : Gr w0 w) (k : GrX br w W) (hb : w0.heap.size ≤ br) : Gr w0 W := ⟨k.os.trans h.os, k.tape.trans h.tape, k.output.trans h.output, Nat.le_trans h.size k.size, fun j hj => (k.block j (Nat.lt_of_lt_of_le hj h.size) (by omega)).trans (h.block j hj)⟩
structure OwX (br : Nat) (w W : World) (rs : List Blk) : Prop where
  g : GrX br w W
  r : ∀ x ∈ rs, W.heap[x.1]? = some (.cells x.2.2.toArray x.2.1 (0, 0))
  low : ∀ x ∈ rs, w.heap.size ≤ x.1 ∨ x.1 = br
  ne : rs.Pairwise (fun x y => x.1 ≠ y.1)
section
variable {br : Nat} {w W y : World} {rs : List Blk}
theorem OwX.start {T : TypeId} {l : List Value} (h : w.heap[br]? = some (.cells l.toArray T (0, 0))) : OwX br w w [(br, T, l)] := by
  refine ⟨GrX.refl _ _, fun x hx => ?_, fun x hx => ?_, List.pairwise_singleton _ _⟩
  · rcases List.mem_cons.1 hx with rfl | hx
    · exact h
    · cases hx
  · rcases List.mem_cons.1 hx with rfl | hx
    · exact .inr rfl
    · cases hx
theorem OwX.lt (H : OwX br w W rs) {x : Blk} (hx : x ∈ rs) : x.1 < W.heap.size := lt_of_heap (H.r x hx)
theorem OwX.grow (H : OwX br w W rs) (g : Gr W y) : OwX br w y rs := ⟨H.g.trans (GrX.of g), fun x hx => (g.block x.1 (H.lt hx)).trans (H.r x hx), H.low, H.ne⟩
theorem OwX.alloc (H : OwX br w W rs) {l : List Value} {T : TypeId} {b : Nat} (hy : W.alloc (.cells l.toArray T) = y) (hb : W.heap.size = b) : OwX br w y ((b, T, l) :: rs) := by
  have hg : Gr W y := by rw [← hy]; exact (Gr.refl _).alloc _
  have H2 := H.grow hg
  refine ⟨H2.g, fun x hx => ?_, fun x hx => ?_, List.Pairwise.cons (fun x hx e => ?_) H.ne⟩
  · rcases List.mem_cons.1 hx with rfl | hx
    · rw [← hy, ← hb]; exact heap_alloc_last _ _
    · exact H2.r x hx
  · rcases List.mem_cons.1 hx with rfl | hx
    · refine .inl ?_
      show w.heap.size ≤ b
      rw [← hb]; exact H.g.size
    · exact H.low x hx
  · have := H.lt hx
    have e2 : b = x.1 := e
    omega
theorem OwX.at (H : OwX br w W rs) (i : Nat) {b : Nat} {T : TypeId} {l : List Value} (h : rs[i]? = some (b, T, l)) : W.heap[b]? = some (.cells l.toArray T (0, 0)) := H.r _ (List.mem_of_getElem? h)
theorem OwX.cell (H : OwX br w W rs) (i : Nat) {b : Nat} {T : TypeId} {l : List Value} (h : rs[i]? = some (b, T, l)) {j : Nat} {v : Value} (hv : l[j]? = some v) : W.cell? ⟨b, j, none⟩ = some v := by
  rw [cell_of_row W b j _ _ _ (H.at i h)]; simpa using hv
theorem OwX.frozen (H : OwX br w W rs) (i : Nat) {b : Nat} {T : TypeId} {l : List Value} (h : rs[i]? = some (b, T, l)) (j : Nat) : W.frozen? ⟨b, j, none⟩ = false := by
  simp [World.frozen?, H.at i h]
theorem OwX.put (H : OwX br w W rs) (i : Nat) {b : Nat} {T : TypeId} {l l' : List Value} (hy : W.setRow b l'.toArray = y) (h : rs[i]? = some (b, T, l)) : OwX br w y (rs.set i (b, T, l')) := by
  subst hy
  have hx := H.low _ (List.mem_of_getElem? h)
  have hb := H.at i h
  have hs : ∀ k, k ≠ b → (W.setRow b l'.toArray).heap[k]? = W.heap[k]? := fun k hk => by
    simp only [World.setRow, Array.getElem?_modify, if_neg (Ne.symm hk)]
  have hb' : (W.setRow b l'.toArray).heap[b]? = some (.cells l'.toArray T (0, 0)) := setRow_heap W b l.toArray l'.toArray T (0, 0) hb
  refine ⟨⟨H.g.os, H.g.tape, H.g.output, ?_, fun k hk hkb => ?_⟩, fun x hx2 => ?_, fun x hx2 => ?_, ow_set_ne i h H.ne⟩
  · have : (W.setRow b l'.toArray).heap.size = W.heap.size := by simp [World.setRow]
    rw [this]; exact H.g.size
  · rw [hs k (by
      have hx : w.heap.size ≤ b ∨ b = br := hx
      omega)]
    exact H.g.block k hk hkb
  · obtain ⟨j, hj⟩ := List.getElem?_of_mem hx2
    rw [List.getElem?_set] at hj
    by_cases hji : i = j
    · rw [if_pos hji] at hj
      by_cases hl : i < rs.length
      · rw [if_pos hl] at hj
        cases hj
        exact hb'
      · rw [if_neg hl] at hj; cases hj
    · rw [if_neg hji] at hj
      rw [hs x.1 (fun e => ow_ne H.ne h hj hji e.symm)]
      exact H.r x (List.mem_of_getElem? hj)
  · rcases List.mem_or_eq_of_mem_set hx2 with hx2 | rfl
    · exact H.low x hx2
    · exact hx
theorem OwX.set (H : OwX br w W rs) (i j : Nat) {b : Nat} {T : TypeId} {l : List Value} {v : Value} (hy : W.setCell ⟨b, j, none⟩ v = y) (h : rs[i]? = some (b, T, l)) : OwX br w y (rs.set i (b, T, l.set j v)) := by
  refine H.put i ?_ h
  rw [← hy, setCell_eq_setRow W b j l.toArray T (0, 0) v (H.at i h)]
  simp
theorem OwX.drop (H : OwX br w W rs) (n : Nat) : OwX br w W (rs.drop n) := ⟨H.g, fun x hx => H.r x (List.mem_of_mem_drop hx), fun x hx => H.low x (List.mem_of_mem_drop hx), H.ne.drop⟩
/-- A call that may write the block. -/
theorem OwX.call (H : OwX br w W rs) (i : Nat) {T : TypeId} {l l' : List Value} (h : rs[i]? = some (br, T, l)) (g : GrX br W y) (hh : y.heap[br]? = some (.cells l'.toArray T (0, 0))) : OwX br w y (rs.set i (br, T, l')) := by
  refine ⟨H.g.trans g, fun x hx2 => ?_, fun x hx2 => ?_, ow_set_ne i h H.ne⟩
  · obtain ⟨j, hj⟩ := List.getElem?_of_mem hx2
    rw [List.getElem?_set] at hj
    by_cases hji : i = j
    · rw [if_pos hji] at hj
      by_cases hl : i < rs.length
      · rw [if_pos hl] at hj
        cases hj
        exact hh
      · rw [if_neg hl] at hj; cases hj
    · rw [if_neg hji] at hj
      have hm := List.mem_of_getElem? hj
      rw [g.block x.1 (H.lt hm) (fun e => ow_ne H.ne h hj hji e.symm)]
      exact H.r x hm
  · rcases List.mem_or_eq_of_mem_set hx2 with hx2 | rfl
    · exact H.low x hx2
    · exact .inr rfl
theorem OwX.grown {row : Option Nat} (H : OwX br w W rs) (g : W.grownBy y row) (hr : ∀ k, row = some k → w.heap.size ≤ k ∧ ∀ x ∈ rs, x.1 ≠ k) : OwX br w y rs := by
  refine ⟨⟨g.os.trans H.g.os, g.tape.trans H.g.tape, g.output.trans H.g.output, Nat.le_trans H.g.size g.size, fun k hk hkb => ?_⟩, fun x hx => ?_, H.low, H.ne⟩
  · rw [g.block k (Nat.lt_of_lt_of_le hk H.g.size) (fun e => by have := (hr k e.symm).1; omega)]
    exact H.g.block k hk hkb
  · rw [g.block x.1 (H.lt hx) (fun e => (hr _ e.symm).2 x hx rfl)]
    exact H.r x hx
end
/-- These bytes lie in no such block. -/
def Off (br : Nat) (p : Option Addr) : Prop := ∀ a, p = some a → a.block ≠ br
theorem SrcB.growX {br : Nat} {p : Option Addr} {l : List (BitVec 8)} {w W : World} (h : SrcB p l w) (hne : Off br p) (g : GrX br w W) : SrcB p l W := by
  refine h.imp id (fun ⟨b, off, e, h⟩ => ⟨b, off, e, fun j x hx => ?_⟩)
  have h1 := h j x hx
  have hb : b < w.heap.size := by
    rcases Nat.lt_or_ge b w.heap.size with h' | h'
    · exact h'
    · simp [World.cell?, Array.getElem?_eq_none h'] at h1
  exact (World.cell?_of_block (a := ⟨b, off + j, none⟩) (g.block b hb (hne _ e))).trans h1
theorem ldErr {w : World} {a : Addr} {n : Int} (h : w.cell? a = some (.int .i64 n)) : (Instr.loadAt 28 (.pointer (some a))).run Tryd.prog w = .ok (.int .i64 n) w := by
  go_simp
theorem stErr {w : World} {a : Addr} {x : Int} {v : Value} (h : w.cell? a = some v) (hf : w.frozen? a = false) : (Instr.storeAt 28 (.pointer (some a)) (.int .i64 x)).run Tryd.prog w = .ok () (w.setCell a (.int .i64 x)) := by
  go_simp
theorem stInt {w : World} {a : Addr} {x : Int} {v : Value} (h : w.cell? a = some v) (hf : w.frozen? a = false) : (Instr.storeAt 3 (.pointer (some a)) (.int .i64 x)).run Tryd.prog w = .ok () (w.setCell a (.int .i64 x)) := by
  go_simp
def cutA (b off c a : Nat) : Addr := if c = a then ⟨b, off, none⟩ else ⟨b, off + a, none⟩
theorem slAB {w : World} {b off n c a e k : Nat} (h : a + k = e) (h1 : e ≤ c) (h3 : e < 9223372036854775808) : (Instr.sliceAt 22 (.slice (some ⟨b, off, none⟩) n c) (some (.int .i64 (a : Int))) (some (.int .i64 (e : Int))) none).run Tryd.prog w = .ok (.slice (some (cutA b off c a)) k (c - a)) w := by
  have h4 : (0 : Int) ≤ (e : Int) := by omega
  have h5 : (e : Int) ≤ (c : Int) := by omega
  have h6 : (0 : Int) ≤ (a : Int) := by omega
  have h8 : e - a = k := by omega
  have h10 : a ≤ e := by omega
  have h11 : e ≤ c := by omega
  have h12 : (a : Int) ≤ (e : Int) := by omega
  unfold cutA
  clear h h1 h3
  by_cases h7 : c = a
  · obtain rfl : c = a := h7
    obtain rfl : e = c := by omega
    obtain rfl : 0 = k := by omega
    clear h4 h5 h8 h10 h11 h12
    go_simp
  · have h9 : ¬ c - a = 0 := by omega
    go_simp
theorem srcB_cut {b off c a k n : Nat} {l : List (BitVec 8)} {W : World} (h : SrcB (some ⟨b, off, none⟩) l W) (hl : l.length = n) (hn : n ≤ c) (hk : a + k ≤ n) : SrcB (some (cutA b off c a)) ((l.drop a).take k) W := by
  rcases h with h | ⟨b2, off2, e, h⟩
  · subst h; exact .inl (by simp)
  · cases e
    unfold cutA
    by_cases hc : c = a
    · rw [if_pos hc]
      exact .inl (by obtain rfl : k = 0 := by omega
                     exact List.take_zero)
    · rw [if_neg hc]
      refine .inr ⟨b, off + a, rfl, fun j x hx => ?_⟩
      rw [List.getElem?_take] at hx
      split at hx
      · rw [List.getElem?_drop] at hx
        rw [Nat.add_assoc]
        exact h _ _ hx
      · cases hx
theorem off_cut {br b off c a : Nat} (h : Off br (some ⟨b, off, none⟩)) : Off br (some (cutA b off c a)) := fun ad e => by
  have h1 := h _ rfl
  have e2 := Option.some.inj e
  rw [← e2]
  unfold cutA
  split <;> exact h1
/-- The reader. -/
def rdr (v : Value) (pos e : Int) : List Value := [v, .int .i64 pos, .int .i64 e]

set_option linter.unusedSimpArgs false in
set_option maxRecDepth 100000 in
set_option maxHeartbeats 16000000 in
theorem fail_set {w : World} {br : Nat} {v : Value} {pos code : Int} (hr : w.heap[br]? = some (.cells (rdr (v) pos 0).toArray 60 (0, 0)))  :
    Calls Tryd.prog 41 #[.pointer (some ⟨br, 0, none⟩), .int .i64 code] w fun o w' => o = .returned (.tuple #[]) ∧ w'.heap[br]? = some (.cells (rdr (v) pos code).toArray 60 (0, 0)) ∧ GrX br w w' := by
  have H := OwX.start hr
  go_enter Tryd.func41, Tryd.ntmps41
  have C1 : decide ((0 : Int) = 0) = true := decide_eq_true (by rfl)
  go_upto_region 0 with fail
  refine Kr.seqStartW ?_
  (refine Kr.seqQ (v := ?_) (a' := ?_) (by rfl) ?_ ?_ ?_; rotate_left 2; (focus (go_simp; first | done | rfl)); (focus ((try simp only [Kr.PT]); first | done | rfl)))
  (refine Kr.seqQ (v := ?_) (a' := ?_) (by rfl) ?_ ?_ ?_; rotate_left 2; (focus (go_simp; first | done | rfl)); (focus ((try simp only [Kr.PT]); first | done | rfl)))
  (refine Kr.seqQ (v := .pointer (some ⟨br, 2, none⟩)) (a' := ?_) (by rfl) ?_ ?_ ?_; rotate_left 1; (focus (go_simp; first | done | rfl)); (focus ((try simp only [Kr.PT]); first | done | rfl)))
  (refine Kr.seqQ (v := .int .i64 0) (a' := ?_) (by rfl) ?_ ?_ ?_; rotate_left 1; (focus (exact Kr.valOf rfl (ldErr (rowCell (j := 2) (H.at 0 rfl) rfl)))); (focus ((try simp only [Kr.PT]); first | done | rfl)))
  (refine Kr.seqQ (v := .bool true) (a' := ?_) (by rfl) ?_ ?_ ?_; rotate_left 1; (focus (exact Kr.valOf rfl (eqlI C1))); (focus ((try simp only [Kr.PT]); first | done | rfl)))
  refine Kr.seqDoneW ?_
  go_upto_region 1 with fail
  refine Kr.seqStartW ?_
  (refine Kr.seqQ (v := ?_) (a' := ?_) (by rfl) ?_ ?_ ?_; rotate_left 2; (focus (go_simp; first | done | rfl)); (focus ((try simp only [Kr.PT]); first | done | rfl)))
  (refine Kr.seqQ (v := ?_) (a' := ?_) (by rfl) ?_ ?_ ?_; rotate_left 2; (focus (go_simp; first | done | rfl)); (focus ((try simp only [Kr.PT]); first | done | rfl)))
  (refine Kr.seqQ (v := ?_) (a' := ?_) (by rfl) ?_ ?_ ?_; rotate_left 2; (focus (go_simp; first | done | rfl)); (focus ((try simp only [Kr.PT]); first | done | rfl)))
  (refine Kr.seqQ (v := .pointer (some ⟨br, 2, none⟩)) (a' := ?_) (by rfl) ?_ ?_ ?_; rotate_left 1; (focus (go_simp; first | done | rfl)); (focus ((try simp only [Kr.PT]); first | done | rfl)))
  refine Kr.seqR (by rfl) (fun K hK => ?_)
  refine wp_run rfl (stErr (H.cell 0 rfl (show _ = some _ from rfl)) (H.frozen 0 rfl 2)) ?_
  obtain ⟨y1, hy⟩ : ∃ y, w.setCell ⟨br, 2, none⟩ (.int .i64 code) = y := ⟨_, rfl⟩; rw [hy]
  replace H := H.set 0 2 hy rfl; dsimp only [List.set] at H; clear hy
  rw [show (rdr (v) pos 0).set 2 (.int .i64 code) = rdr (v) pos code from rfl] at H
  (refine Kr.outS hK (a' := ?_) ?_ ?_; rotate_left; (focus ((try simp only [Kr.PT]); first | done | rfl))); clear hK K
  refine Kr.seqDoneW ?_
  go_wp2
  refine bodyPost_end (v := .tuple #[]) (by simp [results, Tryd.results41, go_sem]) rfl ⟨rfl, H.at 0 rfl, H.g⟩
set_option linter.unusedSimpArgs false in
set_option maxRecDepth 100000 in
set_option maxHeartbeats 16000000 in
theorem fail_not {w : World} {br : Nat} {v : Value} {pos e code : Int} (hr : w.heap[br]? = some (.cells (rdr (v) pos e).toArray 60 (0, 0))) (he : e ≠ 0) :
    Calls Tryd.prog 41 #[.pointer (some ⟨br, 0, none⟩), .int .i64 code] w fun o w' => o = .returned (.tuple #[]) ∧ w'.heap[br]? = some (.cells (rdr (v) pos e).toArray 60 (0, 0)) ∧ GrX br w w' := by
  have H := OwX.start hr
  go_enter Tryd.func41, Tryd.ntmps41
  have C1 : decide (e = 0) = false := decide_eq_false (by exact he)
  go_upto_region 0 with fail
  refine Kr.seqStartW ?_
  (refine Kr.seqQ (v := ?_) (a' := ?_) (by rfl) ?_ ?_ ?_; rotate_left 2; (focus (go_simp; first | done | rfl)); (focus ((try simp only [Kr.PT]); first | done | rfl)))
  (refine Kr.seqQ (v := ?_) (a' := ?_) (by rfl) ?_ ?_ ?_; rotate_left 2; (focus (go_simp; first | done | rfl)); (focus ((try simp only [Kr.PT]); first | done | rfl)))
  (refine Kr.seqQ (v := .pointer (some ⟨br, 2, none⟩)) (a' := ?_) (by rfl) ?_ ?_ ?_; rotate_left 1; (focus (go_simp; first | done | rfl)); (focus ((try simp only [Kr.PT]); first | done | rfl)))
  (refine Kr.seqQ (v := .int .i64 e) (a' := ?_) (by rfl) ?_ ?_ ?_; rotate_left 1; (focus (exact Kr.valOf rfl (ldErr (rowCell (j := 2) (H.at 0 rfl) rfl)))); (focus ((try simp only [Kr.PT]); first | done | rfl)))
  (refine Kr.seqQ (v := .bool false) (a' := ?_) (by rfl) ?_ ?_ ?_; rotate_left 1; (focus (exact Kr.valOf rfl (eqlI C1))); (focus ((try simp only [Kr.PT]); first | done | rfl)))
  refine Kr.seqDoneW ?_
  go_wp2
  refine bodyPost_end (v := .tuple #[]) (by simp [results, Tryd.results41, go_sem]) rfl ⟨rfl, H.at 0 rfl, H.g⟩
end Go.Proofs.YtcngcdfngifjnaaDoor.Dg


/- The reader: take. -/
namespace Go.Proofs.YtcngcdfngifjnaaDoor.Dg
open Go Go.RowKit Go.Proofs.YtcngcdfngifjnaaDoor.Ne Go.Proofs.YtcngcdfngifjnaaDoor.Kr

/-- A number of bytes, the greatest first. -/
def nb (l : List (BitVec 8)) : BitVec 64 := l.foldl (fun a x => (a <<< 8) ||| x.setWidth 64) 0#64
theorem nb_snoc {l : List (BitVec 8)} {j : Nat} {x : BitVec 8} (h : l[j]? = some x) : nb (l.take (j + 1)) = (nb (l.take j) <<< 8) ||| x.setWidth 64 := by
  unfold nb
  rw [List.take_add_one, h, List.foldl_append]
  rfl
theorem shl8Z {w : World} {a z : BitVec 64} (h : a <<< 8 = z) : (binOp .shl 3 (.int .i64 a.toInt) (.int .u64 8)).run Tryd.prog w = .ok (.int .i64 z.toInt) w := by
  have e : IntKind.i64.wrap (a.toInt * 256) = z.toInt := by
    rw [← h, IntKind.wrap_i64, BitVec.toInt_shiftLeft]
    have h1 := BitVec.toInt_eq_toNat_bmod a
    rw [Nat.shiftLeft_eq, h1]
    simp only [Int.bmod]
    omega
  clear h
  go_simp
theorem ofInt_i (a : BitVec 64) : BitVec.ofInt 64 a.toInt = a := BitVec.ofInt_toInt
theorem orZ {w : World} {a z : BitVec 64} {x : BitVec 8} (h : a ||| x.setWidth 64 = z) : (binOp .or 3 (.int .i64 a.toInt) (.int .i64 (x.toNat : Int))).run Tryd.prog w = .ok (.int .i64 z.toInt) w := by
  have e : bits BinOp.or IntKind.i64 a.toInt (x.toNat : Int) = z.toInt := by
    show IntKind.i64.wrap ((BitVec.ofInt 64 a.toInt ||| BitVec.ofInt 64 (x.toNat : Int)).toNat : Int) = _
    rw [ofInt_i, BitVec.ofInt_natCast, show BitVec.ofNat 64 x.toNat = x.setWidth 64 by apply BitVec.eq_of_toNat_eq; simp, h, IntKind.wrap_i64, BitVec.toInt_eq_toNat_bmod]
    simp only [Int.bmod]
    have := z.isLt
    omega
  clear h
  go_simp
theorem cvB8 {w : World} {x : BitVec 8} : (convert 5 3 (.int .u8 (x.toNat : Int))).run Tryd.prog w = .ok (.int .i64 (x.toNat : Int)) w := by
  have e : IntKind.i64.wrap (x.toNat : Int) = (x.toNat : Int) := IntWalk.i64_in _ (by have := x.isLt; omega)
  go_simp

set_option linter.unusedSimpArgs false in
set_option maxRecDepth 100000 in
set_option maxHeartbeats 16000000 in
theorem take_end {w : World} {br : Nat} {p : Option Addr} {n c ps k : Nat}  (hr : w.heap[br]? = some (.cells (rdr (.slice p n c) (ps : Int) 0).toArray 60 (0, 0))) (hn : n ≤ 1000000) (hps : ps ≤ n) (hk : n < ps + k) :
    Calls Tryd.prog 49 #[.pointer (some ⟨br, 0, none⟩), .int .i64 (k : Int)] w fun o w' => o = .returned (.slice none 0 0) ∧ w'.heap[br]? = some (.cells (rdr (.slice p n c) (ps : Int) 4).toArray 60 (0, 0)) ∧ GrX br w w' := by
  have H := OwX.start hr
  go_enter Tryd.func49, Tryd.ntmps49
  go_upto_region 0 with fail
  refine Kr.seqStartW ?_
  (refine Kr.seqQ (v := ?_) (a' := ?_) (by rfl) ?_ ?_ ?_; rotate_left 2; (focus (go_simp; first | done | rfl)); (focus ((try simp only [Kr.PT]); first | done | rfl)))
  refine Kr.seqDoneW ?_
  obtain ⟨df, hdf⟩ : ∃ z : Int, (n : Int) - (ps : Int) = z := ⟨_, rfl⟩; have hsub : IntKind.i64.wrap ((n : Int) - (ps : Int)) = df := by rw [hdf]; exact IntWalk.i64_in _ (by omega)
  have C1 : decide (df < (k : Int)) = true := decide_eq_true (by omega)
  have HDF := Lib.hid hdf; clear hdf
  go_upto_region 1 with fail
  refine Kr.startL (fun W' => (W'.heap[br]? = some (.cells (rdr (.slice p n c) (ps : Int) 0).toArray 60 (0, 0))) ∧ True) [] (by kernel_rfl) ?_
  have gd : Gr w w.drew := (Gr.refl _).drew
  generalize w.drew = d1 at gd ⊢
  replace H := H.grow gd
  clear gd
  (refine Kr.tPQ 0 (v := ?_) (a' := ?_) rfl (by kernel_rfl) (fun _ _ _ h => h) (by rfl) (fun _ => ⟨(H.at 0 rfl), trivial⟩) (fun wx => ?_) ?_ ?_; rotate_left 2; (focus (go_simp; first | done | rfl)); (focus ((try simp only [Kr.PT]); first | done | rfl)))
  (refine Kr.tPQ 1 (v := ?_) (a' := ?_) rfl (by kernel_rfl) (fun _ _ _ h => h) (by rfl) (fun _ => ⟨(H.at 0 rfl), trivial⟩) (fun wx => ?_) ?_ ?_; rotate_left 2; (focus (go_simp; first | done | rfl)); (focus ((try simp only [Kr.PT]); first | done | rfl)))
  (refine Kr.tPQ 2 (v := ?_) (a' := ?_) rfl (by kernel_rfl) (fun _ _ _ h => h) (by rfl) (fun _ => ⟨(H.at 0 rfl), trivial⟩) (fun wx => ?_) ?_ ?_; rotate_left 2; (focus (go_simp; first | done | rfl)); (focus ((try simp only [Kr.PT]); first | done | rfl)))
  (refine Kr.tPQ 3 (v := ?_) (a' := ?_) rfl (by kernel_rfl) (fun _ _ _ h => h) (by rfl) (fun _ => ⟨(H.at 0 rfl), trivial⟩) (fun wx => ?_) ?_ ?_; rotate_left 2; (focus (go_simp; first | done | rfl)); (focus ((try simp only [Kr.PT]); first | done | rfl)))
  (refine Kr.tSQ 4 [] (v := .slice p n c) (a' := ?_) rfl (by kernel_rfl) (fun _ _ _ h => h) (by rfl) ⟨(H.at 0 rfl), trivial⟩ (fun wx hSx => ?_) ?_ ?_; rotate_left 1; (focus (exact Kr.valOf rfl (ldSl (rowCell (j := 0) hSx.1 rfl)))); (focus ((try simp only [Kr.PT]); first | done | rfl)))
  (refine Kr.tPQ 5 (v := .int .i64 (n : Int)) (a' := ?_) rfl (by kernel_rfl) (fun _ _ _ h => h) (by rfl) (fun _ => ⟨(H.at 0 rfl), trivial⟩) (fun wx => ?_) ?_ ?_; rotate_left 1; (focus (exact Kr.valOf rfl ((by go_simp)))); (focus ((try simp only [Kr.PT]); first | done | rfl)))
  (refine Kr.tPQ 6 (v := ?_) (a' := ?_) rfl (by kernel_rfl) (fun _ _ _ h => h) (by rfl) (fun _ => ⟨(H.at 0 rfl), trivial⟩) (fun wx => ?_) ?_ ?_; rotate_left 2; (focus (go_simp; first | done | rfl)); (focus ((try simp only [Kr.PT]); first | done | rfl)))
  (refine Kr.tPQ 7 (v := ?_) (a' := ?_) rfl (by kernel_rfl) (fun _ _ _ h => h) (by rfl) (fun _ => ⟨(H.at 0 rfl), trivial⟩) (fun wx => ?_) ?_ ?_; rotate_left 2; (focus (go_simp; first | done | rfl)); (focus ((try simp only [Kr.PT]); first | done | rfl)))
  (refine Kr.tPQ 8 (v := ?_) (a' := ?_) rfl (by kernel_rfl) (fun _ _ _ h => h) (by rfl) (fun _ => ⟨(H.at 0 rfl), trivial⟩) (fun wx => ?_) ?_ ?_; rotate_left 2; (focus (go_simp; first | done | rfl)); (focus ((try simp only [Kr.PT]); first | done | rfl)))
  (refine Kr.tSQ 9 [] (v := .int .i64 (ps : Int)) (a' := ?_) rfl (by kernel_rfl) (fun _ _ _ h => h) (by rfl) ⟨(H.at 0 rfl), trivial⟩ (fun wx hSx => ?_) ?_ ?_; rotate_left 1; (focus (exact Kr.valOf rfl (ldInt (rowCell (j := 1) hSx.1 rfl)))); (focus ((try simp only [Kr.PT]); first | done | rfl)))
  (refine Kr.tPQ 10 (v := .int .i64 df) (a' := ?_) rfl (by kernel_rfl) (fun _ _ _ h => h) (by rfl) (fun _ => ⟨(H.at 0 rfl), trivial⟩) (fun wx => ?_) ?_ ?_; rotate_left 1; (focus (exact Kr.valOf rfl (subI hsub))); (focus ((try simp only [Kr.PT]); first | done | rfl)))
  (refine Kr.tPQ 11 (v := .bool true) (a' := ?_) rfl (by kernel_rfl) (fun _ _ _ h => h) (by rfl) (fun _ => ⟨(H.at 0 rfl), trivial⟩) (fun wx => ?_) ?_ ?_; rotate_left 1; (focus (exact Kr.valOf rfl (gtrI C1))); (focus ((try simp only [Kr.PT]); first | done | rfl)))
  refine Kr.doneL (by kernel_rfl) ?_ _
  go_upto_region 2 with fail
  refine Kr.seqStartW ?_
  (refine Kr.seqQ (v := ?_) (a' := ?_) (by rfl) ?_ ?_ ?_; rotate_left 2; (focus (go_simp; first | done | rfl)); (focus ((try simp only [Kr.PT]); first | done | rfl)))
  refine Kr.seqR (by rfl) (fun K hK => ?_)
  go_simp
  go_at_call 41
  refine (fail_set (code := 4) (H.at 0 rfl)).mono ?_
  rintro o9 y2 ⟨rfl, hh, hg⟩
  replace H := H.call 0 rfl hg hh; dsimp only [List.set] at H; clear hh hg
  (refine Kr.outS hK (a' := ?_) ?_ ?_; rotate_left; (focus ((try simp only [Kr.PT]); first | done | rfl))); clear hK K
  refine Kr.seqDoneW ?_
  have C2 : (!decide ((4 : Int) = 0)) = true := rfl
  go_upto_region 3 with fail
  refine Kr.seqStartW ?_
  (refine Kr.seqQ (v := ?_) (a' := ?_) (by rfl) ?_ ?_ ?_; rotate_left 2; (focus (go_simp; first | done | rfl)); (focus ((try simp only [Kr.PT]); first | done | rfl)))
  (refine Kr.seqQ (v := ?_) (a' := ?_) (by rfl) ?_ ?_ ?_; rotate_left 2; (focus (go_simp; first | done | rfl)); (focus ((try simp only [Kr.PT]); first | done | rfl)))
  (refine Kr.seqQ (v := .pointer (some ⟨br, 2, none⟩)) (a' := ?_) (by rfl) ?_ ?_ ?_; rotate_left 1; (focus (go_simp; first | done | rfl)); (focus ((try simp only [Kr.PT]); first | done | rfl)))
  (refine Kr.seqQ (v := .int .i64 4) (a' := ?_) (by rfl) ?_ ?_ ?_; rotate_left 1; (focus (exact Kr.valOf rfl (ldErr (rowCell (j := 2) (H.at 0 rfl) rfl)))); (focus ((try simp only [Kr.PT]); first | done | rfl)))
  (refine Kr.seqQ (v := .bool true) (a' := ?_) (by rfl) ?_ ?_ ?_; rotate_left 1; (focus (exact Kr.valOf rfl (neqI C2))); (focus ((try simp only [Kr.PT]); first | done | rfl)))
  refine Kr.seqDoneW ?_
  go_upto_region 4 with fail
  refine Kr.seqStartW ?_
  (refine Kr.seqQ (v := ?_) (a' := ?_) (by rfl) ?_ ?_ ?_; rotate_left 2; (focus (go_simp; first | done | rfl)); (focus ((try simp only [Kr.PT]); first | done | rfl)))
  refine Kr.seqDoneW ?_
  have hk := trivial
  go_wp2
  refine bodyPost_ret (v := .slice none 0 0) (by simp [results, Tryd.results49, go_sem, hk]) rfl ⟨rfl, H.at 0 rfl, H.g⟩
set_option linter.unusedSimpArgs false in
set_option maxRecDepth 100000 in
set_option maxHeartbeats 16000000 in
theorem take_dead {w : World} {br : Nat} {p : Option Addr} {n c ps k : Nat} {e : Int} (hr : w.heap[br]? = some (.cells (rdr (.slice p n c) (ps : Int) e).toArray 60 (0, 0))) (hn : n ≤ 1000000) (hps : ps ≤ n) (he : e ≠ 0) (hk : ps + k ≤ n) :
    Calls Tryd.prog 49 #[.pointer (some ⟨br, 0, none⟩), .int .i64 (k : Int)] w fun o w' => o = .returned (.slice none 0 0) ∧ w'.heap[br]? = some (.cells (rdr (.slice p n c) (ps : Int) e).toArray 60 (0, 0)) ∧ GrX br w w' := by
  have H := OwX.start hr
  go_enter Tryd.func49, Tryd.ntmps49
  go_upto_region 0 with fail
  refine Kr.seqStartW ?_
  (refine Kr.seqQ (v := ?_) (a' := ?_) (by rfl) ?_ ?_ ?_; rotate_left 2; (focus (go_simp; first | done | rfl)); (focus ((try simp only [Kr.PT]); first | done | rfl)))
  refine Kr.seqDoneW ?_
  obtain ⟨df, hdf⟩ : ∃ z : Int, (n : Int) - (ps : Int) = z := ⟨_, rfl⟩; have hsub : IntKind.i64.wrap ((n : Int) - (ps : Int)) = df := by rw [hdf]; exact IntWalk.i64_in _ (by omega)
  have C1 : decide (df < (k : Int)) = false := decide_eq_false (by omega)
  have HDF := Lib.hid hdf; clear hdf
  go_upto_region 1 with fail
  refine Kr.startL (fun W' => (W'.heap[br]? = some (.cells (rdr (.slice p n c) (ps : Int) e).toArray 60 (0, 0))) ∧ True) [] (by kernel_rfl) ?_
  have gd : Gr w w.drew := (Gr.refl _).drew
  generalize w.drew = d1 at gd ⊢
  replace H := H.grow gd
  clear gd
  (refine Kr.tPQ 0 (v := ?_) (a' := ?_) rfl (by kernel_rfl) (fun _ _ _ h => h) (by rfl) (fun _ => ⟨(H.at 0 rfl), trivial⟩) (fun wx => ?_) ?_ ?_; rotate_left 2; (focus (go_simp; first | done | rfl)); (focus ((try simp only [Kr.PT]); first | done | rfl)))
  (refine Kr.tPQ 1 (v := ?_) (a' := ?_) rfl (by kernel_rfl) (fun _ _ _ h => h) (by rfl) (fun _ => ⟨(H.at 0 rfl), trivial⟩) (fun wx => ?_) ?_ ?_; rotate_left 2; (focus (go_simp; first | done | rfl)); (focus ((try simp only [Kr.PT]); first | done | rfl)))
  (refine Kr.tPQ 2 (v := ?_) (a' := ?_) rfl (by kernel_rfl) (fun _ _ _ h => h) (by rfl) (fun _ => ⟨(H.at 0 rfl), trivial⟩) (fun wx => ?_) ?_ ?_; rotate_left 2; (focus (go_simp; first | done | rfl)); (focus ((try simp only [Kr.PT]); first | done | rfl)))
  (refine Kr.tPQ 3 (v := ?_) (a' := ?_) rfl (by kernel_rfl) (fun _ _ _ h => h) (by rfl) (fun _ => ⟨(H.at 0 rfl), trivial⟩) (fun wx => ?_) ?_ ?_; rotate_left 2; (focus (go_simp; first | done | rfl)); (focus ((try simp only [Kr.PT]); first | done | rfl)))
  (refine Kr.tSQ 4 [] (v := .slice p n c) (a' := ?_) rfl (by kernel_rfl) (fun _ _ _ h => h) (by rfl) ⟨(H.at 0 rfl), trivial⟩ (fun wx hSx => ?_) ?_ ?_; rotate_left 1; (focus (exact Kr.valOf rfl (ldSl (rowCell (j := 0) hSx.1 rfl)))); (focus ((try simp only [Kr.PT]); first | done | rfl)))
  (refine Kr.tPQ 5 (v := .int .i64 (n : Int)) (a' := ?_) rfl (by kernel_rfl) (fun _ _ _ h => h) (by rfl) (fun _ => ⟨(H.at 0 rfl), trivial⟩) (fun wx => ?_) ?_ ?_; rotate_left 1; (focus (exact Kr.valOf rfl ((by go_simp)))); (focus ((try simp only [Kr.PT]); first | done | rfl)))
  (refine Kr.tPQ 6 (v := ?_) (a' := ?_) rfl (by kernel_rfl) (fun _ _ _ h => h) (by rfl) (fun _ => ⟨(H.at 0 rfl), trivial⟩) (fun wx => ?_) ?_ ?_; rotate_left 2; (focus (go_simp; first | done | rfl)); (focus ((try simp only [Kr.PT]); first | done | rfl)))
  (refine Kr.tPQ 7 (v := ?_) (a' := ?_) rfl (by kernel_rfl) (fun _ _ _ h => h) (by rfl) (fun _ => ⟨(H.at 0 rfl), trivial⟩) (fun wx => ?_) ?_ ?_; rotate_left 2; (focus (go_simp; first | done | rfl)); (focus ((try simp only [Kr.PT]); first | done | rfl)))
  (refine Kr.tPQ 8 (v := ?_) (a' := ?_) rfl (by kernel_rfl) (fun _ _ _ h => h) (by rfl) (fun _ => ⟨(H.at 0 rfl), trivial⟩) (fun wx => ?_) ?_ ?_; rotate_left 2; (focus (go_simp; first | done | rfl)); (focus ((try simp only [Kr.PT]); first | done | rfl)))
  (refine Kr.tSQ 9 [] (v := .int .i64 (ps : Int)) (a' := ?_) rfl (by kernel_rfl) (fun _ _ _ h => h) (by rfl) ⟨(H.at 0 rfl), trivial⟩ (fun wx hSx => ?_) ?_ ?_; rotate_left 1; (focus (exact Kr.valOf rfl (ldInt (rowCell (j := 1) hSx.1 rfl)))); (focus ((try simp only [Kr.PT]); first | done | rfl)))
  (refine Kr.tPQ 10 (v := .int .i64 df) (a' := ?_) rfl (by kernel_rfl) (fun _ _ _ h => h) (by rfl) (fun _ => ⟨(H.at 0 rfl), trivial⟩) (fun wx => ?_) ?_ ?_; rotate_left 1; (focus (exact Kr.valOf rfl (subI hsub))); (focus ((try simp only [Kr.PT]); first | done | rfl)))
  (refine Kr.tPQ 11 (v := .bool false) (a' := ?_) rfl (by kernel_rfl) (fun _ _ _ h => h) (by rfl) (fun _ => ⟨(H.at 0 rfl), trivial⟩) (fun wx => ?_) ?_ ?_; rotate_left 1; (focus (exact Kr.valOf rfl (gtrI C1))); (focus ((try simp only [Kr.PT]); first | done | rfl)))
  refine Kr.doneL (by kernel_rfl) ?_ _
  have C2 : (!decide (e = 0)) = true := by rw [decide_eq_false he]; rfl
  go_upto_region 3 with fail
  refine Kr.seqStartW ?_
  (refine Kr.seqQ (v := ?_) (a' := ?_) (by rfl) ?_ ?_ ?_; rotate_left 2; (focus (go_simp; first | done | rfl)); (focus ((try simp only [Kr.PT]); first | done | rfl)))
  (refine Kr.seqQ (v := ?_) (a' := ?_) (by rfl) ?_ ?_ ?_; rotate_left 2; (focus (go_simp; first | done | rfl)); (focus ((try simp only [Kr.PT]); first | done | rfl)))
  (refine Kr.seqQ (v := .pointer (some ⟨br, 2, none⟩)) (a' := ?_) (by rfl) ?_ ?_ ?_; rotate_left 1; (focus (go_simp; first | done | rfl)); (focus ((try simp only [Kr.PT]); first | done | rfl)))
  (refine Kr.seqQ (v := .int .i64 e) (a' := ?_) (by rfl) ?_ ?_ ?_; rotate_left 1; (focus (exact Kr.valOf rfl (ldErr (rowCell (j := 2) (H.at 0 rfl) rfl)))); (focus ((try simp only [Kr.PT]); first | done | rfl)))
  (refine Kr.seqQ (v := .bool true) (a' := ?_) (by rfl) ?_ ?_ ?_; rotate_left 1; (focus (exact Kr.valOf rfl (neqI C2))); (focus ((try simp only [Kr.PT]); first | done | rfl)))
  refine Kr.seqDoneW ?_
  go_upto_region 4 with fail
  refine Kr.seqStartW ?_
  (refine Kr.seqQ (v := ?_) (a' := ?_) (by rfl) ?_ ?_ ?_; rotate_left 2; (focus (go_simp; first | done | rfl)); (focus ((try simp only [Kr.PT]); first | done | rfl)))
  refine Kr.seqDoneW ?_
  have hk := trivial
  go_wp2
  refine bodyPost_ret (v := .slice none 0 0) (by simp [results, Tryd.results49, go_sem, hk]) rfl ⟨rfl, H.at 0 rfl, H.g⟩
set_option linter.unusedSimpArgs false in
set_option maxRecDepth 100000 in
set_option maxHeartbeats 16000000 in
theorem take_ok {w : World} {br b off n c ps k : Nat} (hr : w.heap[br]? = some (.cells (rdr (.slice (some ⟨b, off, none⟩) n c) (ps : Int) 0).toArray 60 (0, 0))) (hn : n ≤ 1000000) (hc : n ≤ c) (hk : ps + k ≤ n) :
    Calls Tryd.prog 49 #[.pointer (some ⟨br, 0, none⟩), .int .i64 (k : Int)] w fun o w' => o = .returned (.slice (some (cutA b off c ps)) k (c - ps)) ∧ w'.heap[br]? = some (.cells (rdr (.slice (some ⟨b, off, none⟩) n c) ((ps + k : Nat) : Int) 0).toArray 60 (0, 0)) ∧ GrX br w w' := by
  have hps2 : ps ≤ n := by omega
  obtain ⟨p2, hp2⟩ : ∃ z, ps + k = z := ⟨_, rfl⟩; have hadd : IntKind.i64.wrap ((ps : Int) + (k : Int)) = (p2 : Int) := wrap_nat (by omega) (by omega)
  have HP2 := Lib.hid hp2; rw [hp2] at hk; have hp2b : p2 ≤ 1000000 := by omega
  obtain ⟨pp, hpp⟩ : ∃ z, cutA b off c ps = z := ⟨_, rfl⟩; have hslc : ∀ w : World, (Instr.sliceAt 22 (.slice (some ⟨b, off, none⟩) n c) (some (.int .i64 (ps : Int))) (some (.int .i64 (p2 : Int))) none).run Tryd.prog w = .ok (.slice (some pp) k (c - ps)) w := fun w => by rw [← hpp]; exact slAB HP2.out (by omega) (by omega)
  rw [hp2, hpp]; have HSL := Lib.hid hslc; clear hp2 hpp hslc
  have H := OwX.start hr
  go_enter Tryd.func49, Tryd.ntmps49
  go_upto_region 0 with fail
  refine Kr.seqStartW ?_
  (refine Kr.seqQ (v := ?_) (a' := ?_) (by rfl) ?_ ?_ ?_; rotate_left 2; (focus (go_simp; first | done | rfl)); (focus ((try simp only [Kr.PT]); first | done | rfl)))
  refine Kr.seqDoneW ?_
  obtain ⟨df, hdf⟩ : ∃ z : Int, (n : Int) - (ps : Int) = z := ⟨_, rfl⟩; have hsub : IntKind.i64.wrap ((n : Int) - (ps : Int)) = df := by rw [hdf]; exact IntWalk.i64_in _ (by omega)
  have C1 : decide (df < (k : Int)) = false := decide_eq_false (by have := HP2.out; omega)
  have HDF := Lib.hid hdf; clear hdf
  go_upto_region 1 with fail
  refine Kr.startL (fun W' => (W'.heap[br]? = some (.cells (rdr (.slice (some ⟨b, off, none⟩) n c) (ps : Int) 0).toArray 60 (0, 0))) ∧ True) [] (by kernel_rfl) ?_
  have gd : Gr w w.drew := (Gr.refl _).drew
  generalize w.drew = d1 at gd ⊢
  replace H := H.grow gd
  clear gd
  (refine Kr.tPQ 0 (v := ?_) (a' := ?_) rfl (by kernel_rfl) (fun _ _ _ h => h) (by rfl) (fun _ => ⟨(H.at 0 rfl), trivial⟩) (fun wx => ?_) ?_ ?_; rotate_left 2; (focus (go_simp; first | done | rfl)); (focus ((try simp only [Kr.PT]); first | done | rfl)))
  (refine Kr.tPQ 1 (v := ?_) (a' := ?_) rfl (by kernel_rfl) (fun _ _ _ h => h) (by rfl) (fun _ => ⟨(H.at 0 rfl), trivial⟩) (fun wx => ?_) ?_ ?_; rotate_left 2; (focus (go_simp; first | done | rfl)); (focus ((try simp only [Kr.PT]); first | done | rfl)))
  (refine Kr.tPQ 2 (v := ?_) (a' := ?_) rfl (by kernel_rfl) (fun _ _ _ h => h) (by rfl) (fun _ => ⟨(H.at 0 rfl), trivial⟩) (fun wx => ?_) ?_ ?_; rotate_left 2; (focus (go_simp; first | done | rfl)); (focus ((try simp only [Kr.PT]); first | done | rfl)))
  (refine Kr.tPQ 3 (v := ?_) (a' := ?_) rfl (by kernel_rfl) (fun _ _ _ h => h) (by rfl) (fun _ => ⟨(H.at 0 rfl), trivial⟩) (fun wx => ?_) ?_ ?_; rotate_left 2; (focus (go_simp; first | done | rfl)); (focus ((try simp only [Kr.PT]); first | done | rfl)))
  (refine Kr.tSQ 4 [] (v := .slice (some ⟨b, off, none⟩) n c) (a' := ?_) rfl (by kernel_rfl) (fun _ _ _ h => h) (by rfl) ⟨(H.at 0 rfl), trivial⟩ (fun wx hSx => ?_) ?_ ?_; rotate_left 1; (focus (exact Kr.valOf rfl (ldSl (rowCell (j := 0) hSx.1 rfl)))); (focus ((try simp only [Kr.PT]); first | done | rfl)))
  (refine Kr.tPQ 5 (v := .int .i64 (n : Int)) (a' := ?_) rfl (by kernel_rfl) (fun _ _ _ h => h) (by rfl) (fun _ => ⟨(H.at 0 rfl), trivial⟩) (fun wx => ?_) ?_ ?_; rotate_left 1; (focus (exact Kr.valOf rfl ((by go_simp)))); (focus ((try simp only [Kr.PT]); first | done | rfl)))
  (refine Kr.tPQ 6 (v := ?_) (a' := ?_) rfl (by kernel_rfl) (fun _ _ _ h => h) (by rfl) (fun _ => ⟨(H.at 0 rfl), trivial⟩) (fun wx => ?_) ?_ ?_; rotate_left 2; (focus (go_simp; first | done | rfl)); (focus ((try simp only [Kr.PT]); first | done | rfl)))
  (refine Kr.tPQ 7 (v := ?_) (a' := ?_) rfl (by kernel_rfl) (fun _ _ _ h => h) (by rfl) (fun _ => ⟨(H.at 0 rfl), trivial⟩) (fun wx => ?_) ?_ ?_; rotate_left 2; (focus (go_simp; first | done | rfl)); (focus ((try simp only [Kr.PT]); first | done | rfl)))
  (refine Kr.tPQ 8 (v := ?_) (a' := ?_) rfl (by kernel_rfl) (fun _ _ _ h => h) (by rfl) (fun _ => ⟨(H.at 0 rfl), trivial⟩) (fun wx => ?_) ?_ ?_; rotate_left 2; (focus (go_simp; first | done | rfl)); (focus ((try simp only [Kr.PT]); first | done | rfl)))
  (refine Kr.tSQ 9 [] (v := .int .i64 (ps : Int)) (a' := ?_) rfl (by kernel_rfl) (fun _ _ _ h => h) (by rfl) ⟨(H.at 0 rfl), trivial⟩ (fun wx hSx => ?_) ?_ ?_; rotate_left 1; (focus (exact Kr.valOf rfl (ldInt (rowCell (j := 1) hSx.1 rfl)))); (focus ((try simp only [Kr.PT]); first | done | rfl)))
  (refine Kr.tPQ 10 (v := .int .i64 df) (a' := ?_) rfl (by kernel_rfl) (fun _ _ _ h => h) (by rfl) (fun _ => ⟨(H.at 0 rfl), trivial⟩) (fun wx => ?_) ?_ ?_; rotate_left 1; (focus (exact Kr.valOf rfl (subI hsub))); (focus ((try simp only [Kr.PT]); first | done | rfl)))
  (refine Kr.tPQ 11 (v := .bool false) (a' := ?_) rfl (by kernel_rfl) (fun _ _ _ h => h) (by rfl) (fun _ => ⟨(H.at 0 rfl), trivial⟩) (fun wx => ?_) ?_ ?_; rotate_left 1; (focus (exact Kr.valOf rfl (gtrI C1))); (focus ((try simp only [Kr.PT]); first | done | rfl)))
  refine Kr.doneL (by kernel_rfl) ?_ _
  have C2 : (!decide ((0 : Int) = 0)) = false := rfl
  go_upto_region 3 with fail
  refine Kr.seqStartW ?_
  (refine Kr.seqQ (v := ?_) (a' := ?_) (by rfl) ?_ ?_ ?_; rotate_left 2; (focus (go_simp; first | done | rfl)); (focus ((try simp only [Kr.PT]); first | done | rfl)))
  (refine Kr.seqQ (v := ?_) (a' := ?_) (by rfl) ?_ ?_ ?_; rotate_left 2; (focus (go_simp; first | done | rfl)); (focus ((try simp only [Kr.PT]); first | done | rfl)))
  (refine Kr.seqQ (v := .pointer (some ⟨br, 2, none⟩)) (a' := ?_) (by rfl) ?_ ?_ ?_; rotate_left 1; (focus (go_simp; first | done | rfl)); (focus ((try simp only [Kr.PT]); first | done | rfl)))
  (refine Kr.seqQ (v := .int .i64 0) (a' := ?_) (by rfl) ?_ ?_ ?_; rotate_left 1; (focus (exact Kr.valOf rfl (ldErr (rowCell (j := 2) (H.at 0 rfl) rfl)))); (focus ((try simp only [Kr.PT]); first | done | rfl)))
  (refine Kr.seqQ (v := .bool false) (a' := ?_) (by rfl) ?_ ?_ ?_; rotate_left 1; (focus (exact Kr.valOf rfl (neqI C2))); (focus ((try simp only [Kr.PT]); first | done | rfl)))
  refine Kr.seqDoneW ?_
  go_upto_region 5 with fail
  refine Kr.startL (fun W' => (W'.heap[br]? = some (.cells (rdr (.slice (some ⟨b, off, none⟩) n c) (ps : Int) 0).toArray 60 (0, 0))) ∧ True) [] (by kernel_rfl) ?_
  have gd : Gr d1 d1.drew := (Gr.refl _).drew
  generalize d1.drew = d2 at gd ⊢
  replace H := H.grow gd
  clear gd
  (refine Kr.tPQ 0 (v := ?_) (a' := ?_) rfl (by kernel_rfl) (fun _ _ _ h => h) (by rfl) (fun _ => ⟨(H.at 0 rfl), trivial⟩) (fun wx => ?_) ?_ ?_; rotate_left 2; (focus (go_simp; first | done | rfl)); (focus ((try simp only [Kr.PT]); first | done | rfl)))
  (refine Kr.tPQ 1 (v := ?_) (a' := ?_) rfl (by kernel_rfl) (fun _ _ _ h => h) (by rfl) (fun _ => ⟨(H.at 0 rfl), trivial⟩) (fun wx => ?_) ?_ ?_; rotate_left 2; (focus (go_simp; first | done | rfl)); (focus ((try simp only [Kr.PT]); first | done | rfl)))
  (refine Kr.tPQ 2 (v := ?_) (a' := ?_) rfl (by kernel_rfl) (fun _ _ _ h => h) (by rfl) (fun _ => ⟨(H.at 0 rfl), trivial⟩) (fun wx => ?_) ?_ ?_; rotate_left 2; (focus (go_simp; first | done | rfl)); (focus ((try simp only [Kr.PT]); first | done | rfl)))
  (refine Kr.tSQ 3 [] (v := .slice (some ⟨b, off, none⟩) n c) (a' := ?_) rfl (by kernel_rfl) (fun _ _ _ h => h) (by rfl) ⟨(H.at 0 rfl), trivial⟩ (fun wx hSx => ?_) ?_ ?_; rotate_left 1; (focus (exact Kr.valOf rfl (ldSl (rowCell (j := 0) hSx.1 rfl)))); (focus ((try simp only [Kr.PT]); first | done | rfl)))
  (refine Kr.tPQ 4 (v := ?_) (a' := ?_) rfl (by kernel_rfl) (fun _ _ _ h => h) (by rfl) (fun _ => ⟨(H.at 0 rfl), trivial⟩) (fun wx => ?_) ?_ ?_; rotate_left 2; (focus (go_simp; first | done | rfl)); (focus ((try simp only [Kr.PT]); first | done | rfl)))
  (refine Kr.tPQ 5 (v := ?_) (a' := ?_) rfl (by kernel_rfl) (fun _ _ _ h => h) (by rfl) (fun _ => ⟨(H.at 0 rfl), trivial⟩) (fun wx => ?_) ?_ ?_; rotate_left 2; (focus (go_simp; first | done | rfl)); (focus ((try simp only [Kr.PT]); first | done | rfl)))
  (refine Kr.tPQ 6 (v := ?_) (a' := ?_) rfl (by kernel_rfl) (fun _ _ _ h => h) (by rfl) (fun _ => ⟨(H.at 0 rfl), trivial⟩) (fun wx => ?_) ?_ ?_; rotate_left 2; (focus (go_simp; first | done | rfl)); (focus ((try simp only [Kr.PT]); first | done | rfl)))
  (refine Kr.tSQ 7 [] (v := .int .i64 (ps : Int)) (a' := ?_) rfl (by kernel_rfl) (fun _ _ _ h => h) (by rfl) ⟨(H.at 0 rfl), trivial⟩ (fun wx hSx => ?_) ?_ ?_; rotate_left 1; (focus (exact Kr.valOf rfl (ldInt (rowCell (j := 1) hSx.1 rfl)))); (focus ((try simp only [Kr.PT]); first | done | rfl)))
  (refine Kr.tPQ 8 (v := ?_) (a' := ?_) rfl (by kernel_rfl) (fun _ _ _ h => h) (by rfl) (fun _ => ⟨(H.at 0 rfl), trivial⟩) (fun wx => ?_) ?_ ?_; rotate_left 2; (focus (go_simp; first | done | rfl)); (focus ((try simp only [Kr.PT]); first | done | rfl)))
  (refine Kr.tPQ 9 (v := ?_) (a' := ?_) rfl (by kernel_rfl) (fun _ _ _ h => h) (by rfl) (fun _ => ⟨(H.at 0 rfl), trivial⟩) (fun wx => ?_) ?_ ?_; rotate_left 2; (focus (go_simp; first | done | rfl)); (focus ((try simp only [Kr.PT]); first | done | rfl)))
  (refine Kr.tPQ 10 (v := ?_) (a' := ?_) rfl (by kernel_rfl) (fun _ _ _ h => h) (by rfl) (fun _ => ⟨(H.at 0 rfl), trivial⟩) (fun wx => ?_) ?_ ?_; rotate_left 2; (focus (go_simp; first | done | rfl)); (focus ((try simp only [Kr.PT]); first | done | rfl)))
  (refine Kr.tSQ 11 [] (v := .int .i64 (ps : Int)) (a' := ?_) rfl (by kernel_rfl) (fun _ _ _ h => h) (by rfl) ⟨(H.at 0 rfl), trivial⟩ (fun wx hSx => ?_) ?_ ?_; rotate_left 1; (focus (exact Kr.valOf rfl (ldInt (rowCell (j := 1) hSx.1 rfl)))); (focus ((try simp only [Kr.PT]); first | done | rfl)))
  (refine Kr.tPQ 12 (v := ?_) (a' := ?_) rfl (by kernel_rfl) (fun _ _ _ h => h) (by rfl) (fun _ => ⟨(H.at 0 rfl), trivial⟩) (fun wx => ?_) ?_ ?_; rotate_left 2; (focus (go_simp; first | done | rfl)); (focus ((try simp only [Kr.PT]); first | done | rfl)))
  (refine Kr.tPQ 13 (v := .int .i64 (p2 : Int)) (a' := ?_) rfl (by kernel_rfl) (fun _ _ _ h => h) (by rfl) (fun _ => ⟨(H.at 0 rfl), trivial⟩) (fun wx => ?_) ?_ ?_; rotate_left 1; (focus (exact Kr.valOf rfl (addI hadd))); (focus ((try simp only [Kr.PT]); first | done | rfl)))
  (refine Kr.tPQ 14 (v := .slice (some pp) k (c - ps)) (a' := ?_) rfl (by kernel_rfl) (fun _ _ _ h => h) (by rfl) (fun _ => ⟨(H.at 0 rfl), trivial⟩) (fun wx => ?_) ?_ ?_; rotate_left 1; (focus (exact Kr.valOf rfl (HSL.out _))); (focus ((try simp only [Kr.PT]); first | done | rfl)))
  (refine Kr.tPQ 15 (v := ?_) (a' := ?_) rfl (by kernel_rfl) (fun _ _ _ h => h) (by rfl) (fun _ => ⟨(H.at 0 rfl), trivial⟩) (fun wx => ?_) ?_ ?_; rotate_left 2; (focus (go_simp; first | done | rfl)); (focus ((try simp only [Kr.PT]); first | done | rfl)))
  refine Kr.doneL (by kernel_rfl) ?_ _
  go_upto_region 6 with fail
  refine Kr.seqStartW ?_
  (refine Kr.seqQ (v := ?_) (a' := ?_) (by rfl) ?_ ?_ ?_; rotate_left 2; (focus (go_simp; first | done | rfl)); (focus ((try simp only [Kr.PT]); first | done | rfl)))
  (refine Kr.seqQ (v := ?_) (a' := ?_) (by rfl) ?_ ?_ ?_; rotate_left 2; (focus (go_simp; first | done | rfl)); (focus ((try simp only [Kr.PT]); first | done | rfl)))
  (refine Kr.seqQ (v := .pointer (some ⟨br, 1, none⟩)) (a' := ?_) (by rfl) ?_ ?_ ?_; rotate_left 1; (focus (go_simp; first | done | rfl)); (focus ((try simp only [Kr.PT]); first | done | rfl)))
  (refine Kr.seqQ (v := .int .i64 (ps : Int)) (a' := ?_) (by rfl) ?_ ?_ ?_; rotate_left 1; (focus (exact Kr.valOf rfl (ldInt (rowCell (j := 1) (H.at 0 rfl) rfl)))); (focus ((try simp only [Kr.PT]); first | done | rfl)))
  (refine Kr.seqQ (v := ?_) (a' := ?_) (by rfl) ?_ ?_ ?_; rotate_left 2; (focus (go_simp; first | done | rfl)); (focus ((try simp only [Kr.PT]); first | done | rfl)))
  (refine Kr.seqQ (v := .int .i64 (p2 : Int)) (a' := ?_) (by rfl) ?_ ?_ ?_; rotate_left 1; (focus (exact Kr.valOf rfl (addI hadd))); (focus ((try simp only [Kr.PT]); first | done | rfl)))
  (refine Kr.seqQ (v := ?_) (a' := ?_) (by rfl) ?_ ?_ ?_; rotate_left 2; (focus (go_simp; first | done | rfl)); (focus ((try simp only [Kr.PT]); first | done | rfl)))
  (refine Kr.seqQ (v := .pointer (some ⟨br, 1, none⟩)) (a' := ?_) (by rfl) ?_ ?_ ?_; rotate_left 1; (focus (go_simp; first | done | rfl)); (focus ((try simp only [Kr.PT]); first | done | rfl)))
  refine Kr.seqR (by rfl) (fun K hK => ?_)
  refine wp_run rfl (stInt (H.cell 0 rfl (show _ = some _ from rfl)) (H.frozen 0 rfl 1)) ?_
  obtain ⟨y3, hy⟩ : ∃ y, d2.setCell ⟨br, 1, none⟩ (.int .i64 (p2 : Int)) = y := ⟨_, rfl⟩; rw [hy]
  replace H := H.set 0 1 hy rfl; dsimp only [List.set] at H; clear hy
  rw [show (rdr (.slice (some ⟨b, off, none⟩) n c) (ps : Int) 0).set 1 (.int .i64 (p2 : Int)) = rdr (.slice (some ⟨b, off, none⟩) n c) (p2 : Int) 0 from rfl] at H
  (refine Kr.outS hK (a' := ?_) ?_ ?_; rotate_left; (focus ((try simp only [Kr.PT]); first | done | rfl))); clear hK K
  refine Kr.seqDoneW ?_
  go_upto_region 7 with fail
  refine Kr.seqStartW ?_
  (refine Kr.seqQ (v := ?_) (a' := ?_) (by rfl) ?_ ?_ ?_; rotate_left 2; (focus (go_simp; first | done | rfl)); (focus ((try simp only [Kr.PT]); first | done | rfl)))
  (refine Kr.seqQ (v := ?_) (a' := ?_) (by rfl) ?_ ?_ ?_; rotate_left 2; (focus (go_simp; first | done | rfl)); (focus ((try simp only [Kr.PT]); first | done | rfl)))
  refine Kr.seqDoneW ?_
  have hk := trivial
  go_wp2
  refine bodyPost_ret (v := .slice (some pp) k (c - ps)) (by simp [results, Tryd.results49, go_sem, hk]) rfl ⟨rfl, H.at 0 rfl, H.g⟩
end Go.Proofs.YtcngcdfngifjnaaDoor.Dg


/- The reader: number. -/
namespace Go.Proofs.YtcngcdfngifjnaaDoor.Dg
open Go Go.RowKit Go.Proofs.YtcngcdfngifjnaaDoor.Ne Go.Proofs.YtcngcdfngifjnaaDoor.Kr

set_option linter.unusedSimpArgs false in
set_option maxRecDepth 100000 in
set_option maxHeartbeats 16000000 in
theorem number_end {w : World} {br : Nat} {p : Option Addr} {n c ps m : Nat} (hr : w.heap[br]? = some (.cells (rdr (.slice p n c) (ps : Int) 0).toArray 60 (0, 0))) (hn : n ≤ 1000000) (hps : ps ≤ n) (hk : n < ps + m) :
    Calls Tryd.prog 48 #[.pointer (some ⟨br, 0, none⟩), .int .i64 (m : Int)] w fun o w' => o = .returned (.int .i64 0) ∧ w'.heap[br]? = some (.cells (rdr (.slice p n c) (ps : Int) 4).toArray 60 (0, 0)) ∧ GrX br w w' := by
  have H := OwX.start hr
  go_enter Tryd.func48, Tryd.ntmps48
  go_upto_region 0 with fail
  refine Kr.seqStartW ?_
  (refine Kr.seqQ (v := ?_) (a' := ?_) (by rfl) ?_ ?_ ?_; rotate_left 2; (focus (go_simp; first | done | rfl)); (focus ((try simp only [Kr.PT]); first | done | rfl)))
  refine Kr.seqDoneW ?_
  go_upto_region 1 with fail
  refine Kr.seqStartW ?_
  (refine Kr.seqQ (v := ?_) (a' := ?_) (by rfl) ?_ ?_ ?_; rotate_left 2; (focus (go_simp; first | done | rfl)); (focus ((try simp only [Kr.PT]); first | done | rfl)))
  refine Kr.seqDoneW ?_
  go_upto_region 2 with fail
  refine Kr.seqStartW ?_
  (refine Kr.seqQ (v := ?_) (a' := ?_) (by rfl) ?_ ?_ ?_; rotate_left 2; (focus (go_simp; first | done | rfl)); (focus ((try simp only [Kr.PT]); first | done | rfl)))
  (refine Kr.seqQ (v := ?_) (a' := ?_) (by rfl) ?_ ?_ ?_; rotate_left 2; (focus (go_simp; first | done | rfl)); (focus ((try simp only [Kr.PT]); first | done | rfl)))
  refine Kr.seqR (by rfl) (fun K hK => ?_)
  go_simp
  go_at_call 49
  refine (take_end (k := m) (H.at 0 rfl) hn hps hk).mono ?_
  rintro o9 y1 ⟨rfl, hh, hg⟩
  replace H := H.call 0 rfl hg hh; dsimp only [List.set] at H; clear hh hg
  (refine Kr.outS hK (a' := ?_) ?_ ?_; rotate_left; (focus ((try simp only [Kr.PT]); first | done | rfl))); clear hK K
  (refine Kr.seqQ (v := .int .i64 0) (a' := ?_) (by rfl) ?_ ?_ ?_; rotate_left 1; (focus (exact Kr.valOf rfl ((by go_simp)))); (focus ((try simp only [Kr.PT]); first | done | rfl)))
  (refine Kr.seqQ (v := ?_) (a' := ?_) (by rfl) ?_ ?_ ?_; rotate_left 2; (focus (go_simp; first | done | rfl)); (focus ((try simp only [Kr.PT]); first | done | rfl)))
  refine Kr.seqDoneW ?_
  have H2 := Lib.hid H; clear H
  go_wp2_with fail
  go_loopw [5, 12] (fun nv iv wr => iv = .int .i64 0 ∧ nv = .int .i64 0 ∧ Hid (OwX br w wr [(br, 60, rdr (.slice p n c) (ps : Int) 4)])) (fun _ _ _ => 0)
  case atStart => exact ⟨rfl, rfl, H2⟩
  case round =>
    clear H2; obtain ⟨rfl, rfl, HH⟩ := hrel; have H := HH.out; clear HH
    have C3 : decide ((0 : Int) < 0) = false := decide_eq_false (by omega)
    go_upto_region 3 with fail
    refine Kr.seqStartW ?_
    (refine Kr.seqQ (v := .bool false) (a' := ?_) (by rfl) ?_ ?_ ?_; rotate_left 1; (focus (exact Kr.valOf rfl (lssT C3))); (focus ((try simp only [Kr.PT]); first | done | rfl)))
    refine Kr.seqDoneW ?_
    go_upto_region 7 with fail
    refine Kr.seqStartW ?_
    (refine Kr.seqQ (v := ?_) (a' := ?_) (by rfl) ?_ ?_ ?_; rotate_left 2; (focus (go_simp; first | done | rfl)); (focus ((try simp only [Kr.PT]); first | done | rfl)))
    (refine Kr.seqQ (v := ?_) (a' := ?_) (by rfl) ?_ ?_ ?_; rotate_left 2; (focus (go_simp; first | done | rfl)); (focus ((try simp only [Kr.PT]); first | done | rfl)))
    refine Kr.seqDoneW ?_
    have hk := trivial
    go_wp2
    refine bodyPost_ret (v := .int .i64 0) (by simp [results, Tryd.results48, go_sem, hk]) rfl ⟨rfl, H.at 0 rfl, H.g⟩
set_option linter.unusedSimpArgs false in
set_option maxRecDepth 100000 in
set_option maxHeartbeats 16000000 in
theorem number_ok {w : World} {br b off n c ps m : Nat} {l : List (BitVec 8)} (hr : w.heap[br]? = some (.cells (rdr (.slice (some ⟨b, off, none⟩) n c) (ps : Int) 0).toArray 60 (0, 0))) (hS : SrcB (some ⟨b, off, none⟩) l w) (hO : Off br (some ⟨b, off, none⟩)) (hl : l.length = n) (hn : n ≤ 1000000) (hc : n ≤ c) (hk : ps + m ≤ n) (hm : 1 ≤ m) :
    Calls Tryd.prog 48 #[.pointer (some ⟨br, 0, none⟩), .int .i64 (m : Int)] w fun o w' => o = .returned (.int .i64 (nb ((l.drop ps).take m)).toInt) ∧ w'.heap[br]? = some (.cells (rdr (.slice (some ⟨b, off, none⟩) n c) ((ps + m : Nat) : Int) 0).toArray 60 (0, 0)) ∧ GrX br w w' := by
  have HS := Lib.hid hS; have HO := Lib.hid hO; clear hS hO
  obtain ⟨q, hq⟩ : ∃ z, (l.drop ps).take m = z := ⟨_, rfl⟩; rw [hq]; have hql : q.length = m := by rw [← hq, List.length_take, List.length_drop]; omega
  have HQ := Lib.hid hq; clear hq
  obtain ⟨b2, off2, hcut, hb2⟩ := src_some (HQ.out ▸ srcB_cut HS.out hl hc hk : SrcB (some (cutA b off c ps)) q w) (by omega)
  have hoc := off_cut (off := off) (c := c) (a := ps) HO.out; rw [hcut] at hoc; have HCUT := Lib.hid (Option.some.inj hcut); have HBQ := Lib.hid (show SrcB (some ⟨b2, off2, none⟩) q w from .inr ⟨b2, off2, rfl, hb2⟩); have HOC := Lib.hid hoc; clear hcut hb2 hoc
  have H := OwX.start hr
  go_enter Tryd.func48, Tryd.ntmps48
  go_upto_region 0 with fail
  refine Kr.seqStartW ?_
  (refine Kr.seqQ (v := ?_) (a' := ?_) (by rfl) ?_ ?_ ?_; rotate_left 2; (focus (go_simp; first | done | rfl)); (focus ((try simp only [Kr.PT]); first | done | rfl)))
  refine Kr.seqDoneW ?_
  go_upto_region 1 with fail
  refine Kr.seqStartW ?_
  (refine Kr.seqQ (v := ?_) (a' := ?_) (by rfl) ?_ ?_ ?_; rotate_left 2; (focus (go_simp; first | done | rfl)); (focus ((try simp only [Kr.PT]); first | done | rfl)))
  refine Kr.seqDoneW ?_
  go_upto_region 2 with fail
  refine Kr.seqStartW ?_
  (refine Kr.seqQ (v := ?_) (a' := ?_) (by rfl) ?_ ?_ ?_; rotate_left 2; (focus (go_simp; first | done | rfl)); (focus ((try simp only [Kr.PT]); first | done | rfl)))
  (refine Kr.seqQ (v := ?_) (a' := ?_) (by rfl) ?_ ?_ ?_; rotate_left 2; (focus (go_simp; first | done | rfl)); (focus ((try simp only [Kr.PT]); first | done | rfl)))
  refine Kr.seqR (by rfl) (fun K hK => ?_)
  go_simp
  go_at_call 49
  refine (take_ok (k := m) (H.at 0 rfl) hn hc hk).mono ?_
  rintro o9 y1 ⟨rfl, hh, hg⟩
  rw [HCUT.out]
  replace H := H.call 0 rfl hg hh; dsimp only [List.set] at H; clear hh hg
  (refine Kr.outS hK (a' := ?_) ?_ ?_; rotate_left; (focus ((try simp only [Kr.PT]); first | done | rfl))); clear hK K
  (refine Kr.seqQ (v := .int .i64 (m : Int)) (a' := ?_) (by rfl) ?_ ?_ ?_; rotate_left 1; (focus (exact Kr.valOf rfl ((by go_simp)))); (focus ((try simp only [Kr.PT]); first | done | rfl)))
  (refine Kr.seqQ (v := ?_) (a' := ?_) (by rfl) ?_ ?_ ?_; rotate_left 2; (focus (go_simp; first | done | rfl)); (focus ((try simp only [Kr.PT]); first | done | rfl)))
  refine Kr.seqDoneW ?_
  have H2 := Lib.hid H; clear H
  go_wp2_with fail
  go_loopw [5, 12] (fun nv iv wr => ∃ (j : Nat), j ≤ m ∧ iv = .int .i64 (j : Int) ∧ nv = .int .i64 (nb (q.take j)).toInt ∧ Hid (OwX br w wr [(br, 60, rdr (.slice (some ⟨b, off, none⟩) n c) ((ps + m : Nat) : Int) 0)])) (fun _ iv _ => (m - (intOf iv).toNat))
  case atStart => exact ⟨0, by omega, rfl, rfl, H2⟩
  case round =>
    clear H2; obtain ⟨j, hj, rfl, rfl, HH⟩ := hrel; have H := HH.out; clear HH
    by_cases hje : j = m
    · have C3 : decide ((j : Int) < (m : Int)) = false := decide_eq_false (by omega)
      rw [show q.take j = q from List.take_of_length_le (by omega)]; clear hje
      go_upto_region 3 with fail
      refine Kr.seqStartW ?_
      (refine Kr.seqQ (v := .bool false) (a' := ?_) (by rfl) ?_ ?_ ?_; rotate_left 1; (focus (exact Kr.valOf rfl (lssT C3))); (focus ((try simp only [Kr.PT]); first | done | rfl)))
      refine Kr.seqDoneW ?_
      go_upto_region 7 with fail
      refine Kr.seqStartW ?_
      (refine Kr.seqQ (v := ?_) (a' := ?_) (by rfl) ?_ ?_ ?_; rotate_left 2; (focus (go_simp; first | done | rfl)); (focus ((try simp only [Kr.PT]); first | done | rfl)))
      (refine Kr.seqQ (v := ?_) (a' := ?_) (by rfl) ?_ ?_ ?_; rotate_left 2; (focus (go_simp; first | done | rfl)); (focus ((try simp only [Kr.PT]); first | done | rfl)))
      refine Kr.seqDoneW ?_
      have hk := trivial
      go_wp2
      refine bodyPost_ret (v := .int .i64 (nb q).toInt) (by simp [results, Tryd.results48, go_sem, hk]) rfl ⟨rfl, H.at 0 rfl, H.g⟩
    · have hjl : j < m := by omega
      have C3 : decide ((j : Int) < (m : Int)) = true := decide_eq_true (by omega)
      obtain ⟨x, hx⟩ : ∃ x, q[j]? = some x := ⟨_, List.getElem?_eq_getElem (by omega)⟩
      have HNB := Lib.hid (nb_snoc hx); have HXC : Hid (∀ W, GrX br w W → W.cell? ⟨b2, off2 + j, none⟩ = some (w8 x)) := Lib.hid (fun W g => by
        obtain ⟨b3, o3, e3, h3⟩ := src_some (HBQ.out.growX HOC.out g) (by omega)
        cases e3; exact h3 j x hx)
      obtain ⟨a0, ha0⟩ : ∃ z, nb (q.take j) = z := ⟨_, rfl⟩; rw [ha0] at HNB ⊢; clear hx ha0 hje
      obtain ⟨a1, ha1⟩ : ∃ z, a0 <<< 8 = z := ⟨_, rfl⟩; rw [ha1] at HNB; obtain ⟨a2, ha2⟩ : ∃ z, a1 ||| x.setWidth 64 = z := ⟨_, rfl⟩; rw [ha2] at HNB
      go_upto_region 3 with fail
      refine Kr.seqStartW ?_
      (refine Kr.seqQ (v := .bool true) (a' := ?_) (by rfl) ?_ ?_ ?_; rotate_left 1; (focus (exact Kr.valOf rfl (lssT C3))); (focus ((try simp only [Kr.PT]); first | done | rfl)))
      refine Kr.seqDoneW ?_
      go_upto_region 4 with fail
      refine Kr.seqStartW ?_
      (refine Kr.seqQ (v := .pointer (some ⟨b2, off2 + j, none⟩)) (a' := ?_) (by rfl) ?_ ?_ ?_; rotate_left 1; (focus (exact Kr.valOf rfl (ixB hjl))); (focus ((try simp only [Kr.PT]); first | done | rfl)))
      (refine Kr.seqQ (v := .int .u8 ((x).toNat : Int)) (a' := ?_) (by rfl) ?_ ?_ ?_; rotate_left 1; (focus (exact Kr.valOf rfl (ldE8 (HXC.out _ H.g)))); (focus ((try simp only [Kr.PT]); first | done | rfl)))
      (refine Kr.seqQ (v := ?_) (a' := ?_) (by rfl) ?_ ?_ ?_; rotate_left 2; (focus (go_simp; first | done | rfl)); (focus ((try simp only [Kr.PT]); first | done | rfl)))
      refine Kr.seqDoneW ?_
      go_upto_region 5 with fail
      refine Kr.seqStartW ?_
      (refine Kr.seqQ (v := ?_) (a' := ?_) (by rfl) ?_ ?_ ?_; rotate_left 2; (focus (go_simp; first | done | rfl)); (focus ((try simp only [Kr.PT]); first | done | rfl)))
      (refine Kr.seqQ (v := .int .i64 a1.toInt) (a' := ?_) (by rfl) ?_ ?_ ?_; rotate_left 1; (focus (exact Kr.valOf rfl (shl8Z ha1))); (focus ((try simp only [Kr.PT]); first | done | rfl)))
      (refine Kr.seqQ (v := ?_) (a' := ?_) (by rfl) ?_ ?_ ?_; rotate_left 2; (focus (go_simp; first | done | rfl)); (focus ((try simp only [Kr.PT]); first | done | rfl)))
      (refine Kr.seqQ (v := .int .i64 (x.toNat : Int)) (a' := ?_) (by rfl) ?_ ?_ ?_; rotate_left 1; (focus (exact Kr.valOf rfl (cvB8))); (focus ((try simp only [Kr.PT]); first | done | rfl)))
      (refine Kr.seqQ (v := .int .i64 a2.toInt) (a' := ?_) (by rfl) ?_ ?_ ?_; rotate_left 1; (focus (exact Kr.valOf rfl (orZ ha2))); (focus ((try simp only [Kr.PT]); first | done | rfl)))
      (refine Kr.seqQ (v := ?_) (a' := ?_) (by rfl) ?_ ?_ ?_; rotate_left 2; (focus (go_simp; first | done | rfl)); (focus ((try simp only [Kr.PT]); first | done | rfl)))
      refine Kr.seqDoneW ?_
      have HADD : IntKind.i64.wrap ((j : Int) + 1) = ((j + 1 : Nat) : Int) := wrap_nat (by omega) (by omega)
      go_upto_region 6 with fail
      refine Kr.seqStartW ?_
      (refine Kr.seqQ (v := .int .i64 ((j + 1 : Nat) : Int)) (a' := ?_) (by rfl) ?_ ?_ ?_; rotate_left 1; (focus (exact Kr.valOf rfl (addI HADD))); (focus ((try simp only [Kr.PT]); first | done | rfl)))
      (refine Kr.seqQ (v := ?_) (a' := ?_) (by rfl) ?_ ?_ ?_; rotate_left 2; (focus (go_simp; first | done | rfl)); (focus ((try simp only [Kr.PT]); first | done | rfl)))
      refine Kr.seqDoneW ?_
      go_wp2; go_roundw
      case rel =>
        first
        | exact ⟨j + 1, by omega, rfl, by rw [HNB.out], Lib.hid H⟩
        | (repeat apply Exists.intro); exact ⟨⟨j + 1, by omega, rfl, by rw [HNB.out], Lib.hid H⟩, rfl⟩
        | (repeat apply Exists.intro); refine ⟨⟨j + 1, by omega, rfl, by rw [HNB.out], Lib.hid H⟩, ?_⟩; refine ⟨?_, ?_⟩ <;> (repeat apply And.intro) <;> rfl
      case measure => simp [intOf]; omega
end Go.Proofs.YtcngcdfngifjnaaDoor.Dg


/- Reading, as a function; rows of items that grow. -/
namespace Go.Proofs.YtcngcdfngifjnaaDoor.Dg
open Go Go.RowKit Go.Proofs.YtcngcdfngifjnaaDoor.Ne Go.Proofs.YtcngcdfngifjnaaDoor.Kr

/-- So many items, one behind the other: the items, and how many bytes they take; or an error. -/
def rdl (f : List (BitVec 8) → Except Int (It × Nat)) : Nat → List (BitVec 8) → Except Int (List It × Nat)
  | 0, _ => .ok ([], 0)
  | n + 1, b => match f b with
    | .error e => .error e
    | .ok (x, m) => match rdl f n (b.drop m) with
      | .error e => .error e
      | .ok (xs, m2) => .ok (x :: xs, m + m2)
def sh4 : Except Int (List It × Nat) → Except Int (List It × Nat)
  | .error e => .error e
  | .ok (xs, m) => .ok (xs, 4 + m)
/-- A list behind its first byte. -/
def rdB (f : List (BitVec 8) → Except Int (It × Nat)) (b : List (BitVec 8)) : Except Int (List It × Nat) :=
  if b.length < 4 then .error 4 else if 1000 < (nb (b.take 4)).toNat then .error 3 else sh4 (rdl f (nb (b.take 4)).toNat (b.drop 4))
def rdS (b : List (BitVec 8)) : Except Int (It × Nat) :=
  if b.length < 4 then .error 4 else if (b.drop 4).length < (nb (b.take 4)).toNat then .error 4 else .ok (.mk 2 0 ((b.drop 4).take (nb (b.take 4)).toNat) [], 5 + (nb (b.take 4)).toNat)
def rdN (b : List (BitVec 8)) : Except Int (It × Nat) := if b.length < 8 then .error 4 else .ok (.mk 1 (nb (b.take 8)).toInt [] [], 9)
def sh1 : Except Int (List It × Nat) → Except Int (It × Nat)
  | .error e => .error e
  | .ok (xs, m) => .ok (.mk 3 0 [] xs, 1 + m)
/-- The item at the beginning of some bytes, within so many lists, and how many bytes it takes; or an error. -/
def rd : Nat → List (BitVec 8) → Except Int (It × Nat)
  | _, [] => .error 4
  | 0, k :: b => if k = 1#8 then rdN b else if k = 2#8 then rdS b else .error 3
  | d + 1, k :: b => if k = 1#8 then rdN b else if k = 2#8 then rdS b else if k = 3#8 then sh1 (rdB (rd d) b) else .error 3
def pref (ts : List It) (m : Nat) : Except Int (List It × Nat) → Except Int (List It × Nat)
  | .error e => .error e
  | .ok (xs, m2) => .ok (ts ++ xs, m + m2)
theorem rdl_err {f : List (BitVec 8) → Except Int (It × Nat)} {n : Nat} {b : List (BitVec 8)} {e : Int} (h : f b = .error e) : rdl f (n + 1) b = .error e := by rw [rdl, h]
theorem rdl_ok {f : List (BitVec 8) → Except Int (It × Nat)} {n m : Nat} {b : List (BitVec 8)} {x : It} (h : f b = .ok (x, m)) : rdl f (n + 1) b = pref [x] m (rdl f n (b.drop m)) := by
  rw [rdl, h]
  dsimp only
  generalize rdl f n (b.drop m) = r
  cases r <;> rfl
theorem pref_pref (ts us : List It) (m k : Nat) (r : Except Int (List It × Nat)) : pref ts m (pref us k r) = pref (ts ++ us) (m + k) r := by
  cases r with
  | error e => rfl
  | ok r => simp [pref, List.append_assoc, Nat.add_assoc]
/-- What a call says of an item. -/
def Out (r : Except Int (It × Nat)) (ps ps2 : Nat) (e : Int) (P : It → Prop) : Prop :=
  match r with
  | .ok (t, m) => e = 0 ∧ ps2 = ps + m ∧ P t
  | .error c => e = c ∧ c ≠ 0
def OutL (r : Except Int (List It × Nat)) (ps ps2 : Nat) (e : Int) (P : List It → Prop) : Prop :=
  match r with
  | .ok (t, m) => e = 0 ∧ ps2 = ps + m ∧ P t
  | .error c => e = c ∧ c ≠ 0
/-- The items of a slice. -/
def LsV (W : World) (d : Nat) (F : Nat → Prop) (pl : Option Addr) (ts : List It) : Prop :=
  ∀ (j : Nat) (x : It), ts[j]? = some x → ∃ (b off : Nat) (v0 v1 v2 v3 : Value), pl = some ⟨b, off, none⟩ ∧ F b ∧ W.cell? ⟨b, off + j * 4, none⟩ = some v0 ∧ W.cell? ⟨b, off + j * 4 + 1, none⟩ = some v1 ∧ W.cell? ⟨b, off + j * 4 + 2, none⟩ = some v2 ∧ W.cell? ⟨b, off + j * 4 + 3, none⟩ = some v3 ∧ ItV W d F (.agg #[v0, v1, v2, v3]) x
theorem LsV.kept {W W' : World} {d : Nat} {F : Nat → Prop} {pl : Option Addr} {ts : List It} (h : LsV W d F pl ts) (g : ∀ b, F b → W'.heap[b]? = W.heap[b]?) : LsV W' d F pl ts := fun j x hx => by
  obtain ⟨b, off, v0, v1, v2, v3, e, f, c0, c1, c2, c3, h⟩ := h j x hx
  exact ⟨b, off, v0, v1, v2, v3, e, f, (World.cell?_of_block (a := ⟨b, off + j * 4, none⟩) (g b f)).trans c0, (World.cell?_of_block (a := ⟨b, off + j * 4 + 1, none⟩) (g b f)).trans c1, (World.cell?_of_block (a := ⟨b, off + j * 4 + 2, none⟩) (g b f)).trans c2, (World.cell?_of_block (a := ⟨b, off + j * 4 + 3, none⟩) (g b f)).trans c3, h.kept g⟩
theorem LsV.mono {W : World} {d : Nat} {F G : Nat → Prop} {pl : Option Addr} {ts : List It} (h : LsV W d F pl ts) (g : ∀ b, F b → G b) : LsV W d G pl ts := fun j x hx => by
  obtain ⟨b, off, v0, v1, v2, v3, e, f, c0, c1, c2, c3, h⟩ := h j x hx
  exact ⟨b, off, v0, v1, v2, v3, e, g b f, c0, c1, c2, c3, h.mono g⟩
/-- The items read so far: a row of one's own, and the blocks of the items. -/
def Kids (w W : World) (d : Nat) (v : Value) (xs : List Value) (ts : List It) : Prop :=
  ∃ G : Nat → Prop, (∀ b, G b → w.heap.size ≤ b ∧ b < W.heap.size ∧ v.ownBlock ≠ some b) ∧
    ∀ j x, ts[j]? = some x → ∃ v0 v1 v2 v3, xs[j * 4]? = some v0 ∧ xs[j * 4 + 1]? = some v1 ∧ xs[j * 4 + 2]? = some v2 ∧ xs[j * 4 + 3]? = some v3 ∧ ItV W d G (.agg #[v0, v1, v2, v3]) x
theorem Kids.kept {w W W' : World} {d : Nat} {v : Value} {xs : List Value} {ts : List It} (h : Kids w W d v xs ts) (hs : W.heap.size ≤ W'.heap.size) (g : ∀ b, w.heap.size ≤ b → b < W.heap.size → v.ownBlock ≠ some b → W'.heap[b]? = W.heap[b]?) : Kids w W' d v xs ts := by
  obtain ⟨G, h1, h2⟩ := h
  refine ⟨G, fun b hb => ⟨(h1 b hb).1, Nat.lt_of_lt_of_le (h1 b hb).2.1 hs, (h1 b hb).2.2⟩, fun j x hx => ?_⟩
  obtain ⟨v0, v1, v2, v3, e0, e1, e2, e3, h⟩ := h2 j x hx
  exact ⟨v0, v1, v2, v3, e0, e1, e2, e3, h.kept (fun b hb => g b (h1 b hb).1 (h1 b hb).2.1 (h1 b hb).2.2)⟩
theorem Kids.lsv {w W : World} {d k : Nat} {v : Value} {xs : List Value} {ts : List It} (h : Kids w W d v xs ts) (ho : W.ownsRow w.heap.size 25 4 v k xs) (hk : ts.length = k) :
    ∃ pl cl, v = .slice pl k cl ∧ (pl = none → cl = 0) ∧ LsV W d (fun b => w.heap.size ≤ b ∧ b < W.heap.size) pl ts := by
  obtain ⟨G, h1, h2⟩ := h
  rcases ho.2 with ⟨e1, e2⟩ | ⟨g, cap, cur, e1, e2, e3, e4, _, _, e7⟩
  · refine ⟨none, 0, by rw [e1, e2], fun _ => rfl, fun j x hx => ?_⟩
    have := (List.getElem?_eq_some_iff.1 hx).1
    omega
  · refine ⟨_, cap, e1, (fun e => by cases e), fun j x hx => ?_⟩
    have hj : j < k := by have := (List.getElem?_eq_some_iff.1 hx).1; omega
    obtain ⟨v0, v1, v2, v3, c0, c1, c2, c3, h⟩ := h2 j x hx
    have hc : ∀ i u, i < k * 4 → xs[i]? = some u → W.cell? ⟨g, 0 + i, none⟩ = some u := fun i u hi hu => by
      rw [Nat.zero_add, cell_of_row W g i cur _ _ e3]
      rw [← e7, List.getElem?_take, if_pos hi] at hu
      simpa using hu
    exact ⟨g, 0, v0, v1, v2, v3, rfl, ⟨e2, lt_of_heap e3⟩, hc _ _ (by omega) c0, hc _ _ (by omega) c1, hc _ _ (by omega) c2, hc _ _ (by omega) c3, h.mono (fun b hb => ⟨(h1 b hb).1, (h1 b hb).2.1⟩)⟩
theorem infoIt : (Tryd.prog.info? 25).map (fun i => (i.zero, i.size)) = some (some (.agg #[.int .i64 0, .int .i64 0, .slice none 0 0, .slice none 0 0]), 4) := by kernel_rfl
theorem infoItB : ∃ i, Tryd.prog.info? 25 = some i ∧ i.zero = some (.agg #[.int .i64 0, .int .i64 0, .slice none 0 0, .slice none 0 0]) ∧ i.size = 4 ∧ i.bytes ≤ 100 := by
  cases hq : Tryd.prog.info? 25 with
  | none => have h := infoIt; rw [hq] at h; cases h
  | some i =>
    have h := infoIt
    rw [hq] at h
    simp only [Option.map_some, Option.some.injEq, Prod.mk.injEq] at h
    refine ⟨i, rfl, h.1, h.2, ?_⟩
    have hb : (Tryd.prog.info? 25).map (fun i => decide (i.bytes ≤ 100)) = some true := by kernel_rfl
    rw [hq] at hb
    simpa using hb
theorem wp_appI {br : Nat} {w W : World} {o : Oper} {a : Act} {K : Act → World → Prop} {Q : Exit → Act → World → Prop} (s x : Operand) (ho : o.op = .call { callee := .builtin .append, args := #[s, x], argTypes := #[23, 23] })
    {v : Value} {k bone : Nat} {xs : List Value} {v0 v1 v2 v3 : Value} {rs : List Blk} (hs : a.eval s = v) (hx : a.eval x = .slice (some ⟨bone, 0, none⟩) 1 1) (hsrc : SrcG (some ⟨bone, 0, none⟩) [v0, v1, v2, v3] W) (h1 : ∀ u ∈ ([v0, v1, v2, v3] : List Value), u.oneCell' = true)
    (H : OwX br w W rs) (HR : W.ownsRow w.heap.size 25 4 v k xs) (HA : Apt v rs) (hb : k ≤ 100000)
    (h : ∀ u W', OwX br w W' rs → W'.ownsRow w.heap.size 25 4 u (k + 1) (xs ++ [v0, v1, v2, v3]) → Apt u rs → W.grownBy W' v.ownBlock → (u.ownBlock = v.ownBlock ∨ u.ownBlock = some W.heap.size) → K (a.put o.dst u) W') : o.wp Tryd.prog a W K Q := by
  obtain ⟨i0, hi0, hz0, hz1, hz2⟩ := infoItB
  have hbytes : (k + 1) * i0.bytes ≤ 140737488355328 := by
    have : (k + 1) * i0.bytes ≤ 100001 * 100 := Nat.mul_le_mul (by omega) hz2
    omega
  obtain ⟨u, W', hr, ho1, hg1, _, hb1⟩ := run_append_own_at (P := Tryd.prog) W w.heap.size 23 o.type 25 i0 _ 4 i0.bytes Tryd.underlying23 hi0 hz0 hz1 rfl (by rfl) (by decide) v k xs HR ⟨bone, 0, none⟩ 1 1 [v0, v1, v2, v3] rfl (fun j u hj => by
    rcases hsrc with h0 | ⟨b, off, e, h2⟩
    · cases h0
    · cases e
      rw [addr_add]; exact h2 j u hj) h1 (by unfold maxLen; omega) hbytes H.g.size
  unfold Oper.wp execOp
  simp only [ho, resolve, invoke, builtin, Sem.run_bind, Sem.run_pure, Result.andThen_ok, List.map_toArray, List.map_cons, List.map_nil, hs, hx, hr]
  refine h u W' (H.grown hg1 (fun k hk => ⟨(World.ownsRow.lt HR k hk).1, HA k hk⟩)) ho1 (fun k hk y hy e => ?_) hg1 hb1
  rcases hb1 with hb1 | hb1
  · rw [hb1] at hk; exact HA k hk y hy e
  · rw [hb1] at hk
    have := H.lt hy
    have e2 := Option.some.inj hk
    omega
/-- One item more. -/
theorem Kids.snoc {w W1 W2 W3 : World} {d k : Nat} {v u : Value} {xs : List Value} {ts : List It} {v0 v1 v2 v3 : Value} {x : It} (h : Kids w W1 d v xs ts) (hk : ts.length = k) (hxs : xs.length = k * 4) (hw : w.heap.size ≤ W1.heap.size) (hv : ∀ b, v.ownBlock = some b → b < W1.heap.size)
    (g12 : ∀ b, w.heap.size ≤ b → b < W1.heap.size → W2.heap[b]? = W1.heap[b]?) (h12 : W1.heap.size ≤ W2.heap.size) (hx : ItV W2 d (fun b => W1.heap.size ≤ b ∧ b < W2.heap.size) (.agg #[v0, v1, v2, v3]) x)
    (g23 : ∀ b, b < W2.heap.size → v.ownBlock ≠ some b → W3.heap[b]? = W2.heap[b]?) (h23 : W2.heap.size ≤ W3.heap.size) (hu : u.ownBlock = v.ownBlock ∨ ∃ b, u.ownBlock = some b ∧ W2.heap.size ≤ b) : Kids w W3 d u (xs ++ [v0, v1, v2, v3]) (ts ++ [x]) := by
  obtain ⟨G, h1, h2⟩ := h
  refine ⟨fun b => G b ∨ (W1.heap.size ≤ b ∧ b < W2.heap.size), fun b hb => ?_, fun j y hy => ?_⟩
  · have hb2 : w.heap.size ≤ b ∧ b < W2.heap.size ∧ v.ownBlock ≠ some b := by
      rcases hb with hb | hb
      · exact ⟨(h1 b hb).1, by have := (h1 b hb).2.1; omega, (h1 b hb).2.2⟩
      · exact ⟨by omega, hb.2, fun e => by have := hv b e; omega⟩
    refine ⟨hb2.1, by omega, fun e => ?_⟩
    rcases hu with hu | ⟨c, hu, hc⟩
    · exact hb2.2.2 (hu ▸ e)
    · rw [hu] at e
      have := Option.some.inj e
      omega
  · rcases Nat.lt_or_ge j ts.length with hj | hj
    · rw [List.getElem?_append_left hj] at hy
      obtain ⟨a0, a1, a2, a3, e0, e1, e2, e3, hi⟩ := h2 j y hy
      have hi2 := (hi.kept (fun b hb => g12 b (h1 b hb).1 (h1 b hb).2.1)).kept (W' := W3) (fun b hb => g23 b (by have := (h1 b hb).2.1; omega) (h1 b hb).2.2)
      exact ⟨a0, a1, a2, a3, by rw [List.getElem?_append_left (by omega)]; exact e0, by rw [List.getElem?_append_left (by omega)]; exact e1, by rw [List.getElem?_append_left (by omega)]; exact e2, by rw [List.getElem?_append_left (by omega)]; exact e3, hi2.mono (fun b hb => .inl hb)⟩
    · have hj2 : j = ts.length := by
        have := (List.getElem?_eq_some_iff.1 hy).1
        rw [List.length_append] at this
        simp at this
        omega
      rw [hj2, List.getElem?_append_right (Nat.le_refl _), Nat.sub_self] at hy
      obtain rfl : x = y := by simpa using hy
      have hi2 := hx.kept (W' := W3) (fun b hb => g23 b hb.2 (fun e => by have := hv b e; omega))
      refine ⟨v0, v1, v2, v3, ?_, ?_, ?_, ?_, hi2.mono (fun b hb => .inr hb)⟩
      · rw [List.getElem?_append_right (by omega), show j * 4 - xs.length = 0 by omega]; rfl
      · rw [List.getElem?_append_right (by omega), show j * 4 + 1 - xs.length = 1 by omega]; rfl
      · rw [List.getElem?_append_right (by omega), show j * 4 + 2 - xs.length = 2 by omega]; rfl
      · rw [List.getElem?_append_right (by omega), show j * 4 + 3 - xs.length = 3 by omega]; rfl

end Go.Proofs.YtcngcdfngifjnaaDoor.Dg
