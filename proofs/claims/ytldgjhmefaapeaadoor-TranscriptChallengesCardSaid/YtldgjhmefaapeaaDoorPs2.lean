/- A part of the proofs, joined of smaller texts: Dc, Dd, De, Df, Dg, Dh, Di, Dj, Dk, Dl, Dm, Dp, Nlaw, Dn, Do, Dr, Du, Dx, Dy, Dz, Ea. -/
import Derived.Test.YtldgjhmefaapeaaDoorPs1
import Derived.Deep.Cut
import Derived.Laws.Rows
import Derived.Laws.MakeOwn
import Derived.Laws.CopyRow
import Derived.Laws.CopyOwn
import Derived.Deep.AppendLies
import Derived.Laws.IdiomStrings
import Derived.Ground.NamesProg
import Derived.Shelf.Lay
import Derived.Shelf.Strings.Prefix
import Derived.Lib.Agree
import Derived.Lib.SlBytesConst
import Derived.Test.YtldgjhmefaapeaaDoorRows
import Derived.ProofKit
import Derived.LaidMore
import Derived.OpenShut
import Derived.Stop.Joined
import Derived.WalkKit
import Derived.OpenVars
import Derived.ChangeSlices
import Derived.Laws.BitsAllLaws
import Derived.Shelf.Small.Strs
import Derived.Lib.BytesEntry
import Derived.Laws.Externs
import Derived.ChangeKeysEq
import Derived.Maps.AppendAt

/- The parts of SHA-256 as functions; words of bytes. -/
namespace Go.Proofs.YtldgjhmefaapeaaDoor.Dg
open Go Go.RowKit Go.Proofs.YtldgjhmefaapeaaDoor.Ne Go.Proofs.YtldgjhmefaapeaaDoor.Kr

/-- A word, a byte as a value. -/
def w32 (x : BitVec 32) : Value := .int .u32 (x.toNat : Int)
def w8 (x : BitVec 8) : Value := .int .u8 (x.toNat : Int)
/-- These bytes lie from off on in block b. -/
def BytesAt (b off : Nat) (l : List (BitVec 8)) (W : World) : Prop := ∀ j x, l[j]? = some x → W.cell? ⟨b, off + j, none⟩ = some (w8 x)
theorem BytesAt.grow {b off : Nat} {l : List (BitVec 8)} {W W' : World} (h : BytesAt b off l W) (g : Gr W W') : BytesAt b off l W' := fun j x e => g.cell (h j x e)
/-- A word of four bytes. -/
def W4 (a b c d : BitVec 8) : BitVec 32 := (((a.setWidth 32 <<< 24) ||| (b.setWidth 32 <<< 16)) ||| (c.setWidth 32 <<< 8)) ||| d.setWidth 32
/-- The word with the index i of bytes. -/
def wordOf (l : List (BitVec 8)) (i : Nat) : BitVec 32 := W4 (l.getD (4 * i) 0) (l.getD (4 * i + 1) 0) (l.getD (4 * i + 2) 0) (l.getD (4 * i + 3) 0)
theorem ixB {w : World} {b off n c j : Nat} (h : j < n) : (Instr.indexAt 46 (.slice (some ⟨b, off, none⟩) n c) (.int .i64 (j : Int))).run Tryd.prog w = .ok (.pointer (some ⟨b, off + j, none⟩)) w := by
  have h1 : (0 : Int) ≤ (j : Int) := by omega
  have h2 : (j : Int) < (n : Int) := by omega
  go_simp
theorem getD_of {α : Type} {l : List α} {j : Nat} {d : α} (h : j < l.length) : l[j]? = some (l.getD j d) := by
  rw [List.getD_eq_getElem?_getD, List.getElem?_eq_getElem h]; rfl
/-- The schedule: its first t words. -/
def nxt (l : List (BitVec 32)) (t : Nat) : BitVec 32 :=
  ((l.getD (t - 16) 0 + (rr (l.getD (t - 15) 0) 7 ^^^ rr (l.getD (t - 15) 0) 18 ^^^ (l.getD (t - 15) 0) >>> 3)) + l.getD (t - 7) 0) + (rr (l.getD (t - 2) 0) 17 ^^^ rr (l.getD (t - 2) 0) 19 ^^^ (l.getD (t - 2) 0) >>> 10)
def sch (m : Nat → BitVec 32) : Nat → List (BitVec 32)
  | 0 => []
  | t + 1 => sch m t ++ [if t < 16 then m t else nxt (sch m t) t]
theorem sch_length (m : Nat → BitVec 32) : ∀ t, (sch m t).length = t
  | 0 => rfl
  | t + 1 => by rw [sch, List.length_append, sch_length m t]; rfl
/-- Words in an array of 64 that is not full. -/
def pad64 (l : List (BitVec 32)) : List Value := l.map w32 ++ List.replicate (64 - l.length) (.int .u32 0)
theorem pad64_nil : pad64 [] = List.replicate 64 (.int .u32 0) := rfl
theorem pad64_length {l : List (BitVec 32)} (h : l.length ≤ 64) : (pad64 l).length = 64 := by
  unfold pad64; rw [List.length_append, List.length_map, List.length_replicate]; omega
theorem pad64_full {l : List (BitVec 32)} (h : l.length = 64) : pad64 l = l.map w32 := by
  unfold pad64; rw [h]; simp
theorem pad64_get {l : List (BitVec 32)} {j : Nat} (h : j < l.length) : (pad64 l)[j]? = some (w32 (l.getD j 0)) := by
  unfold pad64
  rw [List.getElem?_append_left (by rw [List.length_map]; exact h), List.getElem?_map, getD_of (d := 0) h]; rfl
theorem pad64_any {l : List (BitVec 32)} {j : Nat} (hl : l.length ≤ 64) (h : j < 64) : ∃ v, (pad64 l)[j]? = some v := ⟨_, List.getElem?_eq_getElem (by rw [pad64_length hl]; exact h)⟩
theorem pad64_set {l : List (BitVec 32)} {t : Nat} (h : l.length = t) (ht : t < 64) (x : BitVec 32) : (pad64 l).set t (.int .u32 (x.toNat : Int)) = pad64 (l ++ [x]) := by
  subst h
  unfold pad64
  rw [List.set_append_right _ _ (by rw [List.length_map]; exact Nat.le_refl _), List.length_map, Nat.sub_self, List.map_append, List.append_assoc, List.length_append]
  congr 1
  obtain ⟨k, hk⟩ : ∃ k, 64 - l.length = k + 1 := ⟨63 - l.length, by omega⟩
  rw [hk, show 64 - (l.length + [x].length) = k by show 64 - (l.length + 1) = k; omega]
  rfl
theorem oneCell_words (l : List (BitVec 32)) : ∀ v ∈ l.map w32, v.oneCell' = true := by
  intro v hv
  obtain ⟨x, _, rfl⟩ := List.mem_map.1 hv
  rfl
/-- The eight words. -/
structure S8 where
  a : BitVec 32
  b : BitVec 32
  c : BitVec 32
  d : BitVec 32
  e : BitVec 32
  f : BitVec 32
  g : BitVec 32
  h : BitVec 32
def S8.list (s : S8) : List (BitVec 32) := [s.a, s.b, s.c, s.d, s.e, s.f, s.g, s.h]
def T1 (s : S8) (k w : BitVec 32) : BitVec 32 := (((s.h + (rr s.e 6 ^^^ rr s.e 11 ^^^ rr s.e 25)) + ((s.e &&& s.f) ^^^ (~~~s.e &&& s.g))) + k) + w
def T2 (s : S8) : BitVec 32 := (rr s.a 2 ^^^ rr s.a 13 ^^^ rr s.a 22) + (((s.a &&& s.b) ^^^ (s.a &&& s.c)) ^^^ (s.b &&& s.c))
def rnd (s : S8) (k w : BitVec 32) : S8 := ⟨T1 s k w + T2 s, s.a, s.b, s.c, s.d + T1 s k w, s.e, s.f, s.g⟩
/-- The constants. -/
def kc : List (BitVec 32) := [0x428a2f98, 0x71374491, 0xb5c0fbcf, 0xe9b5dba5, 0x3956c25b, 0x59f111f1, 0x923f82a4, 0xab1c5ed5, 0xd807aa98, 0x12835b01, 0x243185be, 0x550c7dc3, 0x72be5d74, 0x80deb1fe, 0x9bdc06a7, 0xc19bf174, 0xe49b69c1, 0xefbe4786, 0x0fc19dc6, 0x240ca1cc, 0x2de92c6f, 0x4a7484aa, 0x5cb0a9dc, 0x76f988da, 0x983e5152, 0xa831c66d, 0xb00327c8, 0xbf597fc7, 0xc6e00bf3, 0xd5a79147, 0x06ca6351, 0x14292967, 0x27b70a85, 0x2e1b2138, 0x4d2c6dfc, 0x53380d13, 0x650a7354, 0x766a0abb, 0x81c2c92e, 0x92722c85, 0xa2bfe8a1, 0xa81a664b, 0xc24b8b70, 0xc76c51a3, 0xd192e819, 0xd6990624, 0xf40e3585, 0x106aa070, 0x19a4c116, 0x1e376c08, 0x2748774c, 0x34b0bcb5, 0x391c0cb3, 0x4ed8aa4a, 0x5b9cca4f, 0x682e6ff3, 0x748f82ee, 0x78a5636f, 0x84c87814, 0x8cc70208, 0x90befffa, 0xa4506ceb, 0xbef9a3f7, 0xc67178f2]
def rnds (ws : List (BitVec 32)) : Nat → S8 → S8
  | 0, s => s
  | t + 1, s => rnd (rnds ws t s) (kc.getD t 0) (ws.getD t 0)
def S8.add (s t : S8) : S8 := ⟨s.a + t.a, s.b + t.b, s.c + t.c, s.d + t.d, s.e + t.e, s.f + t.f, s.g + t.g, s.h + t.h⟩
/-- A block is taken in. -/
def comp (s : S8) (m : Nat → BitVec 32) : S8 := s.add (rnds (sch m 64) 64 s)
/-- Sums up to i. -/
def mix (i : Nat) (s t : List (BitVec 32)) : List (BitVec 32) := (List.range 8).map fun j => if j < i then s.getD j 0 + t.getD j 0 else s.getD j 0
theorem mix_length (i : Nat) (s t : List (BitVec 32)) : (mix i s t).length = 8 := by simp [mix]
theorem mix_zero (s : S8) (t : List (BitVec 32)) : mix 0 s.list t = s.list := rfl
theorem mix_full (s t : S8) : mix 8 s.list t.list = (s.add t).list := rfl
theorem mix_get {i : Nat} {s t : List (BitVec 32)} (h : i < 8) : (mix i s t)[i]? = some (s.getD i 0) := by
  simp [mix, h]
theorem mix_set {i : Nat} {s t : List (BitVec 32)} (h : i < 8) : (mix i s t).set i (s.getD i 0 + t.getD i 0) = mix (i + 1) s t := by
  apply List.ext_getElem?
  intro j
  rw [List.getElem?_set, mix_length]
  by_cases hj : i = j
  · subst hj
    simp [mix, h]
  · rw [if_neg hj]
    by_cases h8 : j < 8
    · simp [mix, h8, show (j < i) = (j < i + 1) from propext (by omega)]
    · rw [List.getElem?_eq_none (by rw [mix_length]; omega), List.getElem?_eq_none (by rw [mix_length]; omega)]
theorem map_set32 (l : List (BitVec 32)) (i : Nat) (x : BitVec 32) : (l.map w32).set i (.int .u32 (x.toNat : Int)) = (l.set i x).map w32 := by
  rw [List.map_set]; rfl
theorem map_get32 {l : List (BitVec 32)} {i : Nat} {x : BitVec 32} (h : l[i]? = some x) : (l.map w32)[i]? = some (.int .u32 (x.toNat : Int)) := by
  rw [List.getElem?_map, h]; rfl
theorem boxA8 {w : World} {l : List Value} : (Instr.box 84 (.agg l.toArray)).run Tryd.prog w = .ok (.pointer (some ⟨w.heap.size, 0, none⟩)) (w.alloc (.cells l.toArray 84)) := by
  go_simp
/-- The constants lie in their variable; so do the first eight words. -/
def Con (w : World) : Prop := ∃ t fr, w.heap[1]? = some (.cells (kc.map w32).toArray t fr)
def s0 : S8 := ⟨0x6a09e667, 0xbb67ae85, 0x3c6ef372, 0xa54ff53a, 0x510e527f, 0x9b05688c, 0x1f83d9ab, 0x5be0cd19⟩
def Sta0 (w : World) : Prop := ∃ t fr, w.heap[0]? = some (.cells (s0.list.map w32).toArray t fr)
theorem Con.grow {w W : World} (h : Con w) (g : Gr w W) : Con W := by
  obtain ⟨t, fr, h⟩ := h
  exact ⟨t, fr, (g.block _ (lt_of_heap h)).trans h⟩
theorem Sta0.grow {w W : World} (h : Sta0 w) (g : Gr w W) : Sta0 W := by
  obtain ⟨t, fr, h⟩ := h
  exact ⟨t, fr, (g.block _ (lt_of_heap h)).trans h⟩
theorem loadCon {w : World} (h : Con w) : (Instr.loadAt 94 (.pointer (some ⟨1, 0, none⟩))).run Tryd.prog w = .ok (.agg (kc.map w32).toArray) w := by
  obtain ⟨t, fr, h⟩ := h
  simp only [Instr.loadAt, Instr.sureAddr, Sem.run_bind, Sem.run_pure, Result.andThen_ok, run_loadVar_row w 1 t 94 (kc.map w32).toArray fr _ h Tryd.underlying94 rfl (by kernel_rfl)]
theorem loadSta {w : World} (h : Sta0 w) : (Instr.loadAt 84 (.pointer (some ⟨0, 0, none⟩))).run Tryd.prog w = .ok (.agg (s0.list.map w32).toArray) w := by
  obtain ⟨t, fr, h⟩ := h
  simp only [Instr.loadAt, Instr.sureAddr, Sem.run_bind, Sem.run_pure, Result.andThen_ok, run_loadVar_row w 0 t 84 (s0.list.map w32).toArray fr _ h Tryd.underlying84 rfl (by kernel_rfl)]
theorem buildA8 {w : World} (s : S8) : (Instr.build 84 #[(0, .int .u32 (s.a.toNat : Int)), (1, .int .u32 (s.b.toNat : Int)), (2, .int .u32 (s.c.toNat : Int)), (3, .int .u32 (s.d.toNat : Int)), (4, .int .u32 (s.e.toNat : Int)), (5, .int .u32 (s.f.toNat : Int)), (6, .int .u32 (s.g.toNat : Int)), (7, .int .u32 (s.h.toNat : Int))]).run Tryd.prog w = .ok (.agg (s.list.map w32).toArray) w := by
  go_simp
  first | done | rfl
end Go.Proofs.YtldgjhmefaapeaaDoor.Dg


/- wordAt. -/
namespace Go.Proofs.YtldgjhmefaapeaaDoor.Dg
open Go Go.RowKit Go.Proofs.YtldgjhmefaapeaaDoor.Ne Go.Proofs.YtldgjhmefaapeaaDoor.Kr

set_option linter.unusedSimpArgs false in
set_option maxRecDepth 100000 in
set_option maxHeartbeats 16000000 in
theorem wordAt_v {b off n c i : Nat} {l : List (BitVec 8)} {w : World} (hB : BytesAt b off l w) (hn : l.length ≤ n) (hi : 4 * i + 3 < l.length) (hs : n < 9223372036854775808) :
    Calls Tryd.prog 29 #[.slice (some ⟨b, off, none⟩) n c, .int .i64 (i : Int)] w fun e w' => e = .returned (.int .u32 ((wordOf l i).toNat : Int)) ∧ Gr w w' := by
  obtain ⟨j0, hj0⟩ : ∃ j, 4 * i = j := ⟨_, rfl⟩
  have hl0 : j0 < l.length := by omega
  obtain ⟨x0, hx0⟩ : ∃ x, l.getD j0 0 = x := ⟨_, rfl⟩
  have hg0 : l[j0]? = some x0 := hx0 ▸ getD_of hl0
  obtain ⟨j1, hj1⟩ : ∃ j, 4 * i + 1 = j := ⟨_, rfl⟩
  have hl1 : j1 < l.length := by omega
  obtain ⟨x1, hx1⟩ : ∃ x, l.getD j1 0 = x := ⟨_, rfl⟩
  have hg1 : l[j1]? = some x1 := hx1 ▸ getD_of hl1
  obtain ⟨j2, hj2⟩ : ∃ j, 4 * i + 2 = j := ⟨_, rfl⟩
  have hl2 : j2 < l.length := by omega
  obtain ⟨x2, hx2⟩ : ∃ x, l.getD j2 0 = x := ⟨_, rfl⟩
  have hg2 : l[j2]? = some x2 := hx2 ▸ getD_of hl2
  obtain ⟨j3, hj3⟩ : ∃ j, 4 * i + 3 = j := ⟨_, rfl⟩
  have hl3 : j3 < l.length := by omega
  obtain ⟨x3, hx3⟩ : ∃ x, l.getD j3 0 = x := ⟨_, rfl⟩
  have hg3 : l[j3]? = some x3 := hx3 ▸ getD_of hl3
  have hW : wordOf l i = W4 x0 x1 x2 x3 := by unfold wordOf; rw [hj3, hj2, hj1, hj0, hx0, hx1, hx2, hx3]
  rw [hW]
  have h4 : IntKind.i64.wrap ((4 : Int) * (i : Int)) = (j0 : Int) := wrap_nat (by omega) (by omega)
  have ha1 : IntKind.i64.wrap ((j0 : Int) + 1) = (j1 : Int) := wrap_nat (by omega) (by omega)
  have ha2 : IntKind.i64.wrap ((j0 : Int) + 2) = (j2 : Int) := wrap_nat (by omega) (by omega)
  have ha3 : IntKind.i64.wrap ((j0 : Int) + 3) = (j3 : Int) := wrap_nat (by omega) (by omega)
  have HB := Lib.hid hB; clear hB hW
  have H := Ow.start w
  go_enter Tryd.func29, Tryd.ntmps29
  go_upto_region 0 with fail
  refine Kr.seqStartW ?_
  (refine Kr.seqQ (v := ?_) (a' := ?_) (by rfl) ?_ ?_ ?_; rotate_left 2; (focus (go_simp; first | done | rfl)); (focus ((try simp only [Kr.PT]); first | done | rfl)))
  refine Kr.seqDoneW ?_
  go_upto_region 1 with fail
  refine Kr.startL (fun W' => (BytesAt b off l W') ∧ True) [] (by kernel_rfl) ?_
  have gd : Gr w w.drew := (Gr.refl _).drew
  generalize w.drew = d1 at gd ⊢
  replace H := H.grow gd
  clear gd
  (refine Kr.tPQ 0 (v := ?_) (a' := ?_) rfl (by kernel_rfl) (fun _ _ _ h => h) (by rfl) (fun _ => ⟨HB.out.grow H.g, trivial⟩) (fun wx => ?_) ?_ ?_; rotate_left 2; (focus (go_simp; first | done | rfl)); (focus ((try simp only [Kr.PT]); first | done | rfl)))
  (refine Kr.tPQ 1 (v := ?_) (a' := ?_) rfl (by kernel_rfl) (fun _ _ _ h => h) (by rfl) (fun _ => ⟨HB.out.grow H.g, trivial⟩) (fun wx => ?_) ?_ ?_; rotate_left 2; (focus (go_simp; first | done | rfl)); (focus ((try simp only [Kr.PT]); first | done | rfl)))
  (refine Kr.tPQ 2 (v := .int .i64 (j0 : Int)) (a' := ?_) rfl (by kernel_rfl) (fun _ _ _ h => h) (by rfl) (fun _ => ⟨HB.out.grow H.g, trivial⟩) (fun wx => ?_) ?_ ?_; rotate_left 1; (focus (exact Kr.valOf rfl (mulI h4))); (focus ((try simp only [Kr.PT]); first | done | rfl)))
  (refine Kr.tPQ 3 (v := .pointer (some ⟨b, off + j0, none⟩)) (a' := ?_) rfl (by kernel_rfl) (fun _ _ _ h => h) (by rfl) (fun _ => ⟨HB.out.grow H.g, trivial⟩) (fun wx => ?_) ?_ ?_; rotate_left 1; (focus (exact Kr.valOf rfl (ixB (by omega)))); (focus ((try simp only [Kr.PT]); first | done | rfl)))
  (refine Kr.tSQ 4 [] (v := .int .u8 ((x0).toNat : Int)) (a' := ?_) rfl (by kernel_rfl) (fun _ _ _ h => h) (by rfl) ⟨HB.out.grow H.g, trivial⟩ (fun wx hSx => ?_) ?_ ?_; rotate_left 1; (focus (exact Kr.valOf rfl (ldE8 (hSx.1 j0 x0 hg0)))); (focus ((try simp only [Kr.PT]); first | done | rfl)))
  (refine Kr.tPQ 5 (v := .int .u32 ((x0.setWidth 32).toNat : Int)) (a' := ?_) rfl (by kernel_rfl) (fun _ _ _ h => h) (by rfl) (fun _ => ⟨HB.out.grow H.g, trivial⟩) (fun wx => ?_) ?_ ?_; rotate_left 1; (focus (exact Kr.valOf rfl (conv8W))); (focus ((try simp only [Kr.PT]); first | done | rfl)))
  (refine Kr.tPQ 6 (v := .int .u32 ((x0.setWidth 32 <<< 24).toNat : Int)) (a' := ?_) rfl (by kernel_rfl) (fun _ _ _ h => h) (by rfl) (fun _ => ⟨HB.out.grow H.g, trivial⟩) (fun wx => ?_) ?_ ?_; rotate_left 1; (focus (exact Kr.valOf rfl (shl24W))); (focus ((try simp only [Kr.PT]); first | done | rfl)))
  (refine Kr.tPQ 7 (v := ?_) (a' := ?_) rfl (by kernel_rfl) (fun _ _ _ h => h) (by rfl) (fun _ => ⟨HB.out.grow H.g, trivial⟩) (fun wx => ?_) ?_ ?_; rotate_left 2; (focus (go_simp; first | done | rfl)); (focus ((try simp only [Kr.PT]); first | done | rfl)))
  (refine Kr.tPQ 8 (v := ?_) (a' := ?_) rfl (by kernel_rfl) (fun _ _ _ h => h) (by rfl) (fun _ => ⟨HB.out.grow H.g, trivial⟩) (fun wx => ?_) ?_ ?_; rotate_left 2; (focus (go_simp; first | done | rfl)); (focus ((try simp only [Kr.PT]); first | done | rfl)))
  (refine Kr.tPQ 9 (v := .int .i64 (j0 : Int)) (a' := ?_) rfl (by kernel_rfl) (fun _ _ _ h => h) (by rfl) (fun _ => ⟨HB.out.grow H.g, trivial⟩) (fun wx => ?_) ?_ ?_; rotate_left 1; (focus (exact Kr.valOf rfl (mulI h4))); (focus ((try simp only [Kr.PT]); first | done | rfl)))
  (refine Kr.tPQ 10 (v := .int .i64 (j1 : Int)) (a' := ?_) rfl (by kernel_rfl) (fun _ _ _ h => h) (by rfl) (fun _ => ⟨HB.out.grow H.g, trivial⟩) (fun wx => ?_) ?_ ?_; rotate_left 1; (focus (exact Kr.valOf rfl (addI ha1))); (focus ((try simp only [Kr.PT]); first | done | rfl)))
  (refine Kr.tPQ 11 (v := .pointer (some ⟨b, off + j1, none⟩)) (a' := ?_) rfl (by kernel_rfl) (fun _ _ _ h => h) (by rfl) (fun _ => ⟨HB.out.grow H.g, trivial⟩) (fun wx => ?_) ?_ ?_; rotate_left 1; (focus (exact Kr.valOf rfl (ixB (by omega)))); (focus ((try simp only [Kr.PT]); first | done | rfl)))
  (refine Kr.tSQ 12 [] (v := .int .u8 ((x1).toNat : Int)) (a' := ?_) rfl (by kernel_rfl) (fun _ _ _ h => h) (by rfl) ⟨HB.out.grow H.g, trivial⟩ (fun wx hSx => ?_) ?_ ?_; rotate_left 1; (focus (exact Kr.valOf rfl (ldE8 (hSx.1 j1 x1 hg1)))); (focus ((try simp only [Kr.PT]); first | done | rfl)))
  (refine Kr.tPQ 13 (v := .int .u32 ((x1.setWidth 32).toNat : Int)) (a' := ?_) rfl (by kernel_rfl) (fun _ _ _ h => h) (by rfl) (fun _ => ⟨HB.out.grow H.g, trivial⟩) (fun wx => ?_) ?_ ?_; rotate_left 1; (focus (exact Kr.valOf rfl (conv8W))); (focus ((try simp only [Kr.PT]); first | done | rfl)))
  (refine Kr.tPQ 14 (v := .int .u32 ((x1.setWidth 32 <<< 16).toNat : Int)) (a' := ?_) rfl (by kernel_rfl) (fun _ _ _ h => h) (by rfl) (fun _ => ⟨HB.out.grow H.g, trivial⟩) (fun wx => ?_) ?_ ?_; rotate_left 1; (focus (exact Kr.valOf rfl (shl16W))); (focus ((try simp only [Kr.PT]); first | done | rfl)))
  (refine Kr.tPQ 15 (v := .int .u32 (((x0.setWidth 32 <<< 24) ||| (x1.setWidth 32 <<< 16)).toNat : Int)) (a' := ?_) rfl (by kernel_rfl) (fun _ _ _ h => h) (by rfl) (fun _ => ⟨HB.out.grow H.g, trivial⟩) (fun wx => ?_) ?_ ?_; rotate_left 1; (focus (exact Kr.valOf rfl (orW))); (focus ((try simp only [Kr.PT]); first | done | rfl)))
  (refine Kr.tPQ 16 (v := ?_) (a' := ?_) rfl (by kernel_rfl) (fun _ _ _ h => h) (by rfl) (fun _ => ⟨HB.out.grow H.g, trivial⟩) (fun wx => ?_) ?_ ?_; rotate_left 2; (focus (go_simp; first | done | rfl)); (focus ((try simp only [Kr.PT]); first | done | rfl)))
  (refine Kr.tPQ 17 (v := ?_) (a' := ?_) rfl (by kernel_rfl) (fun _ _ _ h => h) (by rfl) (fun _ => ⟨HB.out.grow H.g, trivial⟩) (fun wx => ?_) ?_ ?_; rotate_left 2; (focus (go_simp; first | done | rfl)); (focus ((try simp only [Kr.PT]); first | done | rfl)))
  (refine Kr.tPQ 18 (v := .int .i64 (j0 : Int)) (a' := ?_) rfl (by kernel_rfl) (fun _ _ _ h => h) (by rfl) (fun _ => ⟨HB.out.grow H.g, trivial⟩) (fun wx => ?_) ?_ ?_; rotate_left 1; (focus (exact Kr.valOf rfl (mulI h4))); (focus ((try simp only [Kr.PT]); first | done | rfl)))
  (refine Kr.tPQ 19 (v := .int .i64 (j2 : Int)) (a' := ?_) rfl (by kernel_rfl) (fun _ _ _ h => h) (by rfl) (fun _ => ⟨HB.out.grow H.g, trivial⟩) (fun wx => ?_) ?_ ?_; rotate_left 1; (focus (exact Kr.valOf rfl (addI ha2))); (focus ((try simp only [Kr.PT]); first | done | rfl)))
  (refine Kr.tPQ 20 (v := .pointer (some ⟨b, off + j2, none⟩)) (a' := ?_) rfl (by kernel_rfl) (fun _ _ _ h => h) (by rfl) (fun _ => ⟨HB.out.grow H.g, trivial⟩) (fun wx => ?_) ?_ ?_; rotate_left 1; (focus (exact Kr.valOf rfl (ixB (by omega)))); (focus ((try simp only [Kr.PT]); first | done | rfl)))
  (refine Kr.tSQ 21 [] (v := .int .u8 ((x2).toNat : Int)) (a' := ?_) rfl (by kernel_rfl) (fun _ _ _ h => h) (by rfl) ⟨HB.out.grow H.g, trivial⟩ (fun wx hSx => ?_) ?_ ?_; rotate_left 1; (focus (exact Kr.valOf rfl (ldE8 (hSx.1 j2 x2 hg2)))); (focus ((try simp only [Kr.PT]); first | done | rfl)))
  (refine Kr.tPQ 22 (v := .int .u32 ((x2.setWidth 32).toNat : Int)) (a' := ?_) rfl (by kernel_rfl) (fun _ _ _ h => h) (by rfl) (fun _ => ⟨HB.out.grow H.g, trivial⟩) (fun wx => ?_) ?_ ?_; rotate_left 1; (focus (exact Kr.valOf rfl (conv8W))); (focus ((try simp only [Kr.PT]); first | done | rfl)))
  (refine Kr.tPQ 23 (v := .int .u32 ((x2.setWidth 32 <<< 8).toNat : Int)) (a' := ?_) rfl (by kernel_rfl) (fun _ _ _ h => h) (by rfl) (fun _ => ⟨HB.out.grow H.g, trivial⟩) (fun wx => ?_) ?_ ?_; rotate_left 1; (focus (exact Kr.valOf rfl (shl8W))); (focus ((try simp only [Kr.PT]); first | done | rfl)))
  (refine Kr.tPQ 24 (v := .int .u32 ((((x0.setWidth 32 <<< 24) ||| (x1.setWidth 32 <<< 16)) ||| (x2.setWidth 32 <<< 8)).toNat : Int)) (a' := ?_) rfl (by kernel_rfl) (fun _ _ _ h => h) (by rfl) (fun _ => ⟨HB.out.grow H.g, trivial⟩) (fun wx => ?_) ?_ ?_; rotate_left 1; (focus (exact Kr.valOf rfl (orW))); (focus ((try simp only [Kr.PT]); first | done | rfl)))
  (refine Kr.tPQ 25 (v := ?_) (a' := ?_) rfl (by kernel_rfl) (fun _ _ _ h => h) (by rfl) (fun _ => ⟨HB.out.grow H.g, trivial⟩) (fun wx => ?_) ?_ ?_; rotate_left 2; (focus (go_simp; first | done | rfl)); (focus ((try simp only [Kr.PT]); first | done | rfl)))
  (refine Kr.tPQ 26 (v := ?_) (a' := ?_) rfl (by kernel_rfl) (fun _ _ _ h => h) (by rfl) (fun _ => ⟨HB.out.grow H.g, trivial⟩) (fun wx => ?_) ?_ ?_; rotate_left 2; (focus (go_simp; first | done | rfl)); (focus ((try simp only [Kr.PT]); first | done | rfl)))
  (refine Kr.tPQ 27 (v := .int .i64 (j0 : Int)) (a' := ?_) rfl (by kernel_rfl) (fun _ _ _ h => h) (by rfl) (fun _ => ⟨HB.out.grow H.g, trivial⟩) (fun wx => ?_) ?_ ?_; rotate_left 1; (focus (exact Kr.valOf rfl (mulI h4))); (focus ((try simp only [Kr.PT]); first | done | rfl)))
  (refine Kr.tPQ 28 (v := .int .i64 (j3 : Int)) (a' := ?_) rfl (by kernel_rfl) (fun _ _ _ h => h) (by rfl) (fun _ => ⟨HB.out.grow H.g, trivial⟩) (fun wx => ?_) ?_ ?_; rotate_left 1; (focus (exact Kr.valOf rfl (addI ha3))); (focus ((try simp only [Kr.PT]); first | done | rfl)))
  (refine Kr.tPQ 29 (v := .pointer (some ⟨b, off + j3, none⟩)) (a' := ?_) rfl (by kernel_rfl) (fun _ _ _ h => h) (by rfl) (fun _ => ⟨HB.out.grow H.g, trivial⟩) (fun wx => ?_) ?_ ?_; rotate_left 1; (focus (exact Kr.valOf rfl (ixB (by omega)))); (focus ((try simp only [Kr.PT]); first | done | rfl)))
  (refine Kr.tSQ 30 [] (v := .int .u8 ((x3).toNat : Int)) (a' := ?_) rfl (by kernel_rfl) (fun _ _ _ h => h) (by rfl) ⟨HB.out.grow H.g, trivial⟩ (fun wx hSx => ?_) ?_ ?_; rotate_left 1; (focus (exact Kr.valOf rfl (ldE8 (hSx.1 j3 x3 hg3)))); (focus ((try simp only [Kr.PT]); first | done | rfl)))
  (refine Kr.tPQ 31 (v := .int .u32 ((x3.setWidth 32).toNat : Int)) (a' := ?_) rfl (by kernel_rfl) (fun _ _ _ h => h) (by rfl) (fun _ => ⟨HB.out.grow H.g, trivial⟩) (fun wx => ?_) ?_ ?_; rotate_left 1; (focus (exact Kr.valOf rfl (conv8W))); (focus ((try simp only [Kr.PT]); first | done | rfl)))
  (refine Kr.tPQ 32 (v := .int .u32 ((W4 x0 x1 x2 x3).toNat : Int)) (a' := ?_) rfl (by kernel_rfl) (fun _ _ _ h => h) (by rfl) (fun _ => ⟨HB.out.grow H.g, trivial⟩) (fun wx => ?_) ?_ ?_; rotate_left 1; (focus (exact Kr.valOf rfl (orW))); (focus ((try simp only [Kr.PT]); first | done | rfl)))
  (refine Kr.tPQ 33 (v := ?_) (a' := ?_) rfl (by kernel_rfl) (fun _ _ _ h => h) (by rfl) (fun _ => ⟨HB.out.grow H.g, trivial⟩) (fun wx => ?_) ?_ ?_; rotate_left 2; (focus (go_simp; first | done | rfl)); (focus ((try simp only [Kr.PT]); first | done | rfl)))
  refine Kr.doneL (by kernel_rfl) ?_ _
  have hk := trivial
  go_wp2
  refine bodyPost_ret (v := .int .u32 ((W4 x0 x1 x2 x3).toNat : Int)) (by simp [results, Tryd.results29, go_sem, hk]) rfl ⟨rfl, H.g⟩
end Go.Proofs.YtldgjhmefaapeaaDoor.Dg


/- schedule. -/
namespace Go.Proofs.YtldgjhmefaapeaaDoor.Dg
open Go Go.RowKit Go.Proofs.YtldgjhmefaapeaaDoor.Ne Go.Proofs.YtldgjhmefaapeaaDoor.Kr

theorem rowCell {w : World} {b j : Nat} {T : TypeId} {l : List Value} {v : Value} {fr : Nat × Nat} (h : w.heap[b]? = some (.cells l.toArray T fr)) (hv : l[j]? = some v) : w.cell? ⟨b, j, none⟩ = some v := by
  rw [cell_of_row w b j _ _ _ h]; simpa using hv
set_option linter.unusedSimpArgs false in
set_option maxRecDepth 100000 in
set_option maxHeartbeats 16000000 in
theorem schedule_v {b off n c : Nat} {l : List (BitVec 8)} {w : World} (hB : BytesAt b off l w) (hn : l.length ≤ n) (hl : 64 ≤ l.length) (hs : n < 9223372036854775808) :
    Calls Tryd.prog 57 #[.slice (some ⟨b, off, none⟩) n c] w fun e w' => e = .returned (.agg ((sch (wordOf l) 64).map w32).toArray) ∧ Gr w w' := by
  have HB := Lib.hid hB; clear hB
  obtain ⟨R, hR⟩ : ∃ R, sch (wordOf l) 64 = R := ⟨_, rfl⟩
  rw [hR]; have HR := Lib.hid hR; clear hR
  have H := Ow.start w
  go_enter Tryd.func57, Tryd.ntmps57
  go_upto_region 0 with fail
  refine Kr.seqStartW ?_
  refine Kr.seqR (by rfl) (fun K hK => ?_)
  refine wp_runV rfl newA64 ?_
  obtain ⟨y1, hy⟩ : ∃ y, w.alloc (.cells (List.replicate 64 (Value.int .u32 0)).toArray 94) = y := ⟨_, rfl⟩
  obtain ⟨br, hb⟩ : ∃ b, w.heap.size = b := ⟨_, rfl⟩
  rw [hy, hb]
  have hg : Gr w y1 := hy ▸ (Gr.refl _).alloc _
  replace H := H.alloc hy hb
  clear hy hb hg
  (refine Kr.outS hK (a' := ?_) ?_ ?_; rotate_left; (focus ((try simp only [Kr.PT]); first | done | rfl))); clear hK K
  refine Kr.seqDoneW ?_
  go_upto_region 1 with fail
  refine Kr.seqStartW ?_
  refine Kr.seqR (by rfl) (fun K hK => ?_)
  refine wp_runV rfl newA64 ?_
  obtain ⟨y2, hy⟩ : ∃ y, y1.alloc (.cells (List.replicate 64 (Value.int .u32 0)).toArray 94) = y := ⟨_, rfl⟩
  obtain ⟨bw, hb⟩ : ∃ b, y1.heap.size = b := ⟨_, rfl⟩
  rw [hy, hb]
  have hg : Gr y1 y2 := hy ▸ (Gr.refl _).alloc _
  replace H := H.alloc hy hb
  clear hy hb hg
  (refine Kr.outS hK (a' := ?_) ?_ ?_; rotate_left; (focus ((try simp only [Kr.PT]); first | done | rfl))); clear hK K
  refine Kr.seqDoneW ?_
  go_upto_region 2 with fail
  refine Kr.seqStartW ?_
  (refine Kr.seqQ (v := ?_) (a' := ?_) (by rfl) ?_ ?_ ?_; rotate_left 2; (focus (go_simp; first | done | rfl)); (focus ((try simp only [Kr.PT]); first | done | rfl)))
  refine Kr.seqDoneW ?_
  rw [← pad64_nil] at H
  have H2 := Lib.hid H; clear H
  go_wp2_with fail
  go_loopw [10] (fun i wr => ∃ j : Nat, j ≤ 16 ∧ i = .int .i64 (j : Int) ∧ Hid (Ow w wr [(bw, 94, pad64 (sch (wordOf l) j)), (br, 94, pad64 [])])) (fun i _ => 16 - (intOf i).toNat)
  case atStart => exact ⟨0, Nat.zero_le _, rfl, H2⟩
  case round =>
    clear H2; obtain ⟨j, hj, rfl, HH⟩ := hrel; have H := HH.out; clear HH
    have hlen : (sch (wordOf l) j).length = j := sch_length _ j
    by_cases hj16 : j = 16
    · have HC : decide ((j : Int) < 16) = false := decide_eq_false (by omega)
      rw [hj16] at H; clear hj16 hlen
      go_upto_region 3 with fail
      refine Kr.seqStartW ?_
      (refine Kr.seqQ (v := .bool false) (a' := ?_) (by rfl) ?_ ?_ ?_; rotate_left 1; (focus (exact Kr.valOf rfl (lssT HC))); (focus ((try simp only [Kr.PT]); first | done | rfl)))
      refine Kr.seqDoneW ?_
      go_upto_region 7 with fail
      refine Kr.seqStartW ?_
      (refine Kr.seqQ (v := ?_) (a' := ?_) (by rfl) ?_ ?_ ?_; rotate_left 2; (focus (go_simp; first | done | rfl)); (focus ((try simp only [Kr.PT]); first | done | rfl)))
      refine Kr.seqDoneW ?_
      have H2 := Lib.hid H; clear H hj HC
      go_wp2_with fail
      go_loopw [5] (fun i wr => ∃ t : Nat, 16 ≤ t ∧ t ≤ 64 ∧ i = .int .i64 (t : Int) ∧ Hid (Ow w wr [(bw, 94, pad64 (sch (wordOf l) t)), (br, 94, pad64 [])])) (fun i _ => 64 - (intOf i).toNat)
      case atStart => exact ⟨16, Nat.le_refl _, by decide, rfl, H2⟩
      case round =>
        clear H2; obtain ⟨t, ht16, ht64, rfl, HH⟩ := hrel; have H := HH.out; clear HH
        have hlen : (sch (wordOf l) t).length = t := sch_length _ t
        by_cases hte : t = 64
        · have HC : decide ((t : Int) < 64) = false := decide_eq_false (by omega); have HTE := Lib.hid hte; clear hte hlen
          go_upto_region 8 with fail
          refine Kr.seqStartW ?_
          (refine Kr.seqQ (v := ?_) (a' := ?_) (by rfl) ?_ ?_ ?_; rotate_left 2; (focus (go_simp; first | done | rfl)); (focus ((try simp only [Kr.PT]); first | done | rfl)))
          (refine Kr.seqQ (v := .bool false) (a' := ?_) (by rfl) ?_ ?_ ?_; rotate_left 1; (focus (exact Kr.valOf rfl (lssT HC))); (focus ((try simp only [Kr.PT]); first | done | rfl)))
          refine Kr.seqDoneW ?_
          rw [show sch (wordOf l) t = R by rw [HTE.out]; exact HR.out, pad64_full (show R.length = 64 by rw [← HR.out]; exact sch_length _ _)] at H
          have hl64 : (R.map w32).length = 64 := by rw [List.length_map, ← HR.out]; exact sch_length _ _
          go_upto_region 14 with fail
          refine Kr.seqStartW ?_
          (refine Kr.seqQ (v := .agg (R.map w32).toArray) (a' := ?_) (by rfl) ?_ ?_ ?_; rotate_left 1; (focus (exact Kr.valOf rfl (ldA64 (H.at 0 rfl) hl64))); (focus ((try simp only [Kr.PT]); first | done | rfl)))
          refine Kr.seqR (by rfl) (fun K hK => ?_)
          refine wp_run rfl (stA64 (H.at 1 rfl) (by rw [pad64_length (by simp)]) hl64 (oneCell_words _)) ?_
          obtain ⟨y3, hy⟩ : ∃ y, wr.setRow br (R.map w32).toArray = y := ⟨_, rfl⟩
          rw [hy]
          replace H := H.put 1 hy rfl
          dsimp only [List.set] at H
          clear hy
          (refine Kr.outS hK (a' := ?_) ?_ ?_; rotate_left; (focus ((try simp only [Kr.PT]); first | done | rfl))); clear hK K
          refine Kr.seqDoneW ?_
          go_wp2
          refine bodyPost_ret (v := .agg (R.map w32).toArray) (results_cell_row rfl _ _ br 94 _ _ _ (by rfl) (H.at 1 rfl) Tryd.underlying94 rfl (by rw [List.size_toArray, hl64]; exact infoA64)) rfl ⟨rfl, H.g⟩
        · have htl : t < 64 := by omega
          have HC : decide ((t : Int) < 64) = true := decide_eq_true (by omega)
          go_upto_region 8 with fail
          refine Kr.seqStartW ?_
          (refine Kr.seqQ (v := ?_) (a' := ?_) (by rfl) ?_ ?_ ?_; rotate_left 2; (focus (go_simp; first | done | rfl)); (focus ((try simp only [Kr.PT]); first | done | rfl)))
          (refine Kr.seqQ (v := .bool true) (a' := ?_) (by rfl) ?_ ?_ ?_; rotate_left 1; (focus (exact Kr.valOf rfl (lssT HC))); (focus ((try simp only [Kr.PT]); first | done | rfl)))
          refine Kr.seqDoneW ?_
          obtain ⟨t15, ht15⟩ : ∃ z, t - 15 = z := ⟨_, rfl⟩
          have hs15 : IntKind.i64.wrap ((t : Int) - 15) = (t15 : Int) := wrap_nat (by omega) (by omega)
          obtain ⟨x15, hx15⟩ : ∃ x, (sch (wordOf l) t).getD t15 0 = x := ⟨_, rfl⟩
          have hg15 : (pad64 (sch (wordOf l) t))[t15]? = some (w32 x15) := hx15 ▸ pad64_get (by omega)
          obtain ⟨t2, ht2⟩ : ∃ z, t - 2 = z := ⟨_, rfl⟩
          have hs2 : IntKind.i64.wrap ((t : Int) - 2) = (t2 : Int) := wrap_nat (by omega) (by omega)
          obtain ⟨x2, hx2⟩ : ∃ x, (sch (wordOf l) t).getD t2 0 = x := ⟨_, rfl⟩
          have hg2 : (pad64 (sch (wordOf l) t))[t2]? = some (w32 x2) := hx2 ▸ pad64_get (by omega)
          obtain ⟨t16, ht16⟩ : ∃ z, t - 16 = z := ⟨_, rfl⟩
          have hs16 : IntKind.i64.wrap ((t : Int) - 16) = (t16 : Int) := wrap_nat (by omega) (by omega)
          obtain ⟨x16, hx16⟩ : ∃ x, (sch (wordOf l) t).getD t16 0 = x := ⟨_, rfl⟩
          have hg16 : (pad64 (sch (wordOf l) t))[t16]? = some (w32 x16) := hx16 ▸ pad64_get (by omega)
          obtain ⟨t7, ht7⟩ : ∃ z, t - 7 = z := ⟨_, rfl⟩
          have hs7 : IntKind.i64.wrap ((t : Int) - 7) = (t7 : Int) := wrap_nat (by omega) (by omega)
          obtain ⟨x7, hx7⟩ : ∃ x, (sch (wordOf l) t).getD t7 0 = x := ⟨_, rfl⟩
          have hg7 : (pad64 (sch (wordOf l) t))[t7]? = some (w32 x7) := hx7 ▸ pad64_get (by omega)
          have hnx : nxt (sch (wordOf l) t) t = ((x16 + (rr x15 7 ^^^ rr x15 18 ^^^ x15 >>> 3)) + x7) + (rr x2 17 ^^^ rr x2 19 ^^^ x2 >>> 10) := by unfold nxt; rw [ht15, ht2, ht16, ht7, hx15, hx2, hx16, hx7]
          obtain ⟨r7, hr7⟩ : ∃ z, rr x15 7 = z := ⟨_, rfl⟩
          obtain ⟨r18, hr18⟩ : ∃ z, rr x15 18 = z := ⟨_, rfl⟩
          obtain ⟨q1, hq1⟩ : ∃ z, r7 ^^^ r18 = z := ⟨_, rfl⟩
          obtain ⟨q2, hq2⟩ : ∃ z, x15 >>> 3 = z := ⟨_, rfl⟩
          obtain ⟨S0, hS0⟩ : ∃ z, q1 ^^^ q2 = z := ⟨_, rfl⟩
          obtain ⟨r17, hr17⟩ : ∃ z, rr x2 17 = z := ⟨_, rfl⟩
          obtain ⟨r19, hr19⟩ : ∃ z, rr x2 19 = z := ⟨_, rfl⟩
          obtain ⟨q3, hq3⟩ : ∃ z, r17 ^^^ r19 = z := ⟨_, rfl⟩
          obtain ⟨q4, hq4⟩ : ∃ z, x2 >>> 10 = z := ⟨_, rfl⟩
          obtain ⟨S1, hS1⟩ : ∃ z, q3 ^^^ q4 = z := ⟨_, rfl⟩
          obtain ⟨z1, hz1⟩ : ∃ z, x16 + S0 = z := ⟨_, rfl⟩
          obtain ⟨z2, hz2⟩ : ∃ z, z1 + x7 = z := ⟨_, rfl⟩
          obtain ⟨z3, hz3⟩ : ∃ z, z2 + S1 = z := ⟨_, rfl⟩
          have hnx : nxt (sch (wordOf l) t) t = z3 := by unfold nxt; rw [ht15, ht2, ht16, ht7, hx15, hx2, hx16, hx7, hr7, hr18, hr17, hr19, hq1, hq2, hq3, hq4, hS0, hS1, hz1, hz2, hz3]
          go_upto_region 10 with fail
          refine Kr.startL (fun W' => (W'.heap[bw]? = some (.cells (pad64 (sch (wordOf l) t)).toArray 94 (0, 0))) ∧ True) [] (by kernel_rfl) ?_
          have gd : Gr wr wr.drew := (Gr.refl _).drew
          generalize wr.drew = d4 at gd ⊢
          replace H := H.grow gd
          clear gd
          (refine Kr.tPQ 0 (v := ?_) (a' := ?_) rfl (by kernel_rfl) (fun _ _ _ h => h) (by rfl) (fun _ => ⟨(H.at 0 rfl), trivial⟩) (fun wx => ?_) ?_ ?_; rotate_left 2; (focus (go_simp; first | done | rfl)); (focus ((try simp only [Kr.PT]); first | done | rfl)))
          (refine Kr.tPQ 1 (v := .int .i64 (t15 : Int)) (a' := ?_) rfl (by kernel_rfl) (fun _ _ _ h => h) (by rfl) (fun _ => ⟨(H.at 0 rfl), trivial⟩) (fun wx => ?_) ?_ ?_; rotate_left 1; (focus (exact Kr.valOf rfl (subI hs15))); (focus ((try simp only [Kr.PT]); first | done | rfl)))
          (refine Kr.tPQ 2 (v := .pointer (some ⟨bw, t15, none⟩)) (a' := ?_) rfl (by kernel_rfl) (fun _ _ _ h => h) (by rfl) (fun _ => ⟨(H.at 0 rfl), trivial⟩) (fun wx => ?_) ?_ ?_; rotate_left 1; (focus (exact Kr.valOf rfl (ixA64 (by omega)))); (focus ((try simp only [Kr.PT]); first | done | rfl)))
          (refine Kr.tSQ 3 [] (v := .int .u32 ((x15).toNat : Int)) (a' := ?_) rfl (by kernel_rfl) (fun _ _ _ h => h) (by rfl) ⟨(H.at 0 rfl), trivial⟩ (fun wx hSx => ?_) ?_ ?_; rotate_left 1; (focus (exact Kr.valOf rfl (ldE32 (rowCell hSx.1 hg15)))); (focus ((try simp only [Kr.PT]); first | done | rfl)))
          (refine Kr.tPQ 4 (v := ?_) (a' := ?_) rfl (by kernel_rfl) (fun _ _ _ h => h) (by rfl) (fun _ => ⟨(H.at 0 rfl), trivial⟩) (fun wx => ?_) ?_ ?_; rotate_left 2; (focus (go_simp; first | done | rfl)); (focus ((try simp only [Kr.PT]); first | done | rfl)))
          (refine Kr.tPQ 5 (v := .int .i64 (t2 : Int)) (a' := ?_) rfl (by kernel_rfl) (fun _ _ _ h => h) (by rfl) (fun _ => ⟨(H.at 0 rfl), trivial⟩) (fun wx => ?_) ?_ ?_; rotate_left 1; (focus (exact Kr.valOf rfl (subI hs2))); (focus ((try simp only [Kr.PT]); first | done | rfl)))
          (refine Kr.tPQ 6 (v := .pointer (some ⟨bw, t2, none⟩)) (a' := ?_) rfl (by kernel_rfl) (fun _ _ _ h => h) (by rfl) (fun _ => ⟨(H.at 0 rfl), trivial⟩) (fun wx => ?_) ?_ ?_; rotate_left 1; (focus (exact Kr.valOf rfl (ixA64 (by omega)))); (focus ((try simp only [Kr.PT]); first | done | rfl)))
          (refine Kr.tSQ 7 [] (v := .int .u32 ((x2).toNat : Int)) (a' := ?_) rfl (by kernel_rfl) (fun _ _ _ h => h) (by rfl) ⟨(H.at 0 rfl), trivial⟩ (fun wx hSx => ?_) ?_ ?_; rotate_left 1; (focus (exact Kr.valOf rfl (ldE32 (rowCell hSx.1 hg2)))); (focus ((try simp only [Kr.PT]); first | done | rfl)))
          (refine Kr.tPQ 8 (v := ?_) (a' := ?_) rfl (by kernel_rfl) (fun _ _ _ h => h) (by rfl) (fun _ => ⟨(H.at 0 rfl), trivial⟩) (fun wx => ?_) ?_ ?_; rotate_left 2; (focus (go_simp; first | done | rfl)); (focus ((try simp only [Kr.PT]); first | done | rfl)))
          (refine Kr.tPQ 9 (v := ?_) (a' := ?_) rfl (by kernel_rfl) (fun _ _ _ h => h) (by rfl) (fun _ => ⟨(H.at 0 rfl), trivial⟩) (fun wx => ?_) ?_ ?_; rotate_left 2; (focus (go_simp; first | done | rfl)); (focus ((try simp only [Kr.PT]); first | done | rfl)))
          refine Kr.doneL (by kernel_rfl) ?_ _
          go_upto_region 11 with fail
          refine Kr.seqStartW ?_
          (refine Kr.seqQ (v := ?_) (a' := ?_) (by rfl) ?_ ?_ ?_; rotate_left 2; (focus (go_simp; first | done | rfl)); (focus ((try simp only [Kr.PT]); first | done | rfl)))
          refine Kr.seqR (by rfl) (fun K hK => ?_)
          go_simp
          go_at_call 58
          have hP := turn_v (x := x15) (n := 7) (w := d4) (by decide) (by decide)
          rw [hr7] at hP
          refine (hP).mono ?_
          rintro e y5 ⟨rfl, hg⟩
          replace H := H.grow hg
          clear hg
          clear hP
          (refine Kr.outS hK (a' := ?_) ?_ ?_; rotate_left; (focus ((try simp only [Kr.PT]); first | done | rfl))); clear hK K
          (refine Kr.seqQ (v := ?_) (a' := ?_) (by rfl) ?_ ?_ ?_; rotate_left 2; (focus (go_simp; first | done | rfl)); (focus ((try simp only [Kr.PT]); first | done | rfl)))
          refine Kr.seqR (by rfl) (fun K hK => ?_)
          go_simp
          go_at_call 58
          have hP := turn_v (x := x15) (n := 18) (w := y5) (by decide) (by decide)
          rw [hr18] at hP
          refine (hP).mono ?_
          rintro e y6 ⟨rfl, hg⟩
          replace H := H.grow hg
          clear hg
          clear hP
          (refine Kr.outS hK (a' := ?_) ?_ ?_; rotate_left; (focus ((try simp only [Kr.PT]); first | done | rfl))); clear hK K
          (refine Kr.seqQ (v := .int .u32 ((q1).toNat : Int)) (a' := ?_) (by rfl) ?_ ?_ ?_; rotate_left 1; (focus (exact Kr.valOf rfl ((by rw [← hq1]; exact xorW)))); (focus ((try simp only [Kr.PT]); first | done | rfl)))
          (refine Kr.seqQ (v := ?_) (a' := ?_) (by rfl) ?_ ?_ ?_; rotate_left 2; (focus (go_simp; first | done | rfl)); (focus ((try simp only [Kr.PT]); first | done | rfl)))
          (refine Kr.seqQ (v := .int .u32 ((q2).toNat : Int)) (a' := ?_) (by rfl) ?_ ?_ ?_; rotate_left 1; (focus (exact Kr.valOf rfl ((by rw [← hq2]; exact shr3W)))); (focus ((try simp only [Kr.PT]); first | done | rfl)))
          (refine Kr.seqQ (v := .int .u32 ((S0).toNat : Int)) (a' := ?_) (by rfl) ?_ ?_ ?_; rotate_left 1; (focus (exact Kr.valOf rfl ((by rw [← hS0]; exact xorW)))); (focus ((try simp only [Kr.PT]); first | done | rfl)))
          (refine Kr.seqQ (v := ?_) (a' := ?_) (by rfl) ?_ ?_ ?_; rotate_left 2; (focus (go_simp; first | done | rfl)); (focus ((try simp only [Kr.PT]); first | done | rfl)))
          refine Kr.seqDoneW ?_
          go_upto_region 12 with fail
          refine Kr.seqStartW ?_
          (refine Kr.seqQ (v := ?_) (a' := ?_) (by rfl) ?_ ?_ ?_; rotate_left 2; (focus (go_simp; first | done | rfl)); (focus ((try simp only [Kr.PT]); first | done | rfl)))
          refine Kr.seqR (by rfl) (fun K hK => ?_)
          go_simp
          go_at_call 58
          have hP := turn_v (x := x2) (n := 17) (w := y6) (by decide) (by decide)
          rw [hr17] at hP
          refine (hP).mono ?_
          rintro e y7 ⟨rfl, hg⟩
          replace H := H.grow hg
          clear hg
          clear hP
          (refine Kr.outS hK (a' := ?_) ?_ ?_; rotate_left; (focus ((try simp only [Kr.PT]); first | done | rfl))); clear hK K
          (refine Kr.seqQ (v := ?_) (a' := ?_) (by rfl) ?_ ?_ ?_; rotate_left 2; (focus (go_simp; first | done | rfl)); (focus ((try simp only [Kr.PT]); first | done | rfl)))
          refine Kr.seqR (by rfl) (fun K hK => ?_)
          go_simp
          go_at_call 58
          have hP := turn_v (x := x2) (n := 19) (w := y7) (by decide) (by decide)
          rw [hr19] at hP
          refine (hP).mono ?_
          rintro e y8 ⟨rfl, hg⟩
          replace H := H.grow hg
          clear hg
          clear hP
          (refine Kr.outS hK (a' := ?_) ?_ ?_; rotate_left; (focus ((try simp only [Kr.PT]); first | done | rfl))); clear hK K
          (refine Kr.seqQ (v := .int .u32 ((q3).toNat : Int)) (a' := ?_) (by rfl) ?_ ?_ ?_; rotate_left 1; (focus (exact Kr.valOf rfl ((by rw [← hq3]; exact xorW)))); (focus ((try simp only [Kr.PT]); first | done | rfl)))
          (refine Kr.seqQ (v := ?_) (a' := ?_) (by rfl) ?_ ?_ ?_; rotate_left 2; (focus (go_simp; first | done | rfl)); (focus ((try simp only [Kr.PT]); first | done | rfl)))
          (refine Kr.seqQ (v := .int .u32 ((q4).toNat : Int)) (a' := ?_) (by rfl) ?_ ?_ ?_; rotate_left 1; (focus (exact Kr.valOf rfl ((by rw [← hq4]; exact shr10W)))); (focus ((try simp only [Kr.PT]); first | done | rfl)))
          (refine Kr.seqQ (v := .int .u32 ((S1).toNat : Int)) (a' := ?_) (by rfl) ?_ ?_ ?_; rotate_left 1; (focus (exact Kr.valOf rfl ((by rw [← hS1]; exact xorW)))); (focus ((try simp only [Kr.PT]); first | done | rfl)))
          (refine Kr.seqQ (v := ?_) (a' := ?_) (by rfl) ?_ ?_ ?_; rotate_left 2; (focus (go_simp; first | done | rfl)); (focus ((try simp only [Kr.PT]); first | done | rfl)))
          refine Kr.seqDoneW ?_
          obtain ⟨v0, hv0⟩ := pad64_any (l := sch (wordOf l) t) (by omega) htl
          go_upto_region 13 with fail
          refine Kr.startL (fun W' => (W'.heap[bw]? = some (.cells (pad64 (sch (wordOf l) t)).toArray 94 (0, 0))) ∧ True) [15] (by kernel_rfl) ?_
          have gd : Gr y8 y8.drew := (Gr.refl _).drew
          generalize y8.drew = d9 at gd ⊢
          replace H := H.grow gd
          clear gd
          (refine Kr.tPQ 0 (v := ?_) (a' := ?_) rfl (by kernel_rfl) (fun _ _ _ h => h) (by rfl) (fun _ => ⟨(H.at 0 rfl), trivial⟩) (fun wx => ?_) ?_ ?_; rotate_left 2; (focus (go_simp; first | done | rfl)); (focus ((try simp only [Kr.PT]); first | done | rfl)))
          (refine Kr.tPQ 1 (v := ?_) (a' := ?_) rfl (by kernel_rfl) (fun _ _ _ h => h) (by rfl) (fun _ => ⟨(H.at 0 rfl), trivial⟩) (fun wx => ?_) ?_ ?_; rotate_left 2; (focus (go_simp; first | done | rfl)); (focus ((try simp only [Kr.PT]); first | done | rfl)))
          (refine Kr.tPQ 2 (v := .int .i64 (t16 : Int)) (a' := ?_) rfl (by kernel_rfl) (fun _ _ _ h => h) (by rfl) (fun _ => ⟨(H.at 0 rfl), trivial⟩) (fun wx => ?_) ?_ ?_; rotate_left 1; (focus (exact Kr.valOf rfl (subI hs16))); (focus ((try simp only [Kr.PT]); first | done | rfl)))
          (refine Kr.tPQ 3 (v := .pointer (some ⟨bw, t16, none⟩)) (a' := ?_) rfl (by kernel_rfl) (fun _ _ _ h => h) (by rfl) (fun _ => ⟨(H.at 0 rfl), trivial⟩) (fun wx => ?_) ?_ ?_; rotate_left 1; (focus (exact Kr.valOf rfl (ixA64 (by omega)))); (focus ((try simp only [Kr.PT]); first | done | rfl)))
          (refine Kr.tSQ 4 [6, 11, 13, 14, 15] (v := .int .u32 ((x16).toNat : Int)) (a' := ?_) rfl (by kernel_rfl) (fun _ _ _ h => h) (by rfl) ⟨(H.at 0 rfl), trivial⟩ (fun wx hSx => ?_) ?_ ?_; rotate_left 1; (focus (exact Kr.valOf rfl (ldE32 (rowCell hSx.1 hg16)))); (focus ((try simp only [Kr.PT]); first | done | rfl)))
          (refine Kr.tPQ 5 (v := ?_) (a' := ?_) rfl (by kernel_rfl) (fun _ _ _ h => h) (by rfl) (fun _ => ⟨(H.at 0 rfl), trivial⟩) (fun wx => ?_) ?_ ?_; rotate_left 2; (focus (go_simp; first | done | rfl)); (focus ((try simp only [Kr.PT]); first | done | rfl)))
          (refine Kr.tPQ 6 (v := .int .u32 ((z1).toNat : Int)) (a' := ?_) rfl (by kernel_rfl) (fun _ _ _ h => h) (by rfl) (fun _ => ⟨(H.at 0 rfl), trivial⟩) (fun wx => ?_) ?_ ?_; rotate_left 1; (focus (exact Kr.valOf rfl ((by rw [← hz1]; exact addW)))); (focus ((try simp only [Kr.PT]); first | done | rfl)))
          (refine Kr.tPQ 7 (v := ?_) (a' := ?_) rfl (by kernel_rfl) (fun _ _ _ h => h) (by rfl) (fun _ => ⟨(H.at 0 rfl), trivial⟩) (fun wx => ?_) ?_ ?_; rotate_left 2; (focus (go_simp; first | done | rfl)); (focus ((try simp only [Kr.PT]); first | done | rfl)))
          (refine Kr.tPQ 8 (v := .int .i64 (t7 : Int)) (a' := ?_) rfl (by kernel_rfl) (fun _ _ _ h => h) (by rfl) (fun _ => ⟨(H.at 0 rfl), trivial⟩) (fun wx => ?_) ?_ ?_; rotate_left 1; (focus (exact Kr.valOf rfl (subI hs7))); (focus ((try simp only [Kr.PT]); first | done | rfl)))
          (refine Kr.tPQ 9 (v := .pointer (some ⟨bw, t7, none⟩)) (a' := ?_) rfl (by kernel_rfl) (fun _ _ _ h => h) (by rfl) (fun _ => ⟨(H.at 0 rfl), trivial⟩) (fun wx => ?_) ?_ ?_; rotate_left 1; (focus (exact Kr.valOf rfl (ixA64 (by omega)))); (focus ((try simp only [Kr.PT]); first | done | rfl)))
          (refine Kr.tSQ 10 [11, 13, 14, 15] (v := .int .u32 ((x7).toNat : Int)) (a' := ?_) rfl (by kernel_rfl) (fun _ _ _ h => h) (by rfl) ⟨(H.at 0 rfl), trivial⟩ (fun wx hSx => ?_) ?_ ?_; rotate_left 1; (focus (exact Kr.valOf rfl (ldE32 (rowCell hSx.1 hg7)))); (focus ((try simp only [Kr.PT]); first | done | rfl)))
          (refine Kr.tPQ 11 (v := .int .u32 ((z2).toNat : Int)) (a' := ?_) rfl (by kernel_rfl) (fun _ _ _ h => h) (by rfl) (fun _ => ⟨(H.at 0 rfl), trivial⟩) (fun wx => ?_) ?_ ?_; rotate_left 1; (focus (exact Kr.valOf rfl ((by rw [← hz2]; exact addW)))); (focus ((try simp only [Kr.PT]); first | done | rfl)))
          (refine Kr.tPQ 12 (v := ?_) (a' := ?_) rfl (by kernel_rfl) (fun _ _ _ h => h) (by rfl) (fun _ => ⟨(H.at 0 rfl), trivial⟩) (fun wx => ?_) ?_ ?_; rotate_left 2; (focus (go_simp; first | done | rfl)); (focus ((try simp only [Kr.PT]); first | done | rfl)))
          (refine Kr.tPQ 13 (v := .int .u32 ((z3).toNat : Int)) (a' := ?_) rfl (by kernel_rfl) (fun _ _ _ h => h) (by rfl) (fun _ => ⟨(H.at 0 rfl), trivial⟩) (fun wx => ?_) ?_ ?_; rotate_left 1; (focus (exact Kr.valOf rfl ((by rw [← hz3]; exact addW)))); (focus ((try simp only [Kr.PT]); first | done | rfl)))
          (refine Kr.tPQ 14 (v := .pointer (some ⟨bw, t, none⟩)) (a' := ?_) rfl (by kernel_rfl) (fun _ _ _ h => h) (by rfl) (fun _ => ⟨(H.at 0 rfl), trivial⟩) (fun wx => ?_) ?_ ?_; rotate_left 1; (focus (exact Kr.valOf rfl (ixA64 htl))); (focus ((try simp only [Kr.PT]); first | done | rfl)))
          refine Kr.readyL (rs := [15]) (by kernel_rfl) (by simp) ?_
          refine Kr.AllL.cons rfl (fun K hK => ?_) Kr.AllL.nil
          rw [if_pos (by rfl)]
          refine wp_run rfl (stE32 (H.cell 0 rfl hv0) (H.frozen 0 rfl t)) ?_
          obtain ⟨y10, hy⟩ : ∃ y, d9.setCell ⟨bw, t, none⟩ (.int .u32 ((z3).toNat : Int)) = y := ⟨_, rfl⟩
          rw [hy]
          replace H := H.set 0 (t) hy rfl
          dsimp only [List.set] at H
          clear hy
          rw [pad64_set hlen htl] at H
          (refine Kr.outL hK (a' := ?_) ?_ (Kr.noStill (by kernel_rfl)) ?_; rotate_left; (focus ((try simp only [Kr.PT]); first | done | rfl))); clear hK K
          refine Kr.doneL (by kernel_rfl) ?_ _
          have HADD : IntKind.i64.wrap ((t : Int) + 1) = ((t + 1 : Nat) : Int) := wrap_nat (by omega) (by omega)
          go_upto_region 9 with fail
          refine Kr.seqStartW ?_
          (refine Kr.seqQ (v := ?_) (a' := ?_) (by rfl) ?_ ?_ ?_; rotate_left 2; (focus (go_simp; first | done | rfl)); (focus ((try simp only [Kr.PT]); first | done | rfl)))
          (refine Kr.seqQ (v := .int .i64 ((t + 1 : Nat) : Int)) (a' := ?_) (by rfl) ?_ ?_ ?_; rotate_left 1; (focus (exact Kr.valOf rfl (addI HADD))); (focus ((try simp only [Kr.PT]); first | done | rfl)))
          (refine Kr.seqQ (v := ?_) (a' := ?_) (by rfl) ?_ ?_ ?_; rotate_left 2; (focus (go_simp; first | done | rfl)); (focus ((try simp only [Kr.PT]); first | done | rfl)))
          refine Kr.seqDoneW ?_
          go_wp2; go_roundw
          case rel => exact ⟨t + 1, by omega, by omega, rfl, Lib.hid (by rw [sch, if_neg (by omega), hnx]; exact H)⟩
          case measure => simp [intOf]; omega
    · have hjl : j < 16 := by omega
      have HC : decide ((j : Int) < 16) = true := decide_eq_true (by omega)
      go_upto_region 3 with fail
      refine Kr.seqStartW ?_
      (refine Kr.seqQ (v := .bool true) (a' := ?_) (by rfl) ?_ ?_ ?_; rotate_left 1; (focus (exact Kr.valOf rfl (lssT HC))); (focus ((try simp only [Kr.PT]); first | done | rfl)))
      refine Kr.seqDoneW ?_
      go_upto_region 4 with fail
      refine Kr.seqStartW ?_
      (refine Kr.seqQ (v := ?_) (a' := ?_) (by rfl) ?_ ?_ ?_; rotate_left 2; (focus (go_simp; first | done | rfl)); (focus ((try simp only [Kr.PT]); first | done | rfl)))
      (refine Kr.seqQ (v := ?_) (a' := ?_) (by rfl) ?_ ?_ ?_; rotate_left 2; (focus (go_simp; first | done | rfl)); (focus ((try simp only [Kr.PT]); first | done | rfl)))
      refine Kr.seqDoneW ?_
      obtain ⟨v0, hv0⟩ := pad64_any (l := sch (wordOf l) j) (j := j) (by omega) (by omega)
      go_upto_region 5 with fail
      refine Kr.seqStartW ?_
      (refine Kr.seqQ (v := ?_) (a' := ?_) (by rfl) ?_ ?_ ?_; rotate_left 2; (focus (go_simp; first | done | rfl)); (focus ((try simp only [Kr.PT]); first | done | rfl)))
      (refine Kr.seqQ (v := ?_) (a' := ?_) (by rfl) ?_ ?_ ?_; rotate_left 2; (focus (go_simp; first | done | rfl)); (focus ((try simp only [Kr.PT]); first | done | rfl)))
      (refine Kr.seqQ (v := ?_) (a' := ?_) (by rfl) ?_ ?_ ?_; rotate_left 2; (focus (go_simp; first | done | rfl)); (focus ((try simp only [Kr.PT]); first | done | rfl)))
      refine Kr.seqR (by rfl) (fun K hK => ?_)
      go_simp
      go_at_call 29
      refine (wordAt_v (l := l) (i := j) (HB.out.grow H.g) hn (by omega) hs).mono ?_
      rintro e y11 ⟨rfl, hg⟩
      replace H := H.grow hg
      clear hg
      (refine Kr.outS hK (a' := ?_) ?_ ?_; rotate_left; (focus ((try simp only [Kr.PT]); first | done | rfl))); clear hK K
      (refine Kr.seqQ (v := .pointer (some ⟨bw, j, none⟩)) (a' := ?_) (by rfl) ?_ ?_ ?_; rotate_left 1; (focus (exact Kr.valOf rfl (ixA64 (by omega)))); (focus ((try simp only [Kr.PT]); first | done | rfl)))
      refine Kr.seqR (by rfl) (fun K hK => ?_)
      refine wp_run rfl (stE32 (H.cell 0 rfl hv0) (H.frozen 0 rfl j)) ?_
      obtain ⟨y12, hy⟩ : ∃ y, y11.setCell ⟨bw, j, none⟩ (.int .u32 ((wordOf l j).toNat : Int)) = y := ⟨_, rfl⟩
      rw [hy]
      replace H := H.set 0 (j) hy rfl
      dsimp only [List.set] at H
      clear hy
      rw [pad64_set hlen (by omega)] at H
      (refine Kr.outS hK (a' := ?_) ?_ ?_; rotate_left; (focus ((try simp only [Kr.PT]); first | done | rfl))); clear hK K
      refine Kr.seqDoneW ?_
      have HADD : IntKind.i64.wrap ((j : Int) + 1) = ((j + 1 : Nat) : Int) := wrap_nat (by omega) (by omega)
      go_upto_region 6 with fail
      refine Kr.seqStartW ?_
      (refine Kr.seqQ (v := .int .i64 ((j + 1 : Nat) : Int)) (a' := ?_) (by rfl) ?_ ?_ ?_; rotate_left 1; (focus (exact Kr.valOf rfl (addI HADD))); (focus ((try simp only [Kr.PT]); first | done | rfl)))
      (refine Kr.seqQ (v := ?_) (a' := ?_) (by rfl) ?_ ?_ ?_; rotate_left 2; (focus (go_simp; first | done | rfl)); (focus ((try simp only [Kr.PT]); first | done | rfl)))
      refine Kr.seqDoneW ?_
      go_wp2; go_roundw
      case rel => exact ⟨j + 1, by omega, rfl, Lib.hid (by rw [sch, if_pos hjl]; exact H)⟩
      case measure => simp [intOf]; omega
end Go.Proofs.YtldgjhmefaapeaaDoor.Dg


/- absorb. -/
namespace Go.Proofs.YtldgjhmefaapeaaDoor.Dg
open Go Go.RowKit Go.Proofs.YtldgjhmefaapeaaDoor.Ne Go.Proofs.YtldgjhmefaapeaaDoor.Kr

set_option linter.unusedSimpArgs false in
set_option maxRecDepth 100000 in
set_option maxHeartbeats 16000000 in
theorem absorb_v {S : S8} {b off n c : Nat} {l : List (BitVec 8)} {w : World} (hB : BytesAt b off l w) (hn : l.length ≤ n) (hl : 64 ≤ l.length) (hs : n < 9223372036854775808) (hC : Con w) :
    Calls Tryd.prog 48 #[.agg (S.list.map w32).toArray, .slice (some ⟨b, off, none⟩) n c] w fun e w' => e = .returned (.agg ((comp S (wordOf l)).list.map w32).toArray) ∧ Gr w w' := by
  have HB := Lib.hid hB; have HCN := Lib.hid hC; clear hB hC
  obtain ⟨RES, hRES⟩ : ∃ R, comp S (wordOf l) = R := ⟨_, rfl⟩
  rw [hRES]; have HRES := Lib.hid hRES; clear hRES
  obtain ⟨R, hR⟩ : ∃ R, sch (wordOf l) 64 = R := ⟨_, rfl⟩
  have HR := Lib.hid hR; have hRl : R.length = 64 := (by rw [← hR]; exact sch_length _ _); clear hR
  have hR64 : (R.map w32).length = 64 := by rw [List.length_map]; exact hRl
  have H := Ow.start w
  go_enter Tryd.func48, Tryd.ntmps48
  go_upto_region 0 with fail
  refine Kr.seqStartW ?_
  refine Kr.seqR (by rfl) (fun K hK => ?_)
  refine wp_runV rfl boxA8 ?_
  obtain ⟨y1, hy⟩ : ∃ y, w.alloc (.cells (S.list.map w32).toArray 84) = y := ⟨_, rfl⟩
  obtain ⟨bs, hb⟩ : ∃ b, w.heap.size = b := ⟨_, rfl⟩
  rw [hy, hb]
  have hg : Gr w y1 := hy ▸ (Gr.refl _).alloc _
  replace H := H.alloc hy hb
  clear hy hb hg
  (refine Kr.outS hK (a' := ?_) ?_ ?_; rotate_left; (focus ((try simp only [Kr.PT]); first | done | rfl))); clear hK K
  refine Kr.seqR (by rfl) (fun K hK => ?_)
  refine wp_runV rfl newA8 ?_
  obtain ⟨y2, hy⟩ : ∃ y, y1.alloc (.cells (List.replicate 8 (Value.int .u32 0)).toArray 84) = y := ⟨_, rfl⟩
  obtain ⟨br, hb⟩ : ∃ b, y1.heap.size = b := ⟨_, rfl⟩
  rw [hy, hb]
  have hg : Gr y1 y2 := hy ▸ (Gr.refl _).alloc _
  replace H := H.alloc hy hb
  clear hy hb hg
  (refine Kr.outS hK (a' := ?_) ?_ ?_; rotate_left; (focus ((try simp only [Kr.PT]); first | done | rfl))); clear hK K
  refine Kr.seqDoneW ?_
  go_upto_region 1 with fail
  refine Kr.seqStartW ?_
  (refine Kr.seqQ (v := ?_) (a' := ?_) (by rfl) ?_ ?_ ?_; rotate_left 2; (focus (go_simp; first | done | rfl)); (focus ((try simp only [Kr.PT]); first | done | rfl)))
  refine Kr.seqR (by rfl) (fun K hK => ?_)
  go_simp
  go_at_call 57
  have hP := schedule_v (c := c) (HB.out.grow H.g) hn hl hs
  rw [HR.out] at hP
  refine (hP).mono ?_
  rintro e y3 ⟨rfl, hg⟩
  replace H := H.grow hg
  clear hg
  clear hP
  (refine Kr.outS hK (a' := ?_) ?_ ?_; rotate_left; (focus ((try simp only [Kr.PT]); first | done | rfl))); clear hK K
  refine Kr.seqR (by rfl) (fun K hK => ?_)
  refine wp_runV rfl newA64 ?_
  obtain ⟨y4, hy⟩ : ∃ y, y3.alloc (.cells (List.replicate 64 (Value.int .u32 0)).toArray 94) = y := ⟨_, rfl⟩
  obtain ⟨bw, hb⟩ : ∃ b, y3.heap.size = b := ⟨_, rfl⟩
  rw [hy, hb]
  have hg : Gr y3 y4 := hy ▸ (Gr.refl _).alloc _
  replace H := H.alloc hy hb
  clear hy hb hg
  (refine Kr.outS hK (a' := ?_) ?_ ?_; rotate_left; (focus ((try simp only [Kr.PT]); first | done | rfl))); clear hK K
  refine Kr.seqR (by rfl) (fun K hK => ?_)
  refine wp_run rfl (stA64 (H.at 0 rfl) (by simp) hR64 (oneCell_words _)) ?_
  obtain ⟨y5, hy⟩ : ∃ y, y4.setRow bw (R.map w32).toArray = y := ⟨_, rfl⟩
  rw [hy]
  replace H := H.put 0 hy rfl
  dsimp only [List.set] at H
  clear hy
  (refine Kr.outS hK (a' := ?_) ?_ ?_; rotate_left; (focus ((try simp only [Kr.PT]); first | done | rfl))); clear hK K
  refine Kr.seqDoneW ?_
  go_upto_region 2 with fail
  refine Kr.startL (fun W' => (W'.heap[bs]? = some (.cells (S.list.map w32).toArray 84 (0, 0))) ∧ True) [] (by kernel_rfl) ?_
  have gd : Gr y5 y5.drew := (Gr.refl _).drew
  generalize y5.drew = d6 at gd ⊢
  replace H := H.grow gd
  clear gd
  (refine Kr.tPQ 0 (v := ?_) (a' := ?_) rfl (by kernel_rfl) (fun _ _ _ h => h) (by rfl) (fun _ => ⟨(H.at 2 rfl), trivial⟩) (fun wx => ?_) ?_ ?_; rotate_left 2; (focus (go_simp; first | done | rfl)); (focus ((try simp only [Kr.PT]); first | done | rfl)))
  (refine Kr.tSQ 1 [] (v := .int .u32 ((S.a).toNat : Int)) (a' := ?_) rfl (by kernel_rfl) (fun _ _ _ h => h) (by rfl) ⟨(H.at 2 rfl), trivial⟩ (fun wx hSx => ?_) ?_ ?_; rotate_left 1; (focus (exact Kr.valOf rfl (ldE32 (rowCell hSx.1 rfl)))); (focus ((try simp only [Kr.PT]); first | done | rfl)))
  (refine Kr.tPQ 2 (v := ?_) (a' := ?_) rfl (by kernel_rfl) (fun _ _ _ h => h) (by rfl) (fun _ => ⟨(H.at 2 rfl), trivial⟩) (fun wx => ?_) ?_ ?_; rotate_left 2; (focus (go_simp; first | done | rfl)); (focus ((try simp only [Kr.PT]); first | done | rfl)))
  (refine Kr.tSQ 3 [] (v := .int .u32 ((S.b).toNat : Int)) (a' := ?_) rfl (by kernel_rfl) (fun _ _ _ h => h) (by rfl) ⟨(H.at 2 rfl), trivial⟩ (fun wx hSx => ?_) ?_ ?_; rotate_left 1; (focus (exact Kr.valOf rfl (ldE32 (rowCell hSx.1 rfl)))); (focus ((try simp only [Kr.PT]); first | done | rfl)))
  (refine Kr.tPQ 4 (v := ?_) (a' := ?_) rfl (by kernel_rfl) (fun _ _ _ h => h) (by rfl) (fun _ => ⟨(H.at 2 rfl), trivial⟩) (fun wx => ?_) ?_ ?_; rotate_left 2; (focus (go_simp; first | done | rfl)); (focus ((try simp only [Kr.PT]); first | done | rfl)))
  (refine Kr.tSQ 5 [] (v := .int .u32 ((S.c).toNat : Int)) (a' := ?_) rfl (by kernel_rfl) (fun _ _ _ h => h) (by rfl) ⟨(H.at 2 rfl), trivial⟩ (fun wx hSx => ?_) ?_ ?_; rotate_left 1; (focus (exact Kr.valOf rfl (ldE32 (rowCell hSx.1 rfl)))); (focus ((try simp only [Kr.PT]); first | done | rfl)))
  (refine Kr.tPQ 6 (v := ?_) (a' := ?_) rfl (by kernel_rfl) (fun _ _ _ h => h) (by rfl) (fun _ => ⟨(H.at 2 rfl), trivial⟩) (fun wx => ?_) ?_ ?_; rotate_left 2; (focus (go_simp; first | done | rfl)); (focus ((try simp only [Kr.PT]); first | done | rfl)))
  (refine Kr.tSQ 7 [] (v := .int .u32 ((S.d).toNat : Int)) (a' := ?_) rfl (by kernel_rfl) (fun _ _ _ h => h) (by rfl) ⟨(H.at 2 rfl), trivial⟩ (fun wx hSx => ?_) ?_ ?_; rotate_left 1; (focus (exact Kr.valOf rfl (ldE32 (rowCell hSx.1 rfl)))); (focus ((try simp only [Kr.PT]); first | done | rfl)))
  (refine Kr.tPQ 8 (v := ?_) (a' := ?_) rfl (by kernel_rfl) (fun _ _ _ h => h) (by rfl) (fun _ => ⟨(H.at 2 rfl), trivial⟩) (fun wx => ?_) ?_ ?_; rotate_left 2; (focus (go_simp; first | done | rfl)); (focus ((try simp only [Kr.PT]); first | done | rfl)))
  (refine Kr.tSQ 9 [] (v := .int .u32 ((S.e).toNat : Int)) (a' := ?_) rfl (by kernel_rfl) (fun _ _ _ h => h) (by rfl) ⟨(H.at 2 rfl), trivial⟩ (fun wx hSx => ?_) ?_ ?_; rotate_left 1; (focus (exact Kr.valOf rfl (ldE32 (rowCell hSx.1 rfl)))); (focus ((try simp only [Kr.PT]); first | done | rfl)))
  (refine Kr.tPQ 10 (v := ?_) (a' := ?_) rfl (by kernel_rfl) (fun _ _ _ h => h) (by rfl) (fun _ => ⟨(H.at 2 rfl), trivial⟩) (fun wx => ?_) ?_ ?_; rotate_left 2; (focus (go_simp; first | done | rfl)); (focus ((try simp only [Kr.PT]); first | done | rfl)))
  (refine Kr.tSQ 11 [] (v := .int .u32 ((S.f).toNat : Int)) (a' := ?_) rfl (by kernel_rfl) (fun _ _ _ h => h) (by rfl) ⟨(H.at 2 rfl), trivial⟩ (fun wx hSx => ?_) ?_ ?_; rotate_left 1; (focus (exact Kr.valOf rfl (ldE32 (rowCell hSx.1 rfl)))); (focus ((try simp only [Kr.PT]); first | done | rfl)))
  (refine Kr.tPQ 12 (v := ?_) (a' := ?_) rfl (by kernel_rfl) (fun _ _ _ h => h) (by rfl) (fun _ => ⟨(H.at 2 rfl), trivial⟩) (fun wx => ?_) ?_ ?_; rotate_left 2; (focus (go_simp; first | done | rfl)); (focus ((try simp only [Kr.PT]); first | done | rfl)))
  (refine Kr.tSQ 13 [] (v := .int .u32 ((S.g).toNat : Int)) (a' := ?_) rfl (by kernel_rfl) (fun _ _ _ h => h) (by rfl) ⟨(H.at 2 rfl), trivial⟩ (fun wx hSx => ?_) ?_ ?_; rotate_left 1; (focus (exact Kr.valOf rfl (ldE32 (rowCell hSx.1 rfl)))); (focus ((try simp only [Kr.PT]); first | done | rfl)))
  (refine Kr.tPQ 14 (v := ?_) (a' := ?_) rfl (by kernel_rfl) (fun _ _ _ h => h) (by rfl) (fun _ => ⟨(H.at 2 rfl), trivial⟩) (fun wx => ?_) ?_ ?_; rotate_left 2; (focus (go_simp; first | done | rfl)); (focus ((try simp only [Kr.PT]); first | done | rfl)))
  (refine Kr.tSQ 15 [] (v := .int .u32 ((S.h).toNat : Int)) (a' := ?_) rfl (by kernel_rfl) (fun _ _ _ h => h) (by rfl) ⟨(H.at 2 rfl), trivial⟩ (fun wx hSx => ?_) ?_ ?_; rotate_left 1; (focus (exact Kr.valOf rfl (ldE32 (rowCell hSx.1 rfl)))); (focus ((try simp only [Kr.PT]); first | done | rfl)))
  (refine Kr.tPQ 16 (v := ?_) (a' := ?_) rfl (by kernel_rfl) (fun _ _ _ h => h) (by rfl) (fun _ => ⟨(H.at 2 rfl), trivial⟩) (fun wx => ?_) ?_ ?_; rotate_left 2; (focus (go_simp; first | done | rfl)); (focus ((try simp only [Kr.PT]); first | done | rfl)))
  (refine Kr.tPQ 17 (v := ?_) (a' := ?_) rfl (by kernel_rfl) (fun _ _ _ h => h) (by rfl) (fun _ => ⟨(H.at 2 rfl), trivial⟩) (fun wx => ?_) ?_ ?_; rotate_left 2; (focus (go_simp; first | done | rfl)); (focus ((try simp only [Kr.PT]); first | done | rfl)))
  (refine Kr.tPQ 18 (v := ?_) (a' := ?_) rfl (by kernel_rfl) (fun _ _ _ h => h) (by rfl) (fun _ => ⟨(H.at 2 rfl), trivial⟩) (fun wx => ?_) ?_ ?_; rotate_left 2; (focus (go_simp; first | done | rfl)); (focus ((try simp only [Kr.PT]); first | done | rfl)))
  (refine Kr.tPQ 19 (v := ?_) (a' := ?_) rfl (by kernel_rfl) (fun _ _ _ h => h) (by rfl) (fun _ => ⟨(H.at 2 rfl), trivial⟩) (fun wx => ?_) ?_ ?_; rotate_left 2; (focus (go_simp; first | done | rfl)); (focus ((try simp only [Kr.PT]); first | done | rfl)))
  (refine Kr.tPQ 20 (v := ?_) (a' := ?_) rfl (by kernel_rfl) (fun _ _ _ h => h) (by rfl) (fun _ => ⟨(H.at 2 rfl), trivial⟩) (fun wx => ?_) ?_ ?_; rotate_left 2; (focus (go_simp; first | done | rfl)); (focus ((try simp only [Kr.PT]); first | done | rfl)))
  (refine Kr.tPQ 21 (v := ?_) (a' := ?_) rfl (by kernel_rfl) (fun _ _ _ h => h) (by rfl) (fun _ => ⟨(H.at 2 rfl), trivial⟩) (fun wx => ?_) ?_ ?_; rotate_left 2; (focus (go_simp; first | done | rfl)); (focus ((try simp only [Kr.PT]); first | done | rfl)))
  (refine Kr.tPQ 22 (v := ?_) (a' := ?_) rfl (by kernel_rfl) (fun _ _ _ h => h) (by rfl) (fun _ => ⟨(H.at 2 rfl), trivial⟩) (fun wx => ?_) ?_ ?_; rotate_left 2; (focus (go_simp; first | done | rfl)); (focus ((try simp only [Kr.PT]); first | done | rfl)))
  (refine Kr.tPQ 23 (v := ?_) (a' := ?_) rfl (by kernel_rfl) (fun _ _ _ h => h) (by rfl) (fun _ => ⟨(H.at 2 rfl), trivial⟩) (fun wx => ?_) ?_ ?_; rotate_left 2; (focus (go_simp; first | done | rfl)); (focus ((try simp only [Kr.PT]); first | done | rfl)))
  refine Kr.doneL (by kernel_rfl) ?_ _
  go_upto_region 3 with fail
  refine Kr.seqStartW ?_
  (refine Kr.seqQ (v := .agg (kc.map w32).toArray) (a' := ?_) (by rfl) ?_ ?_ ?_; rotate_left 1; (focus (exact Kr.valOf rfl (loadCon (HCN.out.grow H.g)))); (focus ((try simp only [Kr.PT]); first | done | rfl)))
  (refine Kr.seqQ (v := ?_) (a' := ?_) (by rfl) ?_ ?_ ?_; rotate_left 2; (focus (go_simp; first | done | rfl)); (focus ((try simp only [Kr.PT]); first | done | rfl)))
  refine Kr.seqDoneW ?_
  have H2 := Lib.hid H; clear H
  go_wp2_with fail
  go_loopw [6, 7, 8, 9, 10, 11, 12, 13, 39] (fun s6 s7 s8 s9 s10 s11 s12 s13 i wr => ∃ (t : Nat) (Z : S8), t ≤ 64 ∧ s6 = .int .u32 ((Z.a).toNat : Int) ∧ s7 = .int .u32 ((Z.b).toNat : Int) ∧ s8 = .int .u32 ((Z.c).toNat : Int) ∧ s9 = .int .u32 ((Z.d).toNat : Int) ∧ s10 = .int .u32 ((Z.e).toNat : Int) ∧ s11 = .int .u32 ((Z.f).toNat : Int) ∧ s12 = .int .u32 ((Z.g).toNat : Int) ∧ s13 = .int .u32 ((Z.h).toNat : Int) ∧ i = .int .i64 (t : Int) ∧ Hid (rnds R t S = Z) ∧ Hid (Ow w wr [(bw, 94, R.map w32), (br, 84, List.replicate 8 (Value.int .u32 0)), (bs, 84, S.list.map w32)])) (fun _ _ _ _ _ _ _ _ i _ => 64 - (intOf i).toNat)
  case atStart => exact ⟨0, S, Nat.zero_le _, rfl, rfl, rfl, rfl, rfl, rfl, rfl, rfl, rfl, Lib.hid rfl, H2⟩
  case round =>
    clear H2; obtain ⟨t, Z, ht, rfl, rfl, rfl, rfl, rfl, rfl, rfl, rfl, rfl, HZ, HH⟩ := hrel; have H := HH.out; clear HH
    by_cases hte : t = 64
    · have HC : decide ((t : Int) < 64) = false := decide_eq_false (by omega)
      have HZ2 : Hid (rnds R 64 S = Z) := Lib.hid (by rw [← hte]; exact HZ.out); clear hte HZ
      have HE : Hid (S.add Z = RES) := Lib.hid (by rw [← HRES.out, comp, HR.out, HZ2.out]); clear HZ2 ht
      go_upto_region 4 with fail
      refine Kr.seqStartW ?_
      (refine Kr.seqQ (v := .bool false) (a' := ?_) (by rfl) ?_ ?_ ?_; rotate_left 1; (focus (exact Kr.valOf rfl (lssT HC))); (focus ((try simp only [Kr.PT]); first | done | rfl)))
      refine Kr.seqDoneW ?_
      go_upto_region 10 with fail
      refine Kr.seqStartW ?_
      (refine Kr.seqQ (v := ?_) (a' := ?_) (by rfl) ?_ ?_ ?_; rotate_left 2; (focus (go_simp; first | done | rfl)); (focus ((try simp only [Kr.PT]); first | done | rfl)))
      (refine Kr.seqQ (v := ?_) (a' := ?_) (by rfl) ?_ ?_ ?_; rotate_left 2; (focus (go_simp; first | done | rfl)); (focus ((try simp only [Kr.PT]); first | done | rfl)))
      (refine Kr.seqQ (v := ?_) (a' := ?_) (by rfl) ?_ ?_ ?_; rotate_left 2; (focus (go_simp; first | done | rfl)); (focus ((try simp only [Kr.PT]); first | done | rfl)))
      (refine Kr.seqQ (v := ?_) (a' := ?_) (by rfl) ?_ ?_ ?_; rotate_left 2; (focus (go_simp; first | done | rfl)); (focus ((try simp only [Kr.PT]); first | done | rfl)))
      (refine Kr.seqQ (v := ?_) (a' := ?_) (by rfl) ?_ ?_ ?_; rotate_left 2; (focus (go_simp; first | done | rfl)); (focus ((try simp only [Kr.PT]); first | done | rfl)))
      (refine Kr.seqQ (v := ?_) (a' := ?_) (by rfl) ?_ ?_ ?_; rotate_left 2; (focus (go_simp; first | done | rfl)); (focus ((try simp only [Kr.PT]); first | done | rfl)))
      (refine Kr.seqQ (v := ?_) (a' := ?_) (by rfl) ?_ ?_ ?_; rotate_left 2; (focus (go_simp; first | done | rfl)); (focus ((try simp only [Kr.PT]); first | done | rfl)))
      (refine Kr.seqQ (v := ?_) (a' := ?_) (by rfl) ?_ ?_ ?_; rotate_left 2; (focus (go_simp; first | done | rfl)); (focus ((try simp only [Kr.PT]); first | done | rfl)))
      (refine Kr.seqQ (v := .agg (Z.list.map w32).toArray) (a' := ?_) (by rfl) ?_ ?_ ?_; rotate_left 1; (focus (go_simp; first | done | rfl)); (focus ((try simp only [Kr.PT]); first | done | rfl)))
      (refine Kr.seqQ (v := ?_) (a' := ?_) (by rfl) ?_ ?_ ?_; rotate_left 2; (focus (go_simp; first | done | rfl)); (focus ((try simp only [Kr.PT]); first | done | rfl)))
      refine Kr.seqDoneW ?_
      rw [← mix_zero S Z.list] at H
      have H2 := Lib.hid H; clear H HC
      go_wp2_with fail
      go_loopw [110] (fun iv wr => ∃ i : Nat, i ≤ 8 ∧ iv = .int .i64 (i : Int) ∧ Hid (Ow w wr [(bw, 94, R.map w32), (br, 84, List.replicate 8 (Value.int .u32 0)), (bs, 84, (mix i S.list Z.list).map w32)])) (fun iv _ => 8 - (intOf iv).toNat)
      case atStart => exact ⟨0, Nat.zero_le _, rfl, H2⟩
      case round =>
        clear H2; obtain ⟨i, hi, rfl, HH⟩ := hrel; have H := HH.out; clear HH
        by_cases hie : i = 8
        · have HC : decide ((i : Int) < 8) = false := decide_eq_false (by omega)
          rw [hie, mix_full, HE.out] at H; clear hie hi
          go_upto_region 11 with fail
          refine Kr.seqStartW ?_
          (refine Kr.seqQ (v := .bool false) (a' := ?_) (by rfl) ?_ ?_ ?_; rotate_left 1; (focus (exact Kr.valOf rfl (lssT HC))); (focus ((try simp only [Kr.PT]); first | done | rfl)))
          refine Kr.seqDoneW ?_
          go_upto_region 15 with fail
          refine Kr.seqStartW ?_
          (refine Kr.seqQ (v := .agg (RES.list.map w32).toArray) (a' := ?_) (by rfl) ?_ ?_ ?_; rotate_left 1; (focus (exact Kr.valOf rfl (ldA8 (H.at 2 rfl) rfl))); (focus ((try simp only [Kr.PT]); first | done | rfl)))
          refine Kr.seqR (by rfl) (fun K hK => ?_)
          refine wp_run rfl (stA8 (H.at 1 rfl) (by simp) rfl (oneCell_words _)) ?_
          obtain ⟨y7, hy⟩ : ∃ y, wr.setRow br (RES.list.map w32).toArray = y := ⟨_, rfl⟩
          rw [hy]
          replace H := H.put 1 hy rfl
          dsimp only [List.set] at H
          clear hy
          (refine Kr.outS hK (a' := ?_) ?_ ?_; rotate_left; (focus ((try simp only [Kr.PT]); first | done | rfl))); clear hK K
          refine Kr.seqDoneW ?_
          go_wp2
          refine bodyPost_ret (v := .agg (RES.list.map w32).toArray) (results_cell_row rfl _ _ br 84 _ _ _ (by rfl) (H.at 1 rfl) Tryd.underlying84 rfl (by rw [List.size_toArray, (show (RES.list.map w32).length = 8 from rfl)]; exact infoA8)) rfl ⟨rfl, H.g⟩
        · have hil : i < 8 := by omega
          have HC : decide ((i : Int) < 8) = true := decide_eq_true (by omega)
          obtain ⟨x0, hx0⟩ : ∃ x, Z.list.getD i 0 = x := ⟨_, rfl⟩
          obtain ⟨y0, hy0⟩ : ∃ x, S.list.getD i 0 = x := ⟨_, rfl⟩
          have hgx : Z.list[i]? = some x0 := hx0 ▸ getD_of hil
          have hgy : (mix i S.list Z.list)[i]? = some y0 := hy0 ▸ mix_get hil
          obtain ⟨z0, hz0⟩ : ∃ z, y0 + x0 = z := ⟨_, rfl⟩
          have hset : ((mix i S.list Z.list).map w32).set i (.int .u32 (z0.toNat : Int)) = (mix (i + 1) S.list Z.list).map w32 := by rw [map_set32, ← hz0, ← hx0, ← hy0, mix_set hil]
          go_upto_region 11 with fail
          refine Kr.seqStartW ?_
          (refine Kr.seqQ (v := .bool true) (a' := ?_) (by rfl) ?_ ?_ ?_; rotate_left 1; (focus (exact Kr.valOf rfl (lssT HC))); (focus ((try simp only [Kr.PT]); first | done | rfl)))
          refine Kr.seqDoneW ?_
          go_upto_region 12 with fail
          refine Kr.seqStartW ?_
          (refine Kr.seqQ (v := ?_) (a' := ?_) (by rfl) ?_ ?_ ?_; rotate_left 2; (focus (go_simp; first | done | rfl)); (focus ((try simp only [Kr.PT]); first | done | rfl)))
          (refine Kr.seqQ (v := .int .u32 ((x0).toNat : Int)) (a' := ?_) (by rfl) ?_ ?_ ?_; rotate_left 1; (focus (exact Kr.valOf rfl (atA8 (l := Z.list.map w32) rfl (map_get32 hgx)))); (focus ((try simp only [Kr.PT]); first | done | rfl)))
          (refine Kr.seqQ (v := ?_) (a' := ?_) (by rfl) ?_ ?_ ?_; rotate_left 2; (focus (go_simp; first | done | rfl)); (focus ((try simp only [Kr.PT]); first | done | rfl)))
          (refine Kr.seqQ (v := ?_) (a' := ?_) (by rfl) ?_ ?_ ?_; rotate_left 2; (focus (go_simp; first | done | rfl)); (focus ((try simp only [Kr.PT]); first | done | rfl)))
          refine Kr.seqDoneW ?_
          go_upto_region 13 with fail
          refine Kr.seqStartW ?_
          (refine Kr.seqQ (v := ?_) (a' := ?_) (by rfl) ?_ ?_ ?_; rotate_left 2; (focus (go_simp; first | done | rfl)); (focus ((try simp only [Kr.PT]); first | done | rfl)))
          (refine Kr.seqQ (v := .pointer (some ⟨bs, i, none⟩)) (a' := ?_) (by rfl) ?_ ?_ ?_; rotate_left 1; (focus (exact Kr.valOf rfl (ixA8 hil))); (focus ((try simp only [Kr.PT]); first | done | rfl)))
          (refine Kr.seqQ (v := .int .u32 ((y0).toNat : Int)) (a' := ?_) (by rfl) ?_ ?_ ?_; rotate_left 1; (focus (exact Kr.valOf rfl (ldE32 (rowCell (H.at 2 rfl) (map_get32 hgy))))); (focus ((try simp only [Kr.PT]); first | done | rfl)))
          (refine Kr.seqQ (v := ?_) (a' := ?_) (by rfl) ?_ ?_ ?_; rotate_left 2; (focus (go_simp; first | done | rfl)); (focus ((try simp only [Kr.PT]); first | done | rfl)))
          (refine Kr.seqQ (v := .int .u32 ((z0).toNat : Int)) (a' := ?_) (by rfl) ?_ ?_ ?_; rotate_left 1; (focus (exact Kr.valOf rfl ((by rw [← hz0]; exact addW)))); (focus ((try simp only [Kr.PT]); first | done | rfl)))
          (refine Kr.seqQ (v := .pointer (some ⟨bs, i, none⟩)) (a' := ?_) (by rfl) ?_ ?_ ?_; rotate_left 1; (focus (exact Kr.valOf rfl (ixA8 hil))); (focus ((try simp only [Kr.PT]); first | done | rfl)))
          refine Kr.seqR (by rfl) (fun K hK => ?_)
          refine wp_run rfl (stE32 (H.cell 2 rfl (map_get32 hgy)) (H.frozen 2 rfl i)) ?_
          obtain ⟨y8, hy⟩ : ∃ y, wr.setCell ⟨bs, i, none⟩ (.int .u32 ((z0).toNat : Int)) = y := ⟨_, rfl⟩
          rw [hy]
          replace H := H.set 2 (i) hy rfl
          dsimp only [List.set] at H
          clear hy
          rw [hset] at H
          (refine Kr.outS hK (a' := ?_) ?_ ?_; rotate_left; (focus ((try simp only [Kr.PT]); first | done | rfl))); clear hK K
          refine Kr.seqDoneW ?_
          have HADD : IntKind.i64.wrap ((i : Int) + 1) = ((i + 1 : Nat) : Int) := wrap_nat (by omega) (by omega)
          go_upto_region 14 with fail
          refine Kr.seqStartW ?_
          (refine Kr.seqQ (v := .int .i64 ((i + 1 : Nat) : Int)) (a' := ?_) (by rfl) ?_ ?_ ?_; rotate_left 1; (focus (exact Kr.valOf rfl (addI HADD))); (focus ((try simp only [Kr.PT]); first | done | rfl)))
          (refine Kr.seqQ (v := ?_) (a' := ?_) (by rfl) ?_ ?_ ?_; rotate_left 2; (focus (go_simp; first | done | rfl)); (focus ((try simp only [Kr.PT]); first | done | rfl)))
          refine Kr.seqDoneW ?_
          go_wp2; go_roundw
          case rel => exact ⟨i + 1, by omega, rfl, Lib.hid H⟩
          case measure => simp [intOf]; omega
    · have htl : t < 64 := by omega
      have HC : decide ((t : Int) < 64) = true := decide_eq_true (by omega)
      obtain ⟨k0, hk0⟩ : ∃ x, kc.getD t 0 = x := ⟨_, rfl⟩
      have hgk : kc[t]? = some k0 := hk0 ▸ getD_of (show t < kc.length from htl)
      obtain ⟨x0, hx0⟩ : ∃ x, R.getD t 0 = x := ⟨_, rfl⟩
      have hgx : R[t]? = some x0 := hx0 ▸ getD_of (by rw [hRl]; exact htl)
      go_upto_region 4 with fail
      refine Kr.seqStartW ?_
      (refine Kr.seqQ (v := .bool true) (a' := ?_) (by rfl) ?_ ?_ ?_; rotate_left 1; (focus (exact Kr.valOf rfl (lssT HC))); (focus ((try simp only [Kr.PT]); first | done | rfl)))
      refine Kr.seqDoneW ?_
      go_upto_region 5 with fail
      refine Kr.seqStartW ?_
      (refine Kr.seqQ (v := ?_) (a' := ?_) (by rfl) ?_ ?_ ?_; rotate_left 2; (focus (go_simp; first | done | rfl)); (focus ((try simp only [Kr.PT]); first | done | rfl)))
      (refine Kr.seqQ (v := .int .u32 ((k0).toNat : Int)) (a' := ?_) (by rfl) ?_ ?_ ?_; rotate_left 1; (focus (exact Kr.valOf rfl (atA64 (l := kc.map w32) rfl (map_get32 hgk)))); (focus ((try simp only [Kr.PT]); first | done | rfl)))
      (refine Kr.seqQ (v := ?_) (a' := ?_) (by rfl) ?_ ?_ ?_; rotate_left 2; (focus (go_simp; first | done | rfl)); (focus ((try simp only [Kr.PT]); first | done | rfl)))
      (refine Kr.seqQ (v := ?_) (a' := ?_) (by rfl) ?_ ?_ ?_; rotate_left 2; (focus (go_simp; first | done | rfl)); (focus ((try simp only [Kr.PT]); first | done | rfl)))
      refine Kr.seqDoneW ?_
      obtain ⟨r6, hr6⟩ : ∃ z, rr Z.e 6 = z := ⟨_, rfl⟩
      obtain ⟨r11, hr11⟩ : ∃ z, rr Z.e 11 = z := ⟨_, rfl⟩
      obtain ⟨p1, hp1⟩ : ∃ z, r6 ^^^ r11 = z := ⟨_, rfl⟩
      obtain ⟨r25, hr25⟩ : ∃ z, rr Z.e 25 = z := ⟨_, rfl⟩
      obtain ⟨p2, hp2⟩ : ∃ z, p1 ^^^ r25 = z := ⟨_, rfl⟩
      obtain ⟨p3, hp3⟩ : ∃ z, Z.h + p2 = z := ⟨_, rfl⟩
      obtain ⟨m1, hm1⟩ : ∃ z, Z.e &&& Z.f = z := ⟨_, rfl⟩
      obtain ⟨n1, hn1⟩ : ∃ z, ~~~Z.e = z := ⟨_, rfl⟩
      obtain ⟨m2, hm2⟩ : ∃ z, n1 &&& Z.g = z := ⟨_, rfl⟩
      obtain ⟨m3, hm3⟩ : ∃ z, m1 ^^^ m2 = z := ⟨_, rfl⟩
      obtain ⟨p4, hp4⟩ : ∃ z, p3 + m3 = z := ⟨_, rfl⟩
      obtain ⟨p5, hp5⟩ : ∃ z, p4 + k0 = z := ⟨_, rfl⟩
      obtain ⟨p6, hp6⟩ : ∃ z, p5 + x0 = z := ⟨_, rfl⟩
      obtain ⟨r2, hr2⟩ : ∃ z, rr Z.a 2 = z := ⟨_, rfl⟩
      obtain ⟨r13, hr13⟩ : ∃ z, rr Z.a 13 = z := ⟨_, rfl⟩
      obtain ⟨q1, hq1⟩ : ∃ z, r2 ^^^ r13 = z := ⟨_, rfl⟩
      obtain ⟨r22, hr22⟩ : ∃ z, rr Z.a 22 = z := ⟨_, rfl⟩
      obtain ⟨q2, hq2⟩ : ∃ z, q1 ^^^ r22 = z := ⟨_, rfl⟩
      obtain ⟨n2, hn2⟩ : ∃ z, Z.a &&& Z.b = z := ⟨_, rfl⟩
      obtain ⟨n3, hn3⟩ : ∃ z, Z.a &&& Z.c = z := ⟨_, rfl⟩
      obtain ⟨n4, hn4⟩ : ∃ z, n2 ^^^ n3 = z := ⟨_, rfl⟩
      obtain ⟨n5, hn5⟩ : ∃ z, Z.b &&& Z.c = z := ⟨_, rfl⟩
      obtain ⟨n6, hn6⟩ : ∃ z, n4 ^^^ n5 = z := ⟨_, rfl⟩
      obtain ⟨U, hU⟩ : ∃ z, q2 + n6 = z := ⟨_, rfl⟩
      obtain ⟨e1, he1⟩ : ∃ z, Z.d + p6 = z := ⟨_, rfl⟩
      obtain ⟨a1, ha1⟩ : ∃ z, p6 + U = z := ⟨_, rfl⟩
      have hT1 : T1 Z k0 x0 = p6 := by unfold T1; rw [hr6, hr11, hr25, hp1, hp2, hp3, hm1, hn1, hm2, hm3, hp4, hp5, hp6]
      have hT2 : T2 Z = U := by unfold T2; rw [hr2, hr13, hr22, hq1, hq2, hn2, hn3, hn4, hn5, hn6, hU]
      have HN : Hid (rnds R (t + 1) S = ⟨a1, Z.a, Z.b, Z.c, e1, Z.e, Z.f, Z.g⟩) := Lib.hid (by rw [rnds, HZ.out, hk0, hx0, rnd, hT1, hT2, ha1, he1])
      go_upto_region 6 with fail
      refine Kr.startL (fun W' => (W'.heap[bw]? = some (.cells (R.map w32).toArray 94 (0, 0))) ∧ True) [] (by kernel_rfl) ?_
      have gd : Gr wr wr.drew := (Gr.refl _).drew
      generalize wr.drew = d9 at gd ⊢
      replace H := H.grow gd
      clear gd
      (refine Kr.tPQ 0 (v := ?_) (a' := ?_) rfl (by kernel_rfl) (fun _ _ _ h => h) (by rfl) (fun _ => ⟨(H.at 0 rfl), trivial⟩) (fun wx => ?_) ?_ ?_; rotate_left 2; (focus (go_simp; first | done | rfl)); (focus ((try simp only [Kr.PT]); first | done | rfl)))
      (refine Kr.tPQ 1 (v := ?_) (a' := ?_) rfl (by kernel_rfl) (fun _ _ _ h => h) (by rfl) (fun _ => ⟨(H.at 0 rfl), trivial⟩) (fun wx => ?_) ?_ ?_; rotate_left 2; (focus (go_simp; first | done | rfl)); (focus ((try simp only [Kr.PT]); first | done | rfl)))
      (refine Kr.tPQ 3 (v := ?_) (a' := ?_) rfl (by kernel_rfl) (fun _ _ _ h => h) (by rfl) (fun _ => ⟨(H.at 0 rfl), trivial⟩) (fun wx => ?_) ?_ ?_; rotate_left 2; (focus (go_simp; first | done | rfl)); (focus ((try simp only [Kr.PT]); first | done | rfl)))
      (refine Kr.tPQ 6 (v := ?_) (a' := ?_) rfl (by kernel_rfl) (fun _ _ _ h => h) (by rfl) (fun _ => ⟨(H.at 0 rfl), trivial⟩) (fun wx => ?_) ?_ ?_; rotate_left 2; (focus (go_simp; first | done | rfl)); (focus ((try simp only [Kr.PT]); first | done | rfl)))
      (refine Kr.tPQ 10 (v := ?_) (a' := ?_) rfl (by kernel_rfl) (fun _ _ _ h => h) (by rfl) (fun _ => ⟨(H.at 0 rfl), trivial⟩) (fun wx => ?_) ?_ ?_; rotate_left 2; (focus (go_simp; first | done | rfl)); (focus ((try simp only [Kr.PT]); first | done | rfl)))
      (refine Kr.tPQ 11 (v := ?_) (a' := ?_) rfl (by kernel_rfl) (fun _ _ _ h => h) (by rfl) (fun _ => ⟨(H.at 0 rfl), trivial⟩) (fun wx => ?_) ?_ ?_; rotate_left 2; (focus (go_simp; first | done | rfl)); (focus ((try simp only [Kr.PT]); first | done | rfl)))
      (refine Kr.tPQ 12 (v := .int .u32 ((m1).toNat : Int)) (a' := ?_) rfl (by kernel_rfl) (fun _ _ _ h => h) (by rfl) (fun _ => ⟨(H.at 0 rfl), trivial⟩) (fun wx => ?_) ?_ ?_; rotate_left 1; (focus (exact Kr.valOf rfl ((by rw [← hm1]; exact andW)))); (focus ((try simp only [Kr.PT]); first | done | rfl)))
      (refine Kr.tPQ 13 (v := ?_) (a' := ?_) rfl (by kernel_rfl) (fun _ _ _ h => h) (by rfl) (fun _ => ⟨(H.at 0 rfl), trivial⟩) (fun wx => ?_) ?_ ?_; rotate_left 2; (focus (go_simp; first | done | rfl)); (focus ((try simp only [Kr.PT]); first | done | rfl)))
      (refine Kr.tPQ 14 (v := .int .u32 ((n1).toNat : Int)) (a' := ?_) rfl (by kernel_rfl) (fun _ _ _ h => h) (by rfl) (fun _ => ⟨(H.at 0 rfl), trivial⟩) (fun wx => ?_) ?_ ?_; rotate_left 1; (focus (exact Kr.valOf rfl ((by rw [← hn1]; exact notW)))); (focus ((try simp only [Kr.PT]); first | done | rfl)))
      (refine Kr.tPQ 15 (v := ?_) (a' := ?_) rfl (by kernel_rfl) (fun _ _ _ h => h) (by rfl) (fun _ => ⟨(H.at 0 rfl), trivial⟩) (fun wx => ?_) ?_ ?_; rotate_left 2; (focus (go_simp; first | done | rfl)); (focus ((try simp only [Kr.PT]); first | done | rfl)))
      (refine Kr.tPQ 16 (v := .int .u32 ((m2).toNat : Int)) (a' := ?_) rfl (by kernel_rfl) (fun _ _ _ h => h) (by rfl) (fun _ => ⟨(H.at 0 rfl), trivial⟩) (fun wx => ?_) ?_ ?_; rotate_left 1; (focus (exact Kr.valOf rfl ((by rw [← hm2]; exact andW)))); (focus ((try simp only [Kr.PT]); first | done | rfl)))
      (refine Kr.tPQ 17 (v := .int .u32 ((m3).toNat : Int)) (a' := ?_) rfl (by kernel_rfl) (fun _ _ _ h => h) (by rfl) (fun _ => ⟨(H.at 0 rfl), trivial⟩) (fun wx => ?_) ?_ ?_; rotate_left 1; (focus (exact Kr.valOf rfl ((by rw [← hm3]; exact xorW)))); (focus ((try simp only [Kr.PT]); first | done | rfl)))
      (refine Kr.tPQ 19 (v := ?_) (a' := ?_) rfl (by kernel_rfl) (fun _ _ _ h => h) (by rfl) (fun _ => ⟨(H.at 0 rfl), trivial⟩) (fun wx => ?_) ?_ ?_; rotate_left 2; (focus (go_simp; first | done | rfl)); (focus ((try simp only [Kr.PT]); first | done | rfl)))
      (refine Kr.tPQ 21 (v := ?_) (a' := ?_) rfl (by kernel_rfl) (fun _ _ _ h => h) (by rfl) (fun _ => ⟨(H.at 0 rfl), trivial⟩) (fun wx => ?_) ?_ ?_; rotate_left 2; (focus (go_simp; first | done | rfl)); (focus ((try simp only [Kr.PT]); first | done | rfl)))
      (refine Kr.tPQ 22 (v := .pointer (some ⟨bw, t, none⟩)) (a' := ?_) rfl (by kernel_rfl) (fun _ _ _ h => h) (by rfl) (fun _ => ⟨(H.at 0 rfl), trivial⟩) (fun wx => ?_) ?_ ?_; rotate_left 1; (focus (exact Kr.valOf rfl (ixA64 htl))); (focus ((try simp only [Kr.PT]); first | done | rfl)))
      (refine Kr.tSQ 23 [] (v := .int .u32 ((x0).toNat : Int)) (a' := ?_) rfl (by kernel_rfl) (fun _ _ _ h => h) (by rfl) ⟨(H.at 0 rfl), trivial⟩ (fun wx hSx => ?_) ?_ ?_; rotate_left 1; (focus (exact Kr.valOf rfl (ldE32 (rowCell hSx.1 (map_get32 hgx))))); (focus ((try simp only [Kr.PT]); first | done | rfl)))
      refine Kr.readyL (rs := [2]) (by kernel_rfl) (by simp) ?_
      refine Kr.AllL.cons rfl (fun K hK => ?_) Kr.AllL.nil
      go_simp
      go_at_call 58
      have hP := turn_v (x := Z.e) (n := 6) (w := d9) (by decide) (by decide)
      rw [hr6] at hP
      refine (hP).mono ?_
      rintro e y10 ⟨rfl, hg⟩
      replace H := H.grow hg
      clear hg
      clear hP
      (refine Kr.outL hK (a' := ?_) ?_ (fun _ => ⟨(H.at 0 rfl), trivial⟩) ?_; rotate_left; (focus ((try simp only [Kr.PT]); first | done | rfl))); clear hK K
      refine Kr.readyL (rs := [4]) (by kernel_rfl) (by simp) ?_
      refine Kr.AllL.cons rfl (fun K hK => ?_) Kr.AllL.nil
      go_simp
      go_at_call 58
      have hP := turn_v (x := Z.e) (n := 11) (w := y10) (by decide) (by decide)
      rw [hr11] at hP
      refine (hP).mono ?_
      rintro e y11 ⟨rfl, hg⟩
      replace H := H.grow hg
      clear hg
      clear hP
      (refine Kr.outL hK (a' := ?_) ?_ (fun _ => ⟨(H.at 0 rfl), trivial⟩) ?_; rotate_left; (focus ((try simp only [Kr.PT]); first | done | rfl))); clear hK K
      (refine Kr.tPQ 5 (v := .int .u32 ((p1).toNat : Int)) (a' := ?_) rfl (by kernel_rfl) (fun _ _ _ h => h) (by rfl) (fun _ => ⟨(H.at 0 rfl), trivial⟩) (fun wx => ?_) ?_ ?_; rotate_left 1; (focus (exact Kr.valOf rfl ((by rw [← hp1]; exact xorW)))); (focus ((try simp only [Kr.PT]); first | done | rfl)))
      refine Kr.readyL (rs := [7]) (by kernel_rfl) (by simp) ?_
      refine Kr.AllL.cons rfl (fun K hK => ?_) Kr.AllL.nil
      go_simp
      go_at_call 58
      have hP := turn_v (x := Z.e) (n := 25) (w := y11) (by decide) (by decide)
      rw [hr25] at hP
      refine (hP).mono ?_
      rintro e y12 ⟨rfl, hg⟩
      replace H := H.grow hg
      clear hg
      clear hP
      (refine Kr.outL hK (a' := ?_) ?_ (fun _ => ⟨(H.at 0 rfl), trivial⟩) ?_; rotate_left; (focus ((try simp only [Kr.PT]); first | done | rfl))); clear hK K
      (refine Kr.tPQ 8 (v := .int .u32 ((p2).toNat : Int)) (a' := ?_) rfl (by kernel_rfl) (fun _ _ _ h => h) (by rfl) (fun _ => ⟨(H.at 0 rfl), trivial⟩) (fun wx => ?_) ?_ ?_; rotate_left 1; (focus (exact Kr.valOf rfl ((by rw [← hp2]; exact xorW)))); (focus ((try simp only [Kr.PT]); first | done | rfl)))
      (refine Kr.tPQ 9 (v := .int .u32 ((p3).toNat : Int)) (a' := ?_) rfl (by kernel_rfl) (fun _ _ _ h => h) (by rfl) (fun _ => ⟨(H.at 0 rfl), trivial⟩) (fun wx => ?_) ?_ ?_; rotate_left 1; (focus (exact Kr.valOf rfl ((by rw [← hp3]; exact addW)))); (focus ((try simp only [Kr.PT]); first | done | rfl)))
      (refine Kr.tPQ 18 (v := .int .u32 ((p4).toNat : Int)) (a' := ?_) rfl (by kernel_rfl) (fun _ _ _ h => h) (by rfl) (fun _ => ⟨(H.at 0 rfl), trivial⟩) (fun wx => ?_) ?_ ?_; rotate_left 1; (focus (exact Kr.valOf rfl ((by rw [← hp4]; exact addW)))); (focus ((try simp only [Kr.PT]); first | done | rfl)))
      (refine Kr.tPQ 20 (v := .int .u32 ((p5).toNat : Int)) (a' := ?_) rfl (by kernel_rfl) (fun _ _ _ h => h) (by rfl) (fun _ => ⟨(H.at 0 rfl), trivial⟩) (fun wx => ?_) ?_ ?_; rotate_left 1; (focus (exact Kr.valOf rfl ((by rw [← hp5]; exact addW)))); (focus ((try simp only [Kr.PT]); first | done | rfl)))
      (refine Kr.tPQ 24 (v := .int .u32 ((p6).toNat : Int)) (a' := ?_) rfl (by kernel_rfl) (fun _ _ _ h => h) (by rfl) (fun _ => ⟨(H.at 0 rfl), trivial⟩) (fun wx => ?_) ?_ ?_; rotate_left 1; (focus (exact Kr.valOf rfl ((by rw [← hp6]; exact addW)))); (focus ((try simp only [Kr.PT]); first | done | rfl)))
      (refine Kr.tPQ 25 (v := ?_) (a' := ?_) rfl (by kernel_rfl) (fun _ _ _ h => h) (by rfl) (fun _ => ⟨(H.at 0 rfl), trivial⟩) (fun wx => ?_) ?_ ?_; rotate_left 2; (focus (go_simp; first | done | rfl)); (focus ((try simp only [Kr.PT]); first | done | rfl)))
      refine Kr.doneL (by kernel_rfl) ?_ _
      go_upto_region 7 with fail
      refine Kr.seqStartW ?_
      (refine Kr.seqQ (v := ?_) (a' := ?_) (by rfl) ?_ ?_ ?_; rotate_left 2; (focus (go_simp; first | done | rfl)); (focus ((try simp only [Kr.PT]); first | done | rfl)))
      refine Kr.seqR (by rfl) (fun K hK => ?_)
      go_simp
      go_at_call 58
      have hP := turn_v (x := Z.a) (n := 2) (w := y12) (by decide) (by decide)
      rw [hr2] at hP
      refine (hP).mono ?_
      rintro e y13 ⟨rfl, hg⟩
      replace H := H.grow hg
      clear hg
      clear hP
      (refine Kr.outS hK (a' := ?_) ?_ ?_; rotate_left; (focus ((try simp only [Kr.PT]); first | done | rfl))); clear hK K
      (refine Kr.seqQ (v := ?_) (a' := ?_) (by rfl) ?_ ?_ ?_; rotate_left 2; (focus (go_simp; first | done | rfl)); (focus ((try simp only [Kr.PT]); first | done | rfl)))
      refine Kr.seqR (by rfl) (fun K hK => ?_)
      go_simp
      go_at_call 58
      have hP := turn_v (x := Z.a) (n := 13) (w := y13) (by decide) (by decide)
      rw [hr13] at hP
      refine (hP).mono ?_
      rintro e y14 ⟨rfl, hg⟩
      replace H := H.grow hg
      clear hg
      clear hP
      (refine Kr.outS hK (a' := ?_) ?_ ?_; rotate_left; (focus ((try simp only [Kr.PT]); first | done | rfl))); clear hK K
      (refine Kr.seqQ (v := .int .u32 ((q1).toNat : Int)) (a' := ?_) (by rfl) ?_ ?_ ?_; rotate_left 1; (focus (exact Kr.valOf rfl ((by rw [← hq1]; exact xorW)))); (focus ((try simp only [Kr.PT]); first | done | rfl)))
      (refine Kr.seqQ (v := ?_) (a' := ?_) (by rfl) ?_ ?_ ?_; rotate_left 2; (focus (go_simp; first | done | rfl)); (focus ((try simp only [Kr.PT]); first | done | rfl)))
      refine Kr.seqR (by rfl) (fun K hK => ?_)
      go_simp
      go_at_call 58
      have hP := turn_v (x := Z.a) (n := 22) (w := y14) (by decide) (by decide)
      rw [hr22] at hP
      refine (hP).mono ?_
      rintro e y15 ⟨rfl, hg⟩
      replace H := H.grow hg
      clear hg
      clear hP
      (refine Kr.outS hK (a' := ?_) ?_ ?_; rotate_left; (focus ((try simp only [Kr.PT]); first | done | rfl))); clear hK K
      (refine Kr.seqQ (v := .int .u32 ((q2).toNat : Int)) (a' := ?_) (by rfl) ?_ ?_ ?_; rotate_left 1; (focus (exact Kr.valOf rfl ((by rw [← hq2]; exact xorW)))); (focus ((try simp only [Kr.PT]); first | done | rfl)))
      (refine Kr.seqQ (v := ?_) (a' := ?_) (by rfl) ?_ ?_ ?_; rotate_left 2; (focus (go_simp; first | done | rfl)); (focus ((try simp only [Kr.PT]); first | done | rfl)))
      (refine Kr.seqQ (v := ?_) (a' := ?_) (by rfl) ?_ ?_ ?_; rotate_left 2; (focus (go_simp; first | done | rfl)); (focus ((try simp only [Kr.PT]); first | done | rfl)))
      (refine Kr.seqQ (v := .int .u32 ((n2).toNat : Int)) (a' := ?_) (by rfl) ?_ ?_ ?_; rotate_left 1; (focus (exact Kr.valOf rfl ((by rw [← hn2]; exact andW)))); (focus ((try simp only [Kr.PT]); first | done | rfl)))
      (refine Kr.seqQ (v := ?_) (a' := ?_) (by rfl) ?_ ?_ ?_; rotate_left 2; (focus (go_simp; first | done | rfl)); (focus ((try simp only [Kr.PT]); first | done | rfl)))
      (refine Kr.seqQ (v := ?_) (a' := ?_) (by rfl) ?_ ?_ ?_; rotate_left 2; (focus (go_simp; first | done | rfl)); (focus ((try simp only [Kr.PT]); first | done | rfl)))
      (refine Kr.seqQ (v := .int .u32 ((n3).toNat : Int)) (a' := ?_) (by rfl) ?_ ?_ ?_; rotate_left 1; (focus (exact Kr.valOf rfl ((by rw [← hn3]; exact andW)))); (focus ((try simp only [Kr.PT]); first | done | rfl)))
      (refine Kr.seqQ (v := .int .u32 ((n4).toNat : Int)) (a' := ?_) (by rfl) ?_ ?_ ?_; rotate_left 1; (focus (exact Kr.valOf rfl ((by rw [← hn4]; exact xorW)))); (focus ((try simp only [Kr.PT]); first | done | rfl)))
      (refine Kr.seqQ (v := ?_) (a' := ?_) (by rfl) ?_ ?_ ?_; rotate_left 2; (focus (go_simp; first | done | rfl)); (focus ((try simp only [Kr.PT]); first | done | rfl)))
      (refine Kr.seqQ (v := ?_) (a' := ?_) (by rfl) ?_ ?_ ?_; rotate_left 2; (focus (go_simp; first | done | rfl)); (focus ((try simp only [Kr.PT]); first | done | rfl)))
      (refine Kr.seqQ (v := .int .u32 ((n5).toNat : Int)) (a' := ?_) (by rfl) ?_ ?_ ?_; rotate_left 1; (focus (exact Kr.valOf rfl ((by rw [← hn5]; exact andW)))); (focus ((try simp only [Kr.PT]); first | done | rfl)))
      (refine Kr.seqQ (v := .int .u32 ((n6).toNat : Int)) (a' := ?_) (by rfl) ?_ ?_ ?_; rotate_left 1; (focus (exact Kr.valOf rfl ((by rw [← hn6]; exact xorW)))); (focus ((try simp only [Kr.PT]); first | done | rfl)))
      (refine Kr.seqQ (v := .int .u32 ((U).toNat : Int)) (a' := ?_) (by rfl) ?_ ?_ ?_; rotate_left 1; (focus (exact Kr.valOf rfl ((by rw [← hU]; exact addW)))); (focus ((try simp only [Kr.PT]); first | done | rfl)))
      (refine Kr.seqQ (v := ?_) (a' := ?_) (by rfl) ?_ ?_ ?_; rotate_left 2; (focus (go_simp; first | done | rfl)); (focus ((try simp only [Kr.PT]); first | done | rfl)))
      refine Kr.seqDoneW ?_
      go_upto_region 8 with fail
      refine Kr.seqStartW ?_
      (refine Kr.seqQ (v := ?_) (a' := ?_) (by rfl) ?_ ?_ ?_; rotate_left 2; (focus (go_simp; first | done | rfl)); (focus ((try simp only [Kr.PT]); first | done | rfl)))
      (refine Kr.seqQ (v := ?_) (a' := ?_) (by rfl) ?_ ?_ ?_; rotate_left 2; (focus (go_simp; first | done | rfl)); (focus ((try simp only [Kr.PT]); first | done | rfl)))
      (refine Kr.seqQ (v := ?_) (a' := ?_) (by rfl) ?_ ?_ ?_; rotate_left 2; (focus (go_simp; first | done | rfl)); (focus ((try simp only [Kr.PT]); first | done | rfl)))
      (refine Kr.seqQ (v := ?_) (a' := ?_) (by rfl) ?_ ?_ ?_; rotate_left 2; (focus (go_simp; first | done | rfl)); (focus ((try simp only [Kr.PT]); first | done | rfl)))
      (refine Kr.seqQ (v := ?_) (a' := ?_) (by rfl) ?_ ?_ ?_; rotate_left 2; (focus (go_simp; first | done | rfl)); (focus ((try simp only [Kr.PT]); first | done | rfl)))
      (refine Kr.seqQ (v := .int .u32 ((e1).toNat : Int)) (a' := ?_) (by rfl) ?_ ?_ ?_; rotate_left 1; (focus (exact Kr.valOf rfl ((by rw [← he1]; exact addW)))); (focus ((try simp only [Kr.PT]); first | done | rfl)))
      (refine Kr.seqQ (v := ?_) (a' := ?_) (by rfl) ?_ ?_ ?_; rotate_left 2; (focus (go_simp; first | done | rfl)); (focus ((try simp only [Kr.PT]); first | done | rfl)))
      (refine Kr.seqQ (v := ?_) (a' := ?_) (by rfl) ?_ ?_ ?_; rotate_left 2; (focus (go_simp; first | done | rfl)); (focus ((try simp only [Kr.PT]); first | done | rfl)))
      (refine Kr.seqQ (v := ?_) (a' := ?_) (by rfl) ?_ ?_ ?_; rotate_left 2; (focus (go_simp; first | done | rfl)); (focus ((try simp only [Kr.PT]); first | done | rfl)))
      (refine Kr.seqQ (v := ?_) (a' := ?_) (by rfl) ?_ ?_ ?_; rotate_left 2; (focus (go_simp; first | done | rfl)); (focus ((try simp only [Kr.PT]); first | done | rfl)))
      (refine Kr.seqQ (v := ?_) (a' := ?_) (by rfl) ?_ ?_ ?_; rotate_left 2; (focus (go_simp; first | done | rfl)); (focus ((try simp only [Kr.PT]); first | done | rfl)))
      (refine Kr.seqQ (v := .int .u32 ((a1).toNat : Int)) (a' := ?_) (by rfl) ?_ ?_ ?_; rotate_left 1; (focus (exact Kr.valOf rfl ((by rw [← ha1]; exact addW)))); (focus ((try simp only [Kr.PT]); first | done | rfl)))
      (refine Kr.seqQ (v := ?_) (a' := ?_) (by rfl) ?_ ?_ ?_; rotate_left 2; (focus (go_simp; first | done | rfl)); (focus ((try simp only [Kr.PT]); first | done | rfl)))
      (refine Kr.seqQ (v := ?_) (a' := ?_) (by rfl) ?_ ?_ ?_; rotate_left 2; (focus (go_simp; first | done | rfl)); (focus ((try simp only [Kr.PT]); first | done | rfl)))
      (refine Kr.seqQ (v := ?_) (a' := ?_) (by rfl) ?_ ?_ ?_; rotate_left 2; (focus (go_simp; first | done | rfl)); (focus ((try simp only [Kr.PT]); first | done | rfl)))
      (refine Kr.seqQ (v := ?_) (a' := ?_) (by rfl) ?_ ?_ ?_; rotate_left 2; (focus (go_simp; first | done | rfl)); (focus ((try simp only [Kr.PT]); first | done | rfl)))
      (refine Kr.seqQ (v := ?_) (a' := ?_) (by rfl) ?_ ?_ ?_; rotate_left 2; (focus (go_simp; first | done | rfl)); (focus ((try simp only [Kr.PT]); first | done | rfl)))
      (refine Kr.seqQ (v := ?_) (a' := ?_) (by rfl) ?_ ?_ ?_; rotate_left 2; (focus (go_simp; first | done | rfl)); (focus ((try simp only [Kr.PT]); first | done | rfl)))
      (refine Kr.seqQ (v := ?_) (a' := ?_) (by rfl) ?_ ?_ ?_; rotate_left 2; (focus (go_simp; first | done | rfl)); (focus ((try simp only [Kr.PT]); first | done | rfl)))
      (refine Kr.seqQ (v := ?_) (a' := ?_) (by rfl) ?_ ?_ ?_; rotate_left 2; (focus (go_simp; first | done | rfl)); (focus ((try simp only [Kr.PT]); first | done | rfl)))
      refine Kr.seqDoneW ?_
      have HADD : IntKind.i64.wrap ((t : Int) + 1) = ((t + 1 : Nat) : Int) := wrap_nat (by omega) (by omega)
      go_upto_region 9 with fail
      refine Kr.seqStartW ?_
      (refine Kr.seqQ (v := .int .i64 ((t + 1 : Nat) : Int)) (a' := ?_) (by rfl) ?_ ?_ ?_; rotate_left 1; (focus (exact Kr.valOf rfl (addI HADD))); (focus ((try simp only [Kr.PT]); first | done | rfl)))
      (refine Kr.seqQ (v := ?_) (a' := ?_) (by rfl) ?_ ?_ ?_; rotate_left 2; (focus (go_simp; first | done | rfl)); (focus ((try simp only [Kr.PT]); first | done | rfl)))
      refine Kr.seqDoneW ?_
      go_wp2; go_roundw
      case rel => exact ⟨t + 1, ⟨a1, Z.a, Z.b, Z.c, e1, Z.e, Z.f, Z.g⟩, by omega, rfl, rfl, rfl, rfl, rfl, rfl, rfl, rfl, rfl, HN, Lib.hid H⟩
      case measure => simp [intOf]; omega
end Go.Proofs.YtldgjhmefaapeaaDoor.Dg


/- Eight bytes of a number. -/
namespace Go.Proofs.YtldgjhmefaapeaaDoor.Dg
open Go Go.RowKit Go.Proofs.YtldgjhmefaapeaaDoor.Ne Go.Proofs.YtldgjhmefaapeaaDoor.Kr

theorem ixB0 {w : World} {b n c j : Nat} (h : j < n) : (Instr.indexAt 46 (.slice (some ⟨b, 0, none⟩) n c) (.int .i64 (j : Int))).run Tryd.prog w = .ok (.pointer (some ⟨b, j, none⟩)) w := by
  rw [ixB h, Nat.zero_add]
theorem info8 : (Tryd.prog.info? 5).map (fun i => (i.zero, i.size, i.bytes)) = some (some (.int .u8 0), 1, 1) := by kernel_rfl
theorem size8 : (Tryd.prog.info? 5).map (·.size) = some 1 := by kernel_rfl
theorem info_parts {P : Program} {T : TypeId} {z : Value} {a b : Nat} (h : (P.info? T).map (fun i => (i.zero, i.size, i.bytes)) = some (some z, a, b)) : ∃ i, P.info? T = some i ∧ i.zero = some z ∧ i.size = a ∧ i.bytes = b := by
  cases hq : P.info? T with
  | none => rw [hq] at h; cases h
  | some i =>
    rw [hq] at h
    simp only [Option.map_some, Option.some.injEq, Prod.mk.injEq] at h
    exact ⟨i, rfl, h.1, h.2.1, h.2.2⟩
/-- Bytes in a row of N that is not full. -/
def padN (N : Nat) (l : List (BitVec 8)) : List Value := l.map w8 ++ List.replicate (N - l.length) (.int .u8 0)
theorem padN_nil (N : Nat) : padN N [] = List.replicate N (.int .u8 0) := rfl
theorem padN_length {N : Nat} {l : List (BitVec 8)} (h : l.length ≤ N) : (padN N l).length = N := by
  unfold padN; rw [List.length_append, List.length_map, List.length_replicate]; omega
theorem padN_full {N : Nat} {l : List (BitVec 8)} (h : l.length = N) : padN N l = l.map w8 := by
  unfold padN; rw [h]; simp
theorem padN_any {N : Nat} {l : List (BitVec 8)} {j : Nat} (hl : l.length ≤ N) (h : j < N) : ∃ v, (padN N l)[j]? = some v := ⟨_, List.getElem?_eq_getElem (by rw [padN_length hl]; exact h)⟩
theorem padN_set {N : Nat} {l : List (BitVec 8)} {t : Nat} (h : l.length = t) (ht : t < N) (x : BitVec 8) : (padN N l).set t (.int .u8 (x.toNat : Int)) = padN N (l ++ [x]) := by
  subst h
  unfold padN
  rw [List.set_append_right _ _ (by rw [List.length_map]; exact Nat.le_refl _), List.length_map, Nat.sub_self, List.map_append, List.append_assoc, List.length_append]
  congr 1
  obtain ⟨k, hk⟩ : ∃ k, N - l.length = k + 1 := ⟨N - l.length - 1, by omega⟩
  rw [hk, show N - (l.length + [x].length) = k by show N - (l.length + 1) = k; omega]
  rfl
theorem map_get8 {l : List (BitVec 8)} {i : Nat} {x : BitVec 8} (h : l[i]? = some x) : (l.map w8)[i]? = some (.int .u8 (x.toNat : Int)) := by
  rw [List.getElem?_map, h]; rfl
theorem oneCell_bytes (l : List (BitVec 8)) : ∀ v ∈ l.map w8, v.oneCell' = true := by
  intro v hv
  obtain ⟨x, _, rfl⟩ := List.mem_map.1 hv
  rfl
theorem bytesAt_row {W : World} {b : Nat} {T : TypeId} {l : List (BitVec 8)} {fr : Nat × Nat} (h : W.heap[b]? = some (.cells (l.map w8).toArray T fr)) : BytesAt b 0 l W := fun j x e => by
  rw [Nat.zero_add, cell_of_row W b j _ _ _ h]
  have h2 : (l.map w8)[j]? = some (w8 x) := map_get8 e
  simpa using h2
/-- A number in eight bytes. -/
def byteOf (n i : Nat) : BitVec 8 := BitVec.ofNat 8 (n / 2 ^ (8 * (7 - i)))
def be8 (n : Nat) : List (BitVec 8) := (List.range 8).map (byteOf n)
theorem be8_length (n : Nat) : (be8 n).length = 8 := by simp [be8]
theorem be8_take (n : Nat) {i : Nat} (h : i < 8) : (be8 n).take (i + 1) = (be8 n).take i ++ [byteOf n i] := by
  rw [List.take_add_one]
  congr 1
  simp [be8, h]
theorem mk8 {w : World} {n : Nat} (hn : n ≤ 1000000) : (Instr.makeSlice 46 (.int .i64 (n : Int)) (.int .i64 (n : Int))).run Tryd.prog w = .ok (.slice (some ⟨w.heap.size, 0, none⟩) n n) (w.alloc (.cells (List.replicate n (Value.int .u8 0)).toArray 5)) := by
  obtain ⟨i0, hi, hz0, hz1, hz2⟩ := info_parts info8
  have hr := run_make (P := Tryd.prog) w 46 5 i0 (.int .u8 0) Tryd.underlying46 hi hz0 .i64 .i64 n n (by omega) (by omega) (by rw [hz2]; omega) (by omega)
  have hm : madeCells (Value.cells (.int .u8 0)) (n * 1) = (List.replicate n (Value.int .u8 0)).toArray := by
    apply Array.ext
    · simp [madeCells]
    · intro i h1 h2
      simp [madeCells, Value.cells, Nat.mod_one]
  rw [hz1, Int.toNat_natCast, hm] at hr
  exact hr
theorem shrI {w : World} {x k q : Nat} (hk : k < 64) (hq : x / 2 ^ k = q) : (binOp .shr 3 (.int .i64 (x : Int)) (.int .i64 (k : Int))).run Tryd.prog w = .ok (.int .i64 (q : Int)) w := by
  have h1 : (x : Int) / 2 ^ k = (q : Int) := by rw [← hq]; simp
  have h2 : (x : Int) / (2 ^ k : Nat) = (q : Int) := by rw [← hq]; simp
  have hk0 : ¬ (k : Int) < 0 := by omega
  have hk1 : ¬ 64 ≤ k := by omega
  clear hq hk
  go_simp
  first | done | assumption
theorem convI8 {w : World} {q : Nat} {z : BitVec 8} (h : BitVec.ofNat 8 q = z) : (convert 3 5 (.int .i64 (q : Int))).run Tryd.prog w = .ok (.int .u8 (z.toNat : Int)) w := by
  have e : IntKind.u8.wrap (q : Int) = (z.toNat : Int) := by
    rw [IntKind.wrap_u8', ← h, BitVec.toNat_ofNat]; simp
  clear h
  go_simp
  first | done | exact e
set_option linter.unusedSimpArgs false in
set_option maxRecDepth 100000 in
set_option maxHeartbeats 16000000 in
theorem eight_v {n : Nat} {w : World} :
    Calls Tryd.prog 59 #[.int .i64 (n : Int)] w fun e w' => ∃ b, e = .returned (.slice (some ⟨b, 0, none⟩) 8 8) ∧ BytesAt b 0 (be8 n) w' ∧ Gr w w' := by
  obtain ⟨R, hR⟩ : ∃ R, be8 n = R := ⟨_, rfl⟩
  rw [hR]; have HR := Lib.hid hR; clear hR
  have H := Ow.start w
  go_enter Tryd.func59, Tryd.ntmps59
  go_upto_region 0 with fail
  refine Kr.seqStartW ?_
  (refine Kr.seqQ (v := ?_) (a' := ?_) (by rfl) ?_ ?_ ?_; rotate_left 2; (focus (go_simp; first | done | rfl)); (focus ((try simp only [Kr.PT]); first | done | rfl)))
  refine Kr.seqDoneW ?_
  go_upto_region 1 with fail
  refine Kr.seqStartW ?_
  refine Kr.seqR (by rfl) (fun K hK => ?_)
  refine wp_runV rfl (mk8 (n := 8) (by decide)) ?_
  obtain ⟨y1, hy⟩ : ∃ y, w.alloc (.cells (List.replicate 8 (Value.int .u8 0)).toArray 5) = y := ⟨_, rfl⟩
  obtain ⟨be, hb⟩ : ∃ b, w.heap.size = b := ⟨_, rfl⟩
  rw [hy, hb]
  replace H := H.alloc hy hb; clear hy hb
  (refine Kr.outS hK (a' := ?_) ?_ ?_; rotate_left; (focus ((try simp only [Kr.PT]); first | done | rfl))); clear hK K
  (refine Kr.seqQ (v := ?_) (a' := ?_) (by rfl) ?_ ?_ ?_; rotate_left 2; (focus (go_simp; first | done | rfl)); (focus ((try simp only [Kr.PT]); first | done | rfl)))
  refine Kr.seqDoneW ?_
  go_upto_region 2 with fail
  refine Kr.seqStartW ?_
  (refine Kr.seqQ (v := ?_) (a' := ?_) (by rfl) ?_ ?_ ?_; rotate_left 2; (focus (go_simp; first | done | rfl)); (focus ((try simp only [Kr.PT]); first | done | rfl)))
  (refine Kr.seqQ (v := ?_) (a' := ?_) (by rfl) ?_ ?_ ?_; rotate_left 2; (focus (go_simp; first | done | rfl)); (focus ((try simp only [Kr.PT]); first | done | rfl)))
  (refine Kr.seqQ (v := ?_) (a' := ?_) (by rfl) ?_ ?_ ?_; rotate_left 2; (focus (go_simp; first | done | rfl)); (focus ((try simp only [Kr.PT]); first | done | rfl)))
  refine Kr.seqDoneW ?_
  rw [← padN_nil] at H
  have H2 := Lib.hid H; clear H
  go_wp2_with fail
  go_loopw [8] (fun iv wr => ∃ i : Nat, i ≤ 8 ∧ iv = .int .i64 (i : Int) ∧ Hid (Ow w wr [(be, 5, padN 8 (R.take i))])) (fun iv _ => 8 - (intOf iv).toNat)
  case atStart => exact ⟨0, Nat.zero_le _, rfl, H2⟩
  case round =>
    clear H2; obtain ⟨i, hi, rfl, HH⟩ := hrel; have H := HH.out; clear HH
    have hRl : R.length = 8 := by rw [← HR.out]; exact be8_length _
    have hlen : (R.take i).length = i := by rw [List.length_take, hRl]; omega
    by_cases hie : i = 8
    · have HC : decide ((i : Int) < 8) = false := decide_eq_false (by omega)
      rw [show R.take i = R from List.take_of_length_le (by omega), padN_full hRl] at H; clear hlen hie
      go_upto_region 3 with fail
      refine Kr.seqStartW ?_
      (refine Kr.seqQ (v := .bool false) (a' := ?_) (by rfl) ?_ ?_ ?_; rotate_left 1; (focus (exact Kr.valOf rfl (lssT HC))); (focus ((try simp only [Kr.PT]); first | done | rfl)))
      refine Kr.seqDoneW ?_
      go_upto_region 7 with fail
      refine Kr.seqStartW ?_
      (refine Kr.seqQ (v := ?_) (a' := ?_) (by rfl) ?_ ?_ ?_; rotate_left 2; (focus (go_simp; first | done | rfl)); (focus ((try simp only [Kr.PT]); first | done | rfl)))
      (refine Kr.seqQ (v := ?_) (a' := ?_) (by rfl) ?_ ?_ ?_; rotate_left 2; (focus (go_simp; first | done | rfl)); (focus ((try simp only [Kr.PT]); first | done | rfl)))
      refine Kr.seqDoneW ?_
      have hk := trivial
      go_wp2
      refine bodyPost_ret (v := .slice (some ⟨be, 0, none⟩) 8 8) (by simp [results, Tryd.results59, go_sem, hk]) rfl ⟨be, rfl, bytesAt_row (H.at 0 rfl), H.g⟩
    · have hil : i < 8 := by omega
      have HC : decide ((i : Int) < 8) = true := decide_eq_true (by omega)
      obtain ⟨j, hj⟩ : ∃ j, 7 - i = j := ⟨_, rfl⟩
      obtain ⟨k, hk⟩ : ∃ k, 8 * j = k := ⟨_, rfl⟩
      obtain ⟨q, hq⟩ : ∃ q, n / 2 ^ k = q := ⟨_, rfl⟩
      obtain ⟨z, hz⟩ : ∃ z, BitVec.ofNat 8 q = z := ⟨_, rfl⟩
      have hzb : byteOf n i = z := by unfold byteOf; rw [hj, hk, hq, hz]
      have htk : R.take (i + 1) = R.take i ++ [z] := by rw [← HR.out, be8_take n hil, hzb]
      have hsub : IntKind.i64.wrap ((7 : Int) - (i : Int)) = (j : Int) := wrap_nat (by omega) (by omega)
      have hmul : IntKind.i64.wrap ((8 : Int) * (j : Int)) = (k : Int) := wrap_nat (by omega) (by omega)
      obtain ⟨v0, hv0⟩ := padN_any (N := 8) (l := R.take i) (j := i) (by omega) (by omega)
      go_upto_region 3 with fail
      refine Kr.seqStartW ?_
      (refine Kr.seqQ (v := .bool true) (a' := ?_) (by rfl) ?_ ?_ ?_; rotate_left 1; (focus (exact Kr.valOf rfl (lssT HC))); (focus ((try simp only [Kr.PT]); first | done | rfl)))
      refine Kr.seqDoneW ?_
      go_upto_region 4 with fail
      refine Kr.seqStartW ?_
      (refine Kr.seqQ (v := ?_) (a' := ?_) (by rfl) ?_ ?_ ?_; rotate_left 2; (focus (go_simp; first | done | rfl)); (focus ((try simp only [Kr.PT]); first | done | rfl)))
      (refine Kr.seqQ (v := ?_) (a' := ?_) (by rfl) ?_ ?_ ?_; rotate_left 2; (focus (go_simp; first | done | rfl)); (focus ((try simp only [Kr.PT]); first | done | rfl)))
      refine Kr.seqDoneW ?_
      go_upto_region 5 with fail
      refine Kr.seqStartW ?_
      (refine Kr.seqQ (v := ?_) (a' := ?_) (by rfl) ?_ ?_ ?_; rotate_left 2; (focus (go_simp; first | done | rfl)); (focus ((try simp only [Kr.PT]); first | done | rfl)))
      (refine Kr.seqQ (v := ?_) (a' := ?_) (by rfl) ?_ ?_ ?_; rotate_left 2; (focus (go_simp; first | done | rfl)); (focus ((try simp only [Kr.PT]); first | done | rfl)))
      (refine Kr.seqQ (v := ?_) (a' := ?_) (by rfl) ?_ ?_ ?_; rotate_left 2; (focus (go_simp; first | done | rfl)); (focus ((try simp only [Kr.PT]); first | done | rfl)))
      (refine Kr.seqQ (v := ?_) (a' := ?_) (by rfl) ?_ ?_ ?_; rotate_left 2; (focus (go_simp; first | done | rfl)); (focus ((try simp only [Kr.PT]); first | done | rfl)))
      (refine Kr.seqQ (v := .int .i64 (j : Int)) (a' := ?_) (by rfl) ?_ ?_ ?_; rotate_left 1; (focus (exact Kr.valOf rfl (subI hsub))); (focus ((try simp only [Kr.PT]); first | done | rfl)))
      (refine Kr.seqQ (v := .int .i64 (k : Int)) (a' := ?_) (by rfl) ?_ ?_ ?_; rotate_left 1; (focus (exact Kr.valOf rfl (mulI hmul))); (focus ((try simp only [Kr.PT]); first | done | rfl)))
      (refine Kr.seqQ (v := .int .i64 (q : Int)) (a' := ?_) (by rfl) ?_ ?_ ?_; rotate_left 1; (focus (exact Kr.valOf rfl (shrI (by omega) hq))); (focus ((try simp only [Kr.PT]); first | done | rfl)))
      (refine Kr.seqQ (v := .int .u8 ((z).toNat : Int)) (a' := ?_) (by rfl) ?_ ?_ ?_; rotate_left 1; (focus (exact Kr.valOf rfl (convI8 hz))); (focus ((try simp only [Kr.PT]); first | done | rfl)))
      (refine Kr.seqQ (v := .pointer (some ⟨be, i, none⟩)) (a' := ?_) (by rfl) ?_ ?_ ?_; rotate_left 1; (focus (exact Kr.valOf rfl (ixB0 (by omega)))); (focus ((try simp only [Kr.PT]); first | done | rfl)))
      refine Kr.seqR (by rfl) (fun K hK => ?_)
      refine wp_run rfl (stE8 (H.cell 0 rfl hv0) (H.frozen 0 rfl i)) ?_
      obtain ⟨y2, hy⟩ : ∃ y, wr.setCell ⟨be, i, none⟩ (.int .u8 ((z).toNat : Int)) = y := ⟨_, rfl⟩
      rw [hy]
      replace H := H.set 0 (i) hy rfl
      dsimp only [List.set] at H
      clear hy
      rw [padN_set hlen hil, ← htk] at H
      (refine Kr.outS hK (a' := ?_) ?_ ?_; rotate_left; (focus ((try simp only [Kr.PT]); first | done | rfl))); clear hK K
      refine Kr.seqDoneW ?_
      have HADD : IntKind.i64.wrap ((i : Int) + 1) = ((i + 1 : Nat) : Int) := wrap_nat (by omega) (by omega)
      go_upto_region 6 with fail
      refine Kr.seqStartW ?_
      (refine Kr.seqQ (v := .int .i64 ((i + 1 : Nat) : Int)) (a' := ?_) (by rfl) ?_ ?_ ?_; rotate_left 1; (focus (exact Kr.valOf rfl (addI HADD))); (focus ((try simp only [Kr.PT]); first | done | rfl)))
      (refine Kr.seqQ (v := ?_) (a' := ?_) (by rfl) ?_ ?_ ?_; rotate_left 2; (focus (go_simp; first | done | rfl)); (focus ((try simp only [Kr.PT]); first | done | rfl)))
      refine Kr.seqDoneW ?_
      go_wp2; go_roundw
      case rel => exact ⟨i + 1, by omega, rfl, Lib.hid H⟩
      case measure => simp [intOf]; omega
end Go.Proofs.YtldgjhmefaapeaaDoor.Dg


/- The end of the padded form. -/
namespace Go.Proofs.YtldgjhmefaapeaaDoor.Dg
open Go Go.RowKit Go.Proofs.YtldgjhmefaapeaaDoor.Ne Go.Proofs.YtldgjhmefaapeaaDoor.Kr

/-- The slice's address, where it has any byte. -/
def SrcB (p : Option Addr) (l : List (BitVec 8)) (W : World) : Prop := l = [] ∨ ∃ b off, p = some ⟨b, off, none⟩ ∧ BytesAt b off l W
theorem SrcB.grow {p : Option Addr} {l : List (BitVec 8)} {W W' : World} (h : SrcB p l W) (g : Gr W W') : SrcB p l W' :=
  h.imp id fun ⟨b, off, e, h⟩ => ⟨b, off, e, h.grow g⟩
theorem addr_add (b off j : Nat) : (⟨b, off, none⟩ : Addr).add j = ⟨b, off + j, none⟩ := by unfold Addr.add; split <;> simp_all
/-- copy into a row of one's own. -/
theorem wp_cp {o : Oper} {a : Act} {W : World} {K : Act → World → Prop} {Q : Exit → Act → World → Prop} (d s : Operand) (ho : o.op = .call { callee := .builtin .copy, args := #[d, s], argTypes := #[46, 46] })
    {b off dl dc k c : Nat} {sp : Option Addr} {cur : List Value} {l : List (BitVec 8)} (hd : a.eval d = .slice (some ⟨b, off, none⟩) dl dc) (hs : a.eval s = .slice sp k c) (hl : l.length = k) (hk : k ≤ dl) (hsrc : SrcB sp l W)
    (hg : W.heap[b]? = some (.cells cur.toArray 5 (0, 0))) (hfit : off + k ≤ cur.length)
    (h : K (a.put o.dst (goInt k)) (W.setRow b (cur.take off ++ l.map w8 ++ cur.drop (off + k)).toArray)) : o.wp Tryd.prog a W K Q := by
  rcases hsrc with h0 | ⟨sb, so, rfl, hb⟩
  · subst h0
    obtain rfl : k = 0 := hl.symm
    have hrun := run_copy_none (P := Tryd.prog) W 46 46 o.type 5 (some ⟨b, off, none⟩) sp dl dc 0 c Tryd.underlying46 size8 (Nat.zero_min _)
    have e : W.setRow b (cur.take off ++ ([] : List (BitVec 8)).map w8 ++ cur.drop (off + 0)).toArray = W := by
      rw [List.map_nil, List.append_nil, Nat.add_zero, List.take_append_drop]
      exact setRow_self W b cur.toArray _ _ hg
    rw [e] at h
    unfold Oper.wp
    simp [execOp, ho, resolve, invoke, builtin, hd, hs, hrun, Result.andThen]
    exact h
  · have hrun := run_copy_row (P := Tryd.prog) W 46 46 o.type 5 b off dl dc ⟨sb, so, none⟩ k c cur.toArray 5 (l.map w8) Tryd.underlying46 size8 hg (by rw [List.length_map, hl]; exact (Nat.min_eq_left hk).symm)
      (fun j u hu => by
        rw [List.getElem?_map] at hu
        cases hx : l[j]? with
        | none => rw [hx] at hu; cases hu
        | some x =>
          rw [hx] at hu
          cases hu
          rw [addr_add]
          exact hb j x hx)
      (by simp [hl]; exact hfit) (oneCell_bytes l)
    rw [List.length_map, hl] at hrun
    unfold Oper.wp
    simp [execOp, ho, resolve, invoke, builtin, hd, hs, hrun, Result.andThen]
    rw [List.append_assoc] at h
    exact h
/-- The end of the padded form: N bytes. -/
def padEnd (N : Nat) (l : List (BitVec 8)) (m : Nat) : List (BitVec 8) := (l ++ [128]) ++ (List.replicate (N - 8 - (l.length + 1)) 0 ++ be8 m)
theorem padEnd_length {N m : Nat} {l : List (BitVec 8)} (h : l.length + 9 ≤ N) : (padEnd N l m).length = N := by
  simp [padEnd, be8_length]; omega
theorem padN_copy {N k : Nat} {l : List (BitVec 8)} (h : l.length = k) : (padN N []).take 0 ++ l.map w8 ++ (padN N []).drop (0 + k) = padN N l := by
  unfold padN
  rw [List.map_nil, List.nil_append, List.take_zero, List.nil_append, List.drop_replicate, Nat.zero_add, h]; rfl
theorem padN_128 {N t : Nat} {l : List (BitVec 8)} (h : l.length = t) (ht : t < N) : (padN N l).set t (.int .u8 128) = padN N (l ++ [128]) := padN_set h ht 128
theorem padN_end {N m : Nat} {l : List (BitVec 8)} (h : l.length + 9 ≤ N) : (padN N (l ++ [128])).take (N - 8) ++ (be8 m).map w8 ++ (padN N (l ++ [128])).drop (N - 8 + 8) = (padEnd N l m).map w8 := by
  have e1 : (padN N (l ++ [128])).drop (N - 8 + 8) = [] := List.drop_of_length_le (by rw [padN_length (by simp; omega)]; omega)
  rw [e1, List.append_nil]
  unfold padN padEnd
  rw [List.take_append, List.map_append (l₁ := l ++ [128]), List.map_append (l₂ := be8 m), List.append_assoc]
  congr 1
  · exact List.take_of_length_le (by simp; omega)
  · congr 1
    rw [List.take_replicate, List.map_replicate, List.length_map, List.length_append]
    congr 1
    simp; omega
theorem slE128 {w : World} {b : Nat} : (Instr.sliceAt 46 (.slice (some ⟨b, 0, none⟩) 128 128) (some (.int .i64 120)) none none).run Tryd.prog w = .ok (.slice (some ⟨b, 120, none⟩) 8 8) w := by
  go_simp
theorem slE64 {w : World} {b : Nat} : (Instr.sliceAt 46 (.slice (some ⟨b, 0, none⟩) 64 64) (some (.int .i64 56)) none none).run Tryd.prog w = .ok (.slice (some ⟨b, 56, none⟩) 8 8) w := by
  go_simp
set_option linter.unusedSimpArgs false in
set_option maxRecDepth 100000 in
set_option maxHeartbeats 16000000 in
theorem pad_v {p : Option Addr} {k c n : Nat} {l : List (BitVec 8)} {w : World} (hS : SrcB p l w) (hl : l.length = k) (hk : k < 64) (hn : n < 1099511627776) :
    Calls Tryd.prog 49 #[.slice p k c, .int .i64 (n : Int)] w fun e w' => ∃ b N, e = .returned (.slice (some ⟨b, 0, none⟩) N N) ∧ BytesAt b 0 (padEnd N l (8 * n)) w' ∧ (if k + 9 > 64 then 128 else 64) = N ∧ Gr w w' := by
  have HS := Lib.hid hS; clear hS
  obtain ⟨m, hm⟩ : ∃ m, 8 * n = m := ⟨_, rfl⟩
  have hmul : IntKind.i64.wrap ((8 : Int) * (n : Int)) = (m : Int) := wrap_nat (by omega) (by omega)
  rw [hm]
  obtain ⟨k1, hk1⟩ : ∃ z, k + 1 = z := ⟨_, rfl⟩
  obtain ⟨k9, hk9⟩ : ∃ z, k1 + 8 = z := ⟨_, rfl⟩
  have ha1 : IntKind.i64.wrap ((k : Int) + 1) = (k1 : Int) := wrap_nat (by omega) (by omega)
  have ha9 : IntKind.i64.wrap ((k1 : Int) + 8) = (k9 : Int) := wrap_nat (by omega) (by omega)
  have H := Ow.start w
  go_enter Tryd.func49, Tryd.ntmps49
  go_upto_region 0 with fail
  refine Kr.seqStartW ?_
  (refine Kr.seqQ (v := ?_) (a' := ?_) (by rfl) ?_ ?_ ?_; rotate_left 2; (focus (go_simp; first | done | rfl)); (focus ((try simp only [Kr.PT]); first | done | rfl)))
  refine Kr.seqDoneW ?_
  go_upto_region 1 with fail
  refine Kr.seqStartW ?_
  (refine Kr.seqQ (v := ?_) (a' := ?_) (by rfl) ?_ ?_ ?_; rotate_left 2; (focus (go_simp; first | done | rfl)); (focus ((try simp only [Kr.PT]); first | done | rfl)))
  refine Kr.seqDoneW ?_
  by_cases hb : 64 < k9
  · have HC : decide ((64 : Int) < (k9 : Int)) = true := decide_eq_true (by omega)
    go_upto_region 2 with fail
    refine Kr.seqStartW ?_
    (refine Kr.seqQ (v := ?_) (a' := ?_) (by rfl) ?_ ?_ ?_; rotate_left 2; (focus (go_simp; first | done | rfl)); (focus ((try simp only [Kr.PT]); first | done | rfl)))
    (refine Kr.seqQ (v := ?_) (a' := ?_) (by rfl) ?_ ?_ ?_; rotate_left 2; (focus (go_simp; first | done | rfl)); (focus ((try simp only [Kr.PT]); first | done | rfl)))
    (refine Kr.seqQ (v := .int .i64 (k1 : Int)) (a' := ?_) (by rfl) ?_ ?_ ?_; rotate_left 1; (focus (exact Kr.valOf rfl (addI ha1))); (focus ((try simp only [Kr.PT]); first | done | rfl)))
    (refine Kr.seqQ (v := .int .i64 (k9 : Int)) (a' := ?_) (by rfl) ?_ ?_ ?_; rotate_left 1; (focus (exact Kr.valOf rfl (addI ha9))); (focus ((try simp only [Kr.PT]); first | done | rfl)))
    (refine Kr.seqQ (v := ?_) (a' := ?_) (by rfl) ?_ ?_ ?_; rotate_left 2; (focus (go_simp; first | done | rfl)); (focus ((try simp only [Kr.PT]); first | done | rfl)))
    (refine Kr.seqQ (v := .bool true) (a' := ?_) (by rfl) ?_ ?_ ?_; rotate_left 1; (focus (exact Kr.valOf rfl (gtrI HC))); (focus ((try simp only [Kr.PT]); first | done | rfl)))
    refine Kr.seqDoneW ?_
    go_upto_region 3 with fail
    refine Kr.seqStartW ?_
    (refine Kr.seqQ (v := ?_) (a' := ?_) (by rfl) ?_ ?_ ?_; rotate_left 2; (focus (go_simp; first | done | rfl)); (focus ((try simp only [Kr.PT]); first | done | rfl)))
    (refine Kr.seqQ (v := ?_) (a' := ?_) (by rfl) ?_ ?_ ?_; rotate_left 2; (focus (go_simp; first | done | rfl)); (focus ((try simp only [Kr.PT]); first | done | rfl)))
    (refine Kr.seqQ (v := ?_) (a' := ?_) (by rfl) ?_ ?_ ?_; rotate_left 2; (focus (go_simp; first | done | rfl)); (focus ((try simp only [Kr.PT]); first | done | rfl)))
    refine Kr.seqDoneW ?_
    go_upto_region 4 with fail
    refine Kr.seqStartW ?_
    (refine Kr.seqQ (v := ?_) (a' := ?_) (by rfl) ?_ ?_ ?_; rotate_left 2; (focus (go_simp; first | done | rfl)); (focus ((try simp only [Kr.PT]); first | done | rfl)))
    refine Kr.seqR (by rfl) (fun K hK => ?_)
    refine wp_runV rfl (mk8 (n := 128) (by decide)) ?_
    obtain ⟨y1, hy⟩ : ∃ y, w.alloc (.cells (List.replicate 128 (Value.int .u8 0)).toArray 5) = y := ⟨_, rfl⟩
    obtain ⟨be, hb2⟩ : ∃ b, w.heap.size = b := ⟨_, rfl⟩
    rw [hy, hb2]
    replace H := H.alloc hy hb2; clear hy hb2
    rw [← padN_nil] at H
    (refine Kr.outS hK (a' := ?_) ?_ ?_; rotate_left; (focus ((try simp only [Kr.PT]); first | done | rfl))); clear hK K
    (refine Kr.seqQ (v := ?_) (a' := ?_) (by rfl) ?_ ?_ ?_; rotate_left 2; (focus (go_simp; first | done | rfl)); (focus ((try simp only [Kr.PT]); first | done | rfl)))
    refine Kr.seqDoneW ?_
    go_upto_region 5 with fail
    refine Kr.seqStartW ?_
    (refine Kr.seqQ (v := ?_) (a' := ?_) (by rfl) ?_ ?_ ?_; rotate_left 2; (focus (go_simp; first | done | rfl)); (focus ((try simp only [Kr.PT]); first | done | rfl)))
    (refine Kr.seqQ (v := ?_) (a' := ?_) (by rfl) ?_ ?_ ?_; rotate_left 2; (focus (go_simp; first | done | rfl)); (focus ((try simp only [Kr.PT]); first | done | rfl)))
    refine Kr.seqR (by rfl) (fun K hK => ?_)
    refine wp_cp (.tmp 17) (.tmp 18) rfl (cur := padN 128 []) (l := l) (off := 0) rfl rfl hl (by omega) (HS.out.grow H.g) (H.at 0 rfl) (by rw [padN_length (by simp)]; omega) ?_
    rw [padN_copy hl]
    obtain ⟨y2, hy⟩ : ∃ y, y1.setRow be (padN 128 l).toArray = y := ⟨_, rfl⟩
    rw [hy]
    replace H := H.put 0 hy rfl
    dsimp only [List.set] at H
    clear hy
    (refine Kr.outS hK (a' := ?_) ?_ ?_; rotate_left; (focus ((try simp only [Kr.PT]); first | done | rfl))); clear hK K
    refine Kr.seqDoneW ?_
    obtain ⟨v0, hv0⟩ := padN_any (N := 128) (l := l) (j := k) (by omega) (by omega)
    go_upto_region 6 with fail
    refine Kr.seqStartW ?_
    (refine Kr.seqQ (v := ?_) (a' := ?_) (by rfl) ?_ ?_ ?_; rotate_left 2; (focus (go_simp; first | done | rfl)); (focus ((try simp only [Kr.PT]); first | done | rfl)))
    (refine Kr.seqQ (v := ?_) (a' := ?_) (by rfl) ?_ ?_ ?_; rotate_left 2; (focus (go_simp; first | done | rfl)); (focus ((try simp only [Kr.PT]); first | done | rfl)))
    (refine Kr.seqQ (v := ?_) (a' := ?_) (by rfl) ?_ ?_ ?_; rotate_left 2; (focus (go_simp; first | done | rfl)); (focus ((try simp only [Kr.PT]); first | done | rfl)))
    (refine Kr.seqQ (v := .pointer (some ⟨be, k, none⟩)) (a' := ?_) (by rfl) ?_ ?_ ?_; rotate_left 1; (focus (exact Kr.valOf rfl (ixB0 (by omega)))); (focus ((try simp only [Kr.PT]); first | done | rfl)))
    refine Kr.seqR (by rfl) (fun K hK => ?_)
    refine wp_run rfl (stE8 (H.cell 0 rfl hv0) (H.frozen 0 rfl k)) ?_
    obtain ⟨y3, hy⟩ : ∃ y, y2.setCell ⟨be, k, none⟩ (.int .u8 128) = y := ⟨_, rfl⟩
    rw [hy]
    replace H := H.set 0 (k) hy rfl
    dsimp only [List.set] at H
    clear hy
    rw [padN_128 hl (by omega)] at H
    (refine Kr.outS hK (a' := ?_) ?_ ?_; rotate_left; (focus ((try simp only [Kr.PT]); first | done | rfl))); clear hK K
    refine Kr.seqDoneW ?_
    go_upto_region 7 with fail
    refine Kr.startL (fun W' => True) [] (by kernel_rfl) ?_
    have gd : Gr y3 y3.drew := (Gr.refl _).drew
    generalize y3.drew = d4 at gd ⊢
    replace H := H.grow gd
    clear gd
    (refine Kr.tPQ 0 (v := ?_) (a' := ?_) rfl (by kernel_rfl) (fun _ _ _ h => h) (by rfl) (fun _ => trivial) (fun wx => ?_) ?_ ?_; rotate_left 2; (focus (go_simp; first | done | rfl)); (focus ((try simp only [Kr.PT]); first | done | rfl)))
    (refine Kr.tPQ 1 (v := ?_) (a' := ?_) rfl (by kernel_rfl) (fun _ _ _ h => h) (by rfl) (fun _ => trivial) (fun wx => ?_) ?_ ?_; rotate_left 2; (focus (go_simp; first | done | rfl)); (focus ((try simp only [Kr.PT]); first | done | rfl)))
    (refine Kr.tPQ 2 (v := .int .i64 120) (a' := ?_) rfl (by kernel_rfl) (fun _ _ _ h => h) (by rfl) (fun _ => trivial) (fun wx => ?_) ?_ ?_; rotate_left 1; (focus (exact Kr.valOf rfl (subI (z := 120) (by rfl)))); (focus ((try simp only [Kr.PT]); first | done | rfl)))
    (refine Kr.tPQ 3 (v := .slice (some ⟨be, 120, none⟩) 8 8) (a' := ?_) rfl (by kernel_rfl) (fun _ _ _ h => h) (by rfl) (fun _ => trivial) (fun wx => ?_) ?_ ?_; rotate_left 1; (focus (exact Kr.valOf rfl (slE128))); (focus ((try simp only [Kr.PT]); first | done | rfl)))
    (refine Kr.tPQ 4 (v := ?_) (a' := ?_) rfl (by kernel_rfl) (fun _ _ _ h => h) (by rfl) (fun _ => trivial) (fun wx => ?_) ?_ ?_; rotate_left 2; (focus (go_simp; first | done | rfl)); (focus ((try simp only [Kr.PT]); first | done | rfl)))
    (refine Kr.tPQ 5 (v := .int .i64 (m : Int)) (a' := ?_) rfl (by kernel_rfl) (fun _ _ _ h => h) (by rfl) (fun _ => trivial) (fun wx => ?_) ?_ ?_; rotate_left 1; (focus (exact Kr.valOf rfl (mulI hmul))); (focus ((try simp only [Kr.PT]); first | done | rfl)))
    refine Kr.readyL (rs := [6]) (by kernel_rfl) (by simp) ?_
    refine Kr.AllL.cons rfl (fun K hK => ?_) Kr.AllL.nil
    go_simp
    go_at_call 59
    refine (eight_v (n := m)).mono ?_
    rintro e y5 ⟨b8, rfl, hb8, hg⟩
    have HB8 := Lib.hid hb8; clear hb8
    replace H := H.grow hg
    clear hg
    (refine Kr.outL hK (a' := ?_) ?_ (fun _ => trivial) ?_; rotate_left; (focus ((try simp only [Kr.PT]); first | done | rfl))); clear hK K
    refine Kr.readyL (rs := [7]) (by kernel_rfl) (by simp) ?_
    refine Kr.AllL.cons rfl (fun K hK => ?_) Kr.AllL.nil
    rw [if_pos (by rfl)]
    refine wp_cp (.tmp 27) (.tmp 30) rfl (cur := padN 128 (l ++ [128])) (l := be8 m) (off := 120) rfl rfl (be8_length m) (Nat.le_refl _) (.inr ⟨b8, 0, rfl, HB8.out⟩) (H.at 0 rfl) (by rw [padN_length (by simp; omega)]; omega) ?_
    rw [show (padN 128 (l ++ [128])).take 120 ++ (be8 m).map w8 ++ (padN 128 (l ++ [128])).drop (120 + 8) = (padEnd 128 l m).map w8 from padN_end (N := 128) (by omega)]
    obtain ⟨y6, hy⟩ : ∃ y, y5.setRow be ((padEnd 128 l m).map w8).toArray = y := ⟨_, rfl⟩
    rw [hy]
    replace H := H.put 0 hy rfl
    dsimp only [List.set] at H
    clear hy
    (refine Kr.outL hK (a' := ?_) ?_ (fun _ => trivial) ?_; rotate_left; (focus ((try simp only [Kr.PT]); first | done | rfl))); clear hK K
    refine Kr.doneL (by kernel_rfl) ?_ _
    go_upto_region 8 with fail
    refine Kr.seqStartW ?_
    (refine Kr.seqQ (v := ?_) (a' := ?_) (by rfl) ?_ ?_ ?_; rotate_left 2; (focus (go_simp; first | done | rfl)); (focus ((try simp only [Kr.PT]); first | done | rfl)))
    (refine Kr.seqQ (v := ?_) (a' := ?_) (by rfl) ?_ ?_ ?_; rotate_left 2; (focus (go_simp; first | done | rfl)); (focus ((try simp only [Kr.PT]); first | done | rfl)))
    refine Kr.seqDoneW ?_
    have hk := trivial
    go_wp2
    refine bodyPost_ret (v := .slice (some ⟨be, 0, none⟩) 128 128) (by simp [results, Tryd.results49, go_sem, hk]) rfl ⟨be, 128, rfl, bytesAt_row (H.at 0 rfl), (by first | rfl | exact if_pos (by omega)), H.g⟩
  · have HC : decide ((64 : Int) < (k9 : Int)) = false := decide_eq_false (by omega)
    go_upto_region 2 with fail
    refine Kr.seqStartW ?_
    (refine Kr.seqQ (v := ?_) (a' := ?_) (by rfl) ?_ ?_ ?_; rotate_left 2; (focus (go_simp; first | done | rfl)); (focus ((try simp only [Kr.PT]); first | done | rfl)))
    (refine Kr.seqQ (v := ?_) (a' := ?_) (by rfl) ?_ ?_ ?_; rotate_left 2; (focus (go_simp; first | done | rfl)); (focus ((try simp only [Kr.PT]); first | done | rfl)))
    (refine Kr.seqQ (v := .int .i64 (k1 : Int)) (a' := ?_) (by rfl) ?_ ?_ ?_; rotate_left 1; (focus (exact Kr.valOf rfl (addI ha1))); (focus ((try simp only [Kr.PT]); first | done | rfl)))
    (refine Kr.seqQ (v := .int .i64 (k9 : Int)) (a' := ?_) (by rfl) ?_ ?_ ?_; rotate_left 1; (focus (exact Kr.valOf rfl (addI ha9))); (focus ((try simp only [Kr.PT]); first | done | rfl)))
    (refine Kr.seqQ (v := ?_) (a' := ?_) (by rfl) ?_ ?_ ?_; rotate_left 2; (focus (go_simp; first | done | rfl)); (focus ((try simp only [Kr.PT]); first | done | rfl)))
    (refine Kr.seqQ (v := .bool false) (a' := ?_) (by rfl) ?_ ?_ ?_; rotate_left 1; (focus (exact Kr.valOf rfl (gtrI HC))); (focus ((try simp only [Kr.PT]); first | done | rfl)))
    refine Kr.seqDoneW ?_
    go_upto_region 4 with fail
    refine Kr.seqStartW ?_
    (refine Kr.seqQ (v := ?_) (a' := ?_) (by rfl) ?_ ?_ ?_; rotate_left 2; (focus (go_simp; first | done | rfl)); (focus ((try simp only [Kr.PT]); first | done | rfl)))
    refine Kr.seqR (by rfl) (fun K hK => ?_)
    refine wp_runV rfl (mk8 (n := 64) (by decide)) ?_
    obtain ⟨y7, hy⟩ : ∃ y, w.alloc (.cells (List.replicate 64 (Value.int .u8 0)).toArray 5) = y := ⟨_, rfl⟩
    obtain ⟨be, hb2⟩ : ∃ b, w.heap.size = b := ⟨_, rfl⟩
    rw [hy, hb2]
    replace H := H.alloc hy hb2; clear hy hb2
    rw [← padN_nil] at H
    (refine Kr.outS hK (a' := ?_) ?_ ?_; rotate_left; (focus ((try simp only [Kr.PT]); first | done | rfl))); clear hK K
    (refine Kr.seqQ (v := ?_) (a' := ?_) (by rfl) ?_ ?_ ?_; rotate_left 2; (focus (go_simp; first | done | rfl)); (focus ((try simp only [Kr.PT]); first | done | rfl)))
    refine Kr.seqDoneW ?_
    go_upto_region 5 with fail
    refine Kr.seqStartW ?_
    (refine Kr.seqQ (v := ?_) (a' := ?_) (by rfl) ?_ ?_ ?_; rotate_left 2; (focus (go_simp; first | done | rfl)); (focus ((try simp only [Kr.PT]); first | done | rfl)))
    (refine Kr.seqQ (v := ?_) (a' := ?_) (by rfl) ?_ ?_ ?_; rotate_left 2; (focus (go_simp; first | done | rfl)); (focus ((try simp only [Kr.PT]); first | done | rfl)))
    refine Kr.seqR (by rfl) (fun K hK => ?_)
    refine wp_cp (.tmp 17) (.tmp 18) rfl (cur := padN 64 []) (l := l) (off := 0) rfl rfl hl (by omega) (HS.out.grow H.g) (H.at 0 rfl) (by rw [padN_length (by simp)]; omega) ?_
    rw [padN_copy hl]
    obtain ⟨y8, hy⟩ : ∃ y, y7.setRow be (padN 64 l).toArray = y := ⟨_, rfl⟩
    rw [hy]
    replace H := H.put 0 hy rfl
    dsimp only [List.set] at H
    clear hy
    (refine Kr.outS hK (a' := ?_) ?_ ?_; rotate_left; (focus ((try simp only [Kr.PT]); first | done | rfl))); clear hK K
    refine Kr.seqDoneW ?_
    obtain ⟨v0, hv0⟩ := padN_any (N := 64) (l := l) (j := k) (by omega) (by omega)
    go_upto_region 6 with fail
    refine Kr.seqStartW ?_
    (refine Kr.seqQ (v := ?_) (a' := ?_) (by rfl) ?_ ?_ ?_; rotate_left 2; (focus (go_simp; first | done | rfl)); (focus ((try simp only [Kr.PT]); first | done | rfl)))
    (refine Kr.seqQ (v := ?_) (a' := ?_) (by rfl) ?_ ?_ ?_; rotate_left 2; (focus (go_simp; first | done | rfl)); (focus ((try simp only [Kr.PT]); first | done | rfl)))
    (refine Kr.seqQ (v := ?_) (a' := ?_) (by rfl) ?_ ?_ ?_; rotate_left 2; (focus (go_simp; first | done | rfl)); (focus ((try simp only [Kr.PT]); first | done | rfl)))
    (refine Kr.seqQ (v := .pointer (some ⟨be, k, none⟩)) (a' := ?_) (by rfl) ?_ ?_ ?_; rotate_left 1; (focus (exact Kr.valOf rfl (ixB0 (by omega)))); (focus ((try simp only [Kr.PT]); first | done | rfl)))
    refine Kr.seqR (by rfl) (fun K hK => ?_)
    refine wp_run rfl (stE8 (H.cell 0 rfl hv0) (H.frozen 0 rfl k)) ?_
    obtain ⟨y9, hy⟩ : ∃ y, y8.setCell ⟨be, k, none⟩ (.int .u8 128) = y := ⟨_, rfl⟩
    rw [hy]
    replace H := H.set 0 (k) hy rfl
    dsimp only [List.set] at H
    clear hy
    rw [padN_128 hl (by omega)] at H
    (refine Kr.outS hK (a' := ?_) ?_ ?_; rotate_left; (focus ((try simp only [Kr.PT]); first | done | rfl))); clear hK K
    refine Kr.seqDoneW ?_
    go_upto_region 7 with fail
    refine Kr.startL (fun W' => True) [] (by kernel_rfl) ?_
    have gd : Gr y9 y9.drew := (Gr.refl _).drew
    generalize y9.drew = d10 at gd ⊢
    replace H := H.grow gd
    clear gd
    (refine Kr.tPQ 0 (v := ?_) (a' := ?_) rfl (by kernel_rfl) (fun _ _ _ h => h) (by rfl) (fun _ => trivial) (fun wx => ?_) ?_ ?_; rotate_left 2; (focus (go_simp; first | done | rfl)); (focus ((try simp only [Kr.PT]); first | done | rfl)))
    (refine Kr.tPQ 1 (v := ?_) (a' := ?_) rfl (by kernel_rfl) (fun _ _ _ h => h) (by rfl) (fun _ => trivial) (fun wx => ?_) ?_ ?_; rotate_left 2; (focus (go_simp; first | done | rfl)); (focus ((try simp only [Kr.PT]); first | done | rfl)))
    (refine Kr.tPQ 2 (v := .int .i64 56) (a' := ?_) rfl (by kernel_rfl) (fun _ _ _ h => h) (by rfl) (fun _ => trivial) (fun wx => ?_) ?_ ?_; rotate_left 1; (focus (exact Kr.valOf rfl (subI (z := 56) (by rfl)))); (focus ((try simp only [Kr.PT]); first | done | rfl)))
    (refine Kr.tPQ 3 (v := .slice (some ⟨be, 56, none⟩) 8 8) (a' := ?_) rfl (by kernel_rfl) (fun _ _ _ h => h) (by rfl) (fun _ => trivial) (fun wx => ?_) ?_ ?_; rotate_left 1; (focus (exact Kr.valOf rfl (slE64))); (focus ((try simp only [Kr.PT]); first | done | rfl)))
    (refine Kr.tPQ 4 (v := ?_) (a' := ?_) rfl (by kernel_rfl) (fun _ _ _ h => h) (by rfl) (fun _ => trivial) (fun wx => ?_) ?_ ?_; rotate_left 2; (focus (go_simp; first | done | rfl)); (focus ((try simp only [Kr.PT]); first | done | rfl)))
    (refine Kr.tPQ 5 (v := .int .i64 (m : Int)) (a' := ?_) rfl (by kernel_rfl) (fun _ _ _ h => h) (by rfl) (fun _ => trivial) (fun wx => ?_) ?_ ?_; rotate_left 1; (focus (exact Kr.valOf rfl (mulI hmul))); (focus ((try simp only [Kr.PT]); first | done | rfl)))
    refine Kr.readyL (rs := [6]) (by kernel_rfl) (by simp) ?_
    refine Kr.AllL.cons rfl (fun K hK => ?_) Kr.AllL.nil
    go_simp
    go_at_call 59
    refine (eight_v (n := m)).mono ?_
    rintro e y11 ⟨b8, rfl, hb8, hg⟩
    have HB8 := Lib.hid hb8; clear hb8
    replace H := H.grow hg
    clear hg
    (refine Kr.outL hK (a' := ?_) ?_ (fun _ => trivial) ?_; rotate_left; (focus ((try simp only [Kr.PT]); first | done | rfl))); clear hK K
    refine Kr.readyL (rs := [7]) (by kernel_rfl) (by simp) ?_
    refine Kr.AllL.cons rfl (fun K hK => ?_) Kr.AllL.nil
    rw [if_pos (by rfl)]
    refine wp_cp (.tmp 27) (.tmp 30) rfl (cur := padN 64 (l ++ [128])) (l := be8 m) (off := 56) rfl rfl (be8_length m) (Nat.le_refl _) (.inr ⟨b8, 0, rfl, HB8.out⟩) (H.at 0 rfl) (by rw [padN_length (by simp; omega)]; omega) ?_
    rw [show (padN 64 (l ++ [128])).take 56 ++ (be8 m).map w8 ++ (padN 64 (l ++ [128])).drop (56 + 8) = (padEnd 64 l m).map w8 from padN_end (N := 64) (by omega)]
    obtain ⟨y12, hy⟩ : ∃ y, y11.setRow be ((padEnd 64 l m).map w8).toArray = y := ⟨_, rfl⟩
    rw [hy]
    replace H := H.put 0 hy rfl
    dsimp only [List.set] at H
    clear hy
    (refine Kr.outL hK (a' := ?_) ?_ (fun _ => trivial) ?_; rotate_left; (focus ((try simp only [Kr.PT]); first | done | rfl))); clear hK K
    refine Kr.doneL (by kernel_rfl) ?_ _
    go_upto_region 8 with fail
    refine Kr.seqStartW ?_
    (refine Kr.seqQ (v := ?_) (a' := ?_) (by rfl) ?_ ?_ ?_; rotate_left 2; (focus (go_simp; first | done | rfl)); (focus ((try simp only [Kr.PT]); first | done | rfl)))
    (refine Kr.seqQ (v := ?_) (a' := ?_) (by rfl) ?_ ?_ ?_; rotate_left 2; (focus (go_simp; first | done | rfl)); (focus ((try simp only [Kr.PT]); first | done | rfl)))
    refine Kr.seqDoneW ?_
    have hk := trivial
    go_wp2
    refine bodyPost_ret (v := .slice (some ⟨be, 0, none⟩) 64 64) (by simp [results, Tryd.results49, go_sem, hk]) rfl ⟨be, 64, rfl, bytesAt_row (H.at 0 rfl), (by first | rfl | exact if_neg (by omega)), H.g⟩
end Go.Proofs.YtldgjhmefaapeaaDoor.Dg


/- Blocks taken in; SHA-256 as a function. -/
namespace Go.Proofs.YtldgjhmefaapeaaDoor.Dg
open Go Go.RowKit Go.Proofs.YtldgjhmefaapeaaDoor.Ne Go.Proofs.YtldgjhmefaapeaaDoor.Kr

/-- All whole blocks are taken in; what is left. -/
def absB (S : S8) (l : List (BitVec 8)) : S8 × List (BitVec 8) :=
  if 64 ≤ l.length then absB (comp S (wordOf l)) (l.drop 64) else (S, l)
termination_by l.length
decreasing_by
  rename_i h
  rw [List.length_drop]; omega
theorem absB_yes {S : S8} {l : List (BitVec 8)} (h : 64 ≤ l.length) : absB S l = absB (comp S (wordOf l)) (l.drop 64) := by
  rw [absB, if_pos h]
theorem absB_no {S : S8} {l : List (BitVec 8)} (h : l.length < 64) : absB S l = (S, l) := by
  rw [absB, if_neg (by omega)]
/-- How long the end of the padded form is. -/
def endLen (k : Nat) : Nat := if k + 9 > 64 then 128 else 64
theorem endLen_ge {k : Nat} (h : k < 64) : k + 9 ≤ endLen k := by unfold endLen; split <;> omega
theorem endLen_mod (k : Nat) : endLen k % 64 = 0 := by unfold endLen; split <;> rfl
theorem endLen_le (k : Nat) : endLen k ≤ 128 := by unfold endLen; split <;> decide
/-- The bytes of words. -/
def four (x : BitVec 32) : List (BitVec 8) := [(x >>> 24).setWidth 8, (x >>> 16).setWidth 8, (x >>> 8).setWidth 8, x.setWidth 8]
def outs (l : List (BitVec 32)) : List (BitVec 8) := l.flatMap four
theorem outs_length : ∀ l : List (BitVec 32), (outs l).length = 4 * l.length
  | [] => rfl
  | x :: r => by
    have := outs_length r
    unfold outs at this ⊢
    rw [List.flatMap_cons, List.length_append, this]
    show 4 + 4 * r.length = 4 * (r.length + 1)
    omega
theorem outs_snoc (l : List (BitVec 32)) (x : BitVec 32) : outs (l ++ [x]) = outs l ++ four x := by
  unfold outs
  rw [List.flatMap_append]; simp
/-- SHA-256. -/
def shaS (l : List (BitVec 8)) : S8 := (absB (absB s0 l).1 (padEnd (endLen (absB s0 l).2.length) (absB s0 l).2 (8 * l.length))).1
def sha (l : List (BitVec 8)) : List (BitVec 8) := outs (shaS l).list
theorem sha_length (l : List (BitVec 8)) : (sha l).length = 32 := outs_length _
def cut64 (b off c : Nat) : Addr := if c = 64 then ⟨b, off, none⟩ else ⟨b, off + 64, none⟩
theorem sl64 {w : World} {b off k c : Nat} (h1 : 64 ≤ k) (h2 : k ≤ c) : (Instr.sliceAt 46 (.slice (some ⟨b, off, none⟩) k c) (some (.int .i64 64)) none none).run Tryd.prog w = .ok (.slice (some (cut64 b off c)) (k - 64) (c - 64)) w := by
  have h3 : ¬ k < 64 := by omega
  have h4 : ¬ c < 64 := by omega
  have h5 : ¬ c < k := by omega
  by_cases h : c = 64
  · have e : cut64 b off c = ⟨b, off, none⟩ := if_pos h
    rw [e]
    go_simp
    first | done | omega
  · have e : cut64 b off c = ⟨b, off + 64, none⟩ := if_neg h
    rw [e]
    go_simp
    first | done | omega
theorem src_cut {p : Option Addr} {b off k c : Nat} {l : List (BitVec 8)} {W : World} (h : BytesAt b off l W) (hl : l.length = k) (hk : k ≤ c) (hp : p = some (cut64 b off c)) : SrcB p (l.drop 64) W := by
  rcases Nat.lt_or_ge 64 k with h1 | h1
  · refine .inr ⟨b, off + 64, by rw [hp]; unfold cut64; rw [if_neg (by omega)], fun j x hx => ?_⟩
    rw [List.getElem?_drop] at hx
    have := h _ _ hx
    rwa [show off + 64 + j = off + (64 + j) by omega]
  · exact .inl (List.drop_of_length_le (by omega))
theorem src_some {p : Option Addr} {l : List (BitVec 8)} {W : World} (h : SrcB p l W) (hl : 0 < l.length) : ∃ b off, p = some ⟨b, off, none⟩ ∧ BytesAt b off l W := by
  rcases h with h | h
  · subst h; exact absurd hl (Nat.lt_irrefl _)
  · exact h
end Go.Proofs.YtldgjhmefaapeaaDoor.Dg


/- Sum. -/
namespace Go.Proofs.YtldgjhmefaapeaaDoor.Dg
open Go Go.RowKit Go.Proofs.YtldgjhmefaapeaaDoor.Ne Go.Proofs.YtldgjhmefaapeaaDoor.Kr

theorem src_put {p : Option Addr} {l : List (BitVec 8)} {W : World} {b : Nat} {ws : List (BitVec 32)} {T : TypeId} {fr : Nat × Nat} {cs : Array Value} (h : SrcB p l W) (hb : W.heap[b]? = some (.cells (ws.map w32).toArray T fr)) : SrcB p l (W.setRow b cs) := by
  refine h.imp id fun ⟨b2, off, e, h⟩ => ⟨b2, off, e, fun j x hx => ?_⟩
  have h1 := h j x hx
  have hne : b2 ≠ b := by
    rintro rfl
    rw [cell_of_row W b2 (off + j) _ _ _ hb] at h1
    have h2 : (ws.map w32)[off + j]? = some (w8 x) := by simpa using h1
    rw [List.getElem?_map] at h2
    cases hw : ws[off + j]? with
    | none => rw [hw] at h2; cases h2
    | some y => rw [hw] at h2; cases h2
  rw [← h1]
  exact World.cell?_of_block (a := ⟨b2, off + j, none⟩) (setRow_other W b b2 cs hne)
set_option linter.unusedSimpArgs false in
set_option maxRecDepth 100000 in
set_option maxHeartbeats 16000000 in
theorem Sum_v {p : Option Addr} {n c : Nat} {l : List (BitVec 8)} {w : World} (hS : SrcB p l w) (hl : l.length = n) (hc : n ≤ c) (hn : n < 1099511627776) (hC : Con w) (hT : Sta0 w) :
    Calls Tryd.prog 38 #[.slice p n c] w fun e w' => e = .returned (.agg ((sha l).map w8).toArray) ∧ Gr w w' := by
  have HS := Lib.hid hS; have HCN := Lib.hid hC; have HT0 := Lib.hid hT; clear hS hC hT
  obtain ⟨A, hA⟩ : ∃ A, absB s0 l = A := ⟨_, rfl⟩
  obtain ⟨RES, hRES⟩ : ∃ R, shaS l = R := ⟨_, rfl⟩
  have HRES : Hid ((absB A.1 (padEnd (endLen A.2.length) A.2 (8 * n))).1 = RES) := Lib.hid (by rw [← hRES, shaS, hA, hl])
  have HA := Lib.hid hA
  have hres : sha l = outs RES.list := by rw [sha, hRES]
  rw [hres]; clear hres hRES hA
  have HL := Lib.hid hl; clear hl
  have H := Ow.start w
  go_enter Tryd.func38, Tryd.ntmps38
  go_upto_region 0 with fail
  refine Kr.seqStartW ?_
  refine Kr.seqR (by rfl) (fun K hK => ?_)
  refine wp_runV rfl newH ?_
  obtain ⟨y1, hy⟩ : ∃ y, w.alloc (.cells (List.replicate 32 (Value.int .u8 0)).toArray 23) = y := ⟨_, rfl⟩
  obtain ⟨br, hb⟩ : ∃ b, w.heap.size = b := ⟨_, rfl⟩
  rw [hy, hb]
  have hg : Gr w y1 := hy ▸ (Gr.refl _).alloc _
  replace H := H.alloc hy hb
  clear hy hb hg
  (refine Kr.outS hK (a' := ?_) ?_ ?_; rotate_left; (focus ((try simp only [Kr.PT]); first | done | rfl))); clear hK K
  refine Kr.seqDoneW ?_
  go_upto_region 1 with fail
  refine Kr.seqStartW ?_
  (refine Kr.seqQ (v := .agg (s0.list.map w32).toArray) (a' := ?_) (by rfl) ?_ ?_ ?_; rotate_left 1; (focus (exact Kr.valOf rfl (loadSta (HT0.out.grow H.g)))); (focus ((try simp only [Kr.PT]); first | done | rfl)))
  refine Kr.seqR (by rfl) (fun K hK => ?_)
  refine wp_runV rfl newA8 ?_
  obtain ⟨y2, hy⟩ : ∃ y, y1.alloc (.cells (List.replicate 8 (Value.int .u32 0)).toArray 84) = y := ⟨_, rfl⟩
  obtain ⟨bs, hb⟩ : ∃ b, y1.heap.size = b := ⟨_, rfl⟩
  rw [hy, hb]
  have hg : Gr y1 y2 := hy ▸ (Gr.refl _).alloc _
  replace H := H.alloc hy hb
  clear hy hb hg
  (refine Kr.outS hK (a' := ?_) ?_ ?_; rotate_left; (focus ((try simp only [Kr.PT]); first | done | rfl))); clear hK K
  refine Kr.seqR (by rfl) (fun K hK => ?_)
  refine wp_run rfl (stA8 (H.at 0 rfl) (by simp) rfl (oneCell_words _)) ?_
  obtain ⟨y3, hy⟩ : ∃ y, y2.setRow bs (s0.list.map w32).toArray = y := ⟨_, rfl⟩
  rw [hy]
  replace H := H.put 0 hy rfl
  dsimp only [List.set] at H
  clear hy
  (refine Kr.outS hK (a' := ?_) ?_ ?_; rotate_left; (focus ((try simp only [Kr.PT]); first | done | rfl))); clear hK K
  refine Kr.seqDoneW ?_
  go_upto_region 2 with fail
  refine Kr.seqStartW ?_
  (refine Kr.seqQ (v := ?_) (a' := ?_) (by rfl) ?_ ?_ ?_; rotate_left 2; (focus (go_simp; first | done | rfl)); (focus ((try simp only [Kr.PT]); first | done | rfl)))
  (refine Kr.seqQ (v := ?_) (a' := ?_) (by rfl) ?_ ?_ ?_; rotate_left 2; (focus (go_simp; first | done | rfl)); (focus ((try simp only [Kr.PT]); first | done | rfl)))
  refine Kr.seqDoneW ?_
  have H2 := Lib.hid H; clear H
  go_wp2_with fail
  go_loopw [4] (fun rv wr => ∃ (pr : Option Addr) (k cr : Nat) (lr : List (BitVec 8)) (S : S8), rv = .slice pr k cr ∧ k ≤ cr ∧ k ≤ n ∧ Hid (lr.length = k) ∧ Hid (SrcB pr lr w) ∧ Hid (absB S lr = A) ∧ Hid (Ow w wr [(bs, 84, S.list.map w32), (br, 23, List.replicate 32 (Value.int .u8 0))])) (fun rv _ => match rv with | .slice _ k _ => k | _ => 0)
  case atStart => exact ⟨p, n, c, l, s0, rfl, hc, Nat.le_refl _, HL, HS, HA, H2⟩
  case round =>
    clear H2; obtain ⟨pr, k, cr, lr, S, rfl, hkc, hkn, HLR, HSR, HAB, HH⟩ := hrel; have H := HH.out; clear HH
    by_cases hk : 64 ≤ k
    · have HC : decide ((64 : Int) ≤ (k : Int)) = true := decide_eq_true (by omega)
      obtain ⟨b, off, rfl, hb⟩ := src_some HSR.out (by rw [HLR.out]; omega)
      have HB := Lib.hid hb; clear hb
      obtain ⟨pc, hpc⟩ : ∃ q, cut64 b off cr = q := ⟨_, rfl⟩
      obtain ⟨k2, hk2⟩ : ∃ z, k - 64 = z := ⟨_, rfl⟩
      obtain ⟨c2, hc2⟩ : ∃ z, cr - 64 = z := ⟨_, rfl⟩
      have hsl : ∀ w : World, (Instr.sliceAt 46 (.slice (some ⟨b, off, none⟩) k cr) (some (.int .i64 64)) none none).run Tryd.prog w = .ok (.slice (some pc) k2 c2) w := fun w => by rw [sl64 hk hkc, hpc, hk2, hc2]
      obtain ⟨S2, hS2⟩ : ∃ z, comp S (wordOf lr) = z := ⟨_, rfl⟩
      have HAB2 : Hid (absB S2 (lr.drop 64) = A) := Lib.hid (by rw [← hS2, ← absB_yes (by rw [HLR.out]; exact hk)]; exact HAB.out)
      have HSR2 : Hid (SrcB (some pc) (lr.drop 64) w) := Lib.hid (src_cut HB.out HLR.out hkc (by rw [hpc]))
      have HLR2 : Hid ((lr.drop 64).length = k2) := Lib.hid (by rw [List.length_drop, HLR.out]; exact hk2)
      go_upto_region 3 with fail
      refine Kr.seqStartW ?_
      (refine Kr.seqQ (v := ?_) (a' := ?_) (by rfl) ?_ ?_ ?_; rotate_left 2; (focus (go_simp; first | done | rfl)); (focus ((try simp only [Kr.PT]); first | done | rfl)))
      (refine Kr.seqQ (v := ?_) (a' := ?_) (by rfl) ?_ ?_ ?_; rotate_left 2; (focus (go_simp; first | done | rfl)); (focus ((try simp only [Kr.PT]); first | done | rfl)))
      (refine Kr.seqQ (v := .bool true) (a' := ?_) (by rfl) ?_ ?_ ?_; rotate_left 1; (focus (exact Kr.valOf rfl (geqI HC))); (focus ((try simp only [Kr.PT]); first | done | rfl)))
      refine Kr.seqDoneW ?_
      go_upto_region 5 with fail
      refine Kr.seqStartW ?_
      (refine Kr.seqQ (v := .agg (S.list.map w32).toArray) (a' := ?_) (by rfl) ?_ ?_ ?_; rotate_left 1; (focus (exact Kr.valOf rfl (ldA8 (H.at 0 rfl) rfl))); (focus ((try simp only [Kr.PT]); first | done | rfl)))
      (refine Kr.seqQ (v := ?_) (a' := ?_) (by rfl) ?_ ?_ ?_; rotate_left 2; (focus (go_simp; first | done | rfl)); (focus ((try simp only [Kr.PT]); first | done | rfl)))
      refine Kr.seqR (by rfl) (fun K hK => ?_)
      go_simp
      go_at_call 48
      have hP := absorb_v (S := S) (c := cr) (HB.out.grow H.g) (Nat.le_of_eq HLR.out) (by rw [HLR.out]; exact hk) (by omega) (HCN.out.grow H.g)
      rw [hS2] at hP
      refine (hP).mono ?_
      rintro e y4 ⟨rfl, hg⟩
      replace H := H.grow hg
      clear hg
      clear hP
      (refine Kr.outS hK (a' := ?_) ?_ ?_; rotate_left; (focus ((try simp only [Kr.PT]); first | done | rfl))); clear hK K
      refine Kr.seqR (by rfl) (fun K hK => ?_)
      refine wp_run rfl (stA8 (H.at 0 rfl) rfl rfl (oneCell_words _)) ?_
      obtain ⟨y5, hy⟩ : ∃ y, y4.setRow bs (S2.list.map w32).toArray = y := ⟨_, rfl⟩
      rw [hy]
      replace H := H.put 0 hy rfl
      dsimp only [List.set] at H
      clear hy
      (refine Kr.outS hK (a' := ?_) ?_ ?_; rotate_left; (focus ((try simp only [Kr.PT]); first | done | rfl))); clear hK K
      refine Kr.seqDoneW ?_
      go_upto_region 4 with fail
      refine Kr.seqStartW ?_
      (refine Kr.seqQ (v := ?_) (a' := ?_) (by rfl) ?_ ?_ ?_; rotate_left 2; (focus (go_simp; first | done | rfl)); (focus ((try simp only [Kr.PT]); first | done | rfl)))
      (refine Kr.seqQ (v := .slice (some pc) k2 c2) (a' := ?_) (by rfl) ?_ ?_ ?_; rotate_left 1; (focus (exact Kr.valOf rfl (hsl _))); (focus ((try simp only [Kr.PT]); first | done | rfl)))
      (refine Kr.seqQ (v := ?_) (a' := ?_) (by rfl) ?_ ?_ ?_; rotate_left 2; (focus (go_simp; first | done | rfl)); (focus ((try simp only [Kr.PT]); first | done | rfl)))
      refine Kr.seqDoneW ?_
      go_wp2; go_roundw
      case rel => exact ⟨some pc, k2, c2, lr.drop 64, S2, rfl, by omega, by omega, HLR2, HSR2, HAB2, Lib.hid H⟩
      case measure => simp; omega
    · have HC : decide ((64 : Int) ≤ (k : Int)) = false := decide_eq_false (by omega)
      have hAS : A = (S, lr) := by rw [← HAB.out, absB_no (by rw [HLR.out]; omega)]
      have HRES2 : Hid ((absB S (padEnd (endLen k) lr (8 * n))).1 = RES) := Lib.hid (by have h := HRES.out; rw [hAS] at h; rw [← HLR.out]; exact h)
      clear hAS HAB HRES HA
      go_upto_region 3 with fail
      refine Kr.seqStartW ?_
      (refine Kr.seqQ (v := ?_) (a' := ?_) (by rfl) ?_ ?_ ?_; rotate_left 2; (focus (go_simp; first | done | rfl)); (focus ((try simp only [Kr.PT]); first | done | rfl)))
      (refine Kr.seqQ (v := ?_) (a' := ?_) (by rfl) ?_ ?_ ?_; rotate_left 2; (focus (go_simp; first | done | rfl)); (focus ((try simp only [Kr.PT]); first | done | rfl)))
      (refine Kr.seqQ (v := .bool false) (a' := ?_) (by rfl) ?_ ?_ ?_; rotate_left 1; (focus (exact Kr.valOf rfl (geqI HC))); (focus ((try simp only [Kr.PT]); first | done | rfl)))
      refine Kr.seqDoneW ?_
      go_upto_region 6 with fail
      refine Kr.seqStartW ?_
      (refine Kr.seqQ (v := ?_) (a' := ?_) (by rfl) ?_ ?_ ?_; rotate_left 2; (focus (go_simp; first | done | rfl)); (focus ((try simp only [Kr.PT]); first | done | rfl)))
      (refine Kr.seqQ (v := ?_) (a' := ?_) (by rfl) ?_ ?_ ?_; rotate_left 2; (focus (go_simp; first | done | rfl)); (focus ((try simp only [Kr.PT]); first | done | rfl)))
      (refine Kr.seqQ (v := ?_) (a' := ?_) (by rfl) ?_ ?_ ?_; rotate_left 2; (focus (go_simp; first | done | rfl)); (focus ((try simp only [Kr.PT]); first | done | rfl)))
      refine Kr.seqR (by rfl) (fun K hK => ?_)
      go_simp
      go_at_call 49
      refine (pad_v (c := cr) (HSR.out.grow H.g) HLR.out (by omega) (n := n) hn).mono ?_
      rintro e y6 ⟨be, N, rfl, hb, hN, hg⟩
      have hNe : endLen k = N := hN
      have HPE : Hid (SrcB (some ⟨be, 0, none⟩) (padEnd N lr (8 * n)) y6) := Lib.hid (.inr ⟨be, 0, rfl, hb⟩)
      have HR3 : Hid ((absB S (padEnd N lr (8 * n))).1 = RES) := Lib.hid (hNe ▸ HRES2.out)
      have HPL : Hid ((padEnd N lr (8 * n)).length = N) := Lib.hid (padEnd_length (by rw [HLR.out, ← hNe]; exact endLen_ge (by omega)))
      have hNm : N % 64 = 0 := hNe ▸ endLen_mod k; have hN128 : N ≤ 128 := hNe ▸ endLen_le k
      replace H := H.grow hg
      clear hb hN hNe HRES2
      have HGP : Hid (Gr y6 y6) := Lib.hid (Gr.refl _)
      clear hg
      have hwy : w.heap.size ≤ y6.heap.size := H.g.size
      (refine Kr.outS hK (a' := ?_) ?_ ?_; rotate_left; (focus ((try simp only [Kr.PT]); first | done | rfl))); clear hK K
      (refine Kr.seqQ (v := ?_) (a' := ?_) (by rfl) ?_ ?_ ?_; rotate_left 2; (focus (go_simp; first | done | rfl)); (focus ((try simp only [Kr.PT]); first | done | rfl)))
      refine Kr.seqDoneW ?_
      have H2 := Lib.hid H; have HPE0 := HPE; have HPL0 := HPL; have HR0 := HR3; clear H HPE HGP hwy HPL HR3
      go_wp2_with fail
      go_loopw [5] (fun rv wr => ∃ (pe : Option Addr) (ke ce : Nat) (le : List (BitVec 8)) (Z : S8), rv = .slice pe ke ce ∧ ke ≤ ce ∧ ke ≤ 128 ∧ ke % 64 = 0 ∧ Hid (le.length = ke) ∧ Hid (SrcB pe le wr) ∧ Hid ((absB Z le).1 = RES) ∧ Hid (Ow w wr [(bs, 84, Z.list.map w32), (br, 23, List.replicate 32 (Value.int .u8 0))])) (fun rv _ => match rv with | .slice _ k _ => k | _ => 0)
      case atStart => exact ⟨some ⟨be, 0, none⟩, N, N, _, S, rfl, Nat.le_refl _, hN128, hNm, HPL0, HPE0, HR0, H2⟩
      case round =>
        clear H2 HPL0 HPE0 HR0; obtain ⟨pe, ke, ce, le, Z, rfl, hkce, hke, hkm, HLE, HPE, HAB, HH⟩ := hrel; have H := HH.out; clear HH
        by_cases hk0 : 0 < ke
        · have HC : decide ((0 : Int) < (ke : Int)) = true := decide_eq_true (by omega)
          have hk64 : 64 ≤ ke := by omega
          obtain ⟨b, off, rfl, hb⟩ := src_some HPE.out (by rw [HLE.out]; omega)
          have HB := Lib.hid hb; clear hb
          obtain ⟨pc, hpc⟩ : ∃ q, cut64 b off ce = q := ⟨_, rfl⟩
          obtain ⟨k2, hk2⟩ : ∃ z, ke - 64 = z := ⟨_, rfl⟩
          obtain ⟨c2, hc2⟩ : ∃ z, ce - 64 = z := ⟨_, rfl⟩
          have hsl : ∀ w : World, (Instr.sliceAt 46 (.slice (some ⟨b, off, none⟩) ke ce) (some (.int .i64 64)) none none).run Tryd.prog w = .ok (.slice (some pc) k2 c2) w := fun w => by rw [sl64 hk64 hkce, hpc, hk2, hc2]
          obtain ⟨Z2, hZ2⟩ : ∃ z, comp Z (wordOf le) = z := ⟨_, rfl⟩
          have HAB2 : Hid ((absB Z2 (le.drop 64)).1 = RES) := Lib.hid (by rw [← hZ2, ← absB_yes (by rw [HLE.out]; exact hk64)]; exact HAB.out)
          have HPE2 : Hid (SrcB (some pc) (le.drop 64) wr) := Lib.hid (src_cut HB.out HLE.out hkce (by rw [hpc]))
          have HLE2 : Hid ((le.drop 64).length = k2) := Lib.hid (by rw [List.length_drop, HLE.out]; exact hk2)
          clear HPE
          go_upto_region 7 with fail
          refine Kr.seqStartW ?_
          (refine Kr.seqQ (v := ?_) (a' := ?_) (by rfl) ?_ ?_ ?_; rotate_left 2; (focus (go_simp; first | done | rfl)); (focus ((try simp only [Kr.PT]); first | done | rfl)))
          (refine Kr.seqQ (v := ?_) (a' := ?_) (by rfl) ?_ ?_ ?_; rotate_left 2; (focus (go_simp; first | done | rfl)); (focus ((try simp only [Kr.PT]); first | done | rfl)))
          (refine Kr.seqQ (v := .bool true) (a' := ?_) (by rfl) ?_ ?_ ?_; rotate_left 1; (focus (exact Kr.valOf rfl (gtrI HC))); (focus ((try simp only [Kr.PT]); first | done | rfl)))
          refine Kr.seqDoneW ?_
          go_upto_region 9 with fail
          refine Kr.seqStartW ?_
          (refine Kr.seqQ (v := .agg (Z.list.map w32).toArray) (a' := ?_) (by rfl) ?_ ?_ ?_; rotate_left 1; (focus (exact Kr.valOf rfl (ldA8 (H.at 0 rfl) rfl))); (focus ((try simp only [Kr.PT]); first | done | rfl)))
          (refine Kr.seqQ (v := ?_) (a' := ?_) (by rfl) ?_ ?_ ?_; rotate_left 2; (focus (go_simp; first | done | rfl)); (focus ((try simp only [Kr.PT]); first | done | rfl)))
          refine Kr.seqR (by rfl) (fun K hK => ?_)
          go_simp
          go_at_call 48
          have hP := absorb_v (S := Z) (c := ce) HB.out (Nat.le_of_eq HLE.out) (by rw [HLE.out]; exact hk64) (by omega) (HCN.out.grow H.g)
          rw [hZ2] at hP
          refine (hP).mono ?_
          rintro e y7 ⟨rfl, hg⟩
          replace H := H.grow hg
          replace HPE2 := Lib.hid (HPE2.out.grow hg)
          clear hg
          clear hP
          (refine Kr.outS hK (a' := ?_) ?_ ?_; rotate_left; (focus ((try simp only [Kr.PT]); first | done | rfl))); clear hK K
          refine Kr.seqR (by rfl) (fun K hK => ?_)
          refine wp_run rfl (stA8 (H.at 0 rfl) rfl rfl (oneCell_words _)) ?_
          have HPE2p := src_put (cs := (Z2.list.map w32).toArray) HPE2.out (H.at 0 rfl)
          obtain ⟨y8, hy⟩ : ∃ y, y7.setRow bs (Z2.list.map w32).toArray = y := ⟨_, rfl⟩
          rw [hy]
          rw [hy] at HPE2p
          replace HPE2 := Lib.hid HPE2p; clear HPE2p
          replace H := H.put 0 hy rfl
          dsimp only [List.set] at H
          clear hy
          (refine Kr.outS hK (a' := ?_) ?_ ?_; rotate_left; (focus ((try simp only [Kr.PT]); first | done | rfl))); clear hK K
          refine Kr.seqDoneW ?_
          go_upto_region 8 with fail
          refine Kr.seqStartW ?_
          (refine Kr.seqQ (v := ?_) (a' := ?_) (by rfl) ?_ ?_ ?_; rotate_left 2; (focus (go_simp; first | done | rfl)); (focus ((try simp only [Kr.PT]); first | done | rfl)))
          (refine Kr.seqQ (v := .slice (some pc) k2 c2) (a' := ?_) (by rfl) ?_ ?_ ?_; rotate_left 1; (focus (exact Kr.valOf rfl (hsl _))); (focus ((try simp only [Kr.PT]); first | done | rfl)))
          (refine Kr.seqQ (v := ?_) (a' := ?_) (by rfl) ?_ ?_ ?_; rotate_left 2; (focus (go_simp; first | done | rfl)); (focus ((try simp only [Kr.PT]); first | done | rfl)))
          refine Kr.seqDoneW ?_
          go_wp2; go_roundw
          case rel => exact ⟨some pc, k2, c2, le.drop 64, Z2, rfl, by omega, by omega, by omega, HLE2, HPE2, HAB2, Lib.hid H⟩
          case measure => simp; omega
        · have HC : decide ((0 : Int) < (ke : Int)) = false := decide_eq_false (by omega)
          have hle : le = [] := List.eq_nil_of_length_eq_zero (by rw [HLE.out]; omega)
          have hZR : Z = RES := by have h := HAB.out; rw [hle, absB_no (by decide)] at h; exact h
          subst hZR; clear HAB HPE HLE
          go_upto_region 7 with fail
          refine Kr.seqStartW ?_
          (refine Kr.seqQ (v := ?_) (a' := ?_) (by rfl) ?_ ?_ ?_; rotate_left 2; (focus (go_simp; first | done | rfl)); (focus ((try simp only [Kr.PT]); first | done | rfl)))
          (refine Kr.seqQ (v := ?_) (a' := ?_) (by rfl) ?_ ?_ ?_; rotate_left 2; (focus (go_simp; first | done | rfl)); (focus ((try simp only [Kr.PT]); first | done | rfl)))
          (refine Kr.seqQ (v := .bool false) (a' := ?_) (by rfl) ?_ ?_ ?_; rotate_left 1; (focus (exact Kr.valOf rfl (gtrI HC))); (focus ((try simp only [Kr.PT]); first | done | rfl)))
          refine Kr.seqDoneW ?_
          go_upto_region 10 with fail
          refine Kr.seqStartW ?_
          refine Kr.seqR (by rfl) (fun K hK => ?_)
          refine wp_runV rfl newH ?_
          obtain ⟨y9, hy⟩ : ∃ y, wr.alloc (.cells (List.replicate 32 (Value.int .u8 0)).toArray 23) = y := ⟨_, rfl⟩
          obtain ⟨bh, hb⟩ : ∃ b, wr.heap.size = b := ⟨_, rfl⟩
          rw [hy, hb]
          have hg : Gr wr y9 := hy ▸ (Gr.refl _).alloc _
          replace H := H.alloc hy hb
          clear hy hb hg
          (refine Kr.outS hK (a' := ?_) ?_ ?_; rotate_left; (focus ((try simp only [Kr.PT]); first | done | rfl))); clear hK K
          refine Kr.seqDoneW ?_
          go_upto_region 11 with fail
          refine Kr.seqStartW ?_
          (refine Kr.seqQ (v := .agg (Z.list.map w32).toArray) (a' := ?_) (by rfl) ?_ ?_ ?_; rotate_left 1; (focus (exact Kr.valOf rfl (ldA8 (H.at 1 rfl) rfl))); (focus ((try simp only [Kr.PT]); first | done | rfl)))
          (refine Kr.seqQ (v := ?_) (a' := ?_) (by rfl) ?_ ?_ ?_; rotate_left 2; (focus (go_simp; first | done | rfl)); (focus ((try simp only [Kr.PT]); first | done | rfl)))
          refine Kr.seqDoneW ?_
          rw [show List.replicate 32 (Value.int .u8 0) = padN 32 (outs (Z.list.take 0)) from rfl] at H
          have H2 := Lib.hid H; clear H HC
          go_wp2_with fail
          go_loopw [32] (fun iv wr => ∃ i : Nat, i ≤ 8 ∧ iv = .int .i64 (i : Int) ∧ Hid (Ow w wr [(bh, 23, padN 32 (outs (Z.list.take i))), (bs, 84, Z.list.map w32), (br, 23, padN 32 (outs (Z.list.take 0)))])) (fun iv _ => 8 - (intOf iv).toNat)
          case atStart => exact ⟨0, Nat.zero_le _, rfl, H2⟩
          case round =>
            clear H2; obtain ⟨i, hi, rfl, HH⟩ := hrel; have H := HH.out; clear HH
            have hol : (outs (Z.list.take i)).length = 4 * i := by rw [outs_length, List.length_take]; show 4 * min i 8 = _; omega
            by_cases hie : i = 8
            · have HC : decide ((i : Int) < 8) = false := decide_eq_false (by omega)
              rw [show Z.list.take i = Z.list from List.take_of_length_le (by rw [hie]; exact Nat.le_refl _), padN_full (show (outs Z.list).length = 32 from outs_length _)] at H; clear hie hol
              have h32 : ((outs Z.list).map w8).length = 32 := by rw [List.length_map]; exact outs_length _
              go_upto_region 12 with fail
              refine Kr.seqStartW ?_
              (refine Kr.seqQ (v := .bool false) (a' := ?_) (by rfl) ?_ ?_ ?_; rotate_left 1; (focus (exact Kr.valOf rfl (lssT HC))); (focus ((try simp only [Kr.PT]); first | done | rfl)))
              refine Kr.seqDoneW ?_
              go_upto_region 16 with fail
              refine Kr.seqStartW ?_
              (refine Kr.seqQ (v := .agg ((outs Z.list).map w8).toArray) (a' := ?_) (by rfl) ?_ ?_ ?_; rotate_left 1; (focus (exact Kr.valOf rfl (ldH (H.at 0 rfl) h32))); (focus ((try simp only [Kr.PT]); first | done | rfl)))
              refine Kr.seqR (by rfl) (fun K hK => ?_)
              refine wp_run rfl (stH (H.at 2 rfl) (padN_length (show (outs (Z.list.take 0)).length ≤ 32 from Nat.zero_le _)) h32 (oneCell_bytes _)) ?_
              obtain ⟨y10, hy⟩ : ∃ y, wr.setRow br ((outs Z.list).map w8).toArray = y := ⟨_, rfl⟩
              rw [hy]
              replace H := H.put 2 hy rfl
              dsimp only [List.set] at H
              clear hy
              (refine Kr.outS hK (a' := ?_) ?_ ?_; rotate_left; (focus ((try simp only [Kr.PT]); first | done | rfl))); clear hK K
              refine Kr.seqDoneW ?_
              go_wp2
              refine bodyPost_ret (v := .agg ((outs Z.list).map w8).toArray) (results_cell_row rfl _ _ br 23 _ _ _ (by rfl) (H.at 2 rfl) Tryd.underlying23 rfl (by rw [List.size_toArray, h32]; exact infoH)) rfl ⟨rfl, H.g⟩
            · have hil : i < 8 := by omega
              have HC : decide ((i : Int) < 8) = true := decide_eq_true (by omega)
              obtain ⟨x0, hx0⟩ : ∃ x, Z.list.getD i 0 = x := ⟨_, rfl⟩
              have hgx : Z.list[i]? = some x0 := hx0 ▸ getD_of hil
              have htk : outs (Z.list.take (i + 1)) = outs (Z.list.take i) ++ four x0 := by rw [List.take_add_one, hgx]; exact outs_snoc _ _
              obtain ⟨j0, hj0⟩ : ∃ j, 4 * i = j := ⟨_, rfl⟩
              obtain ⟨j1, hj1⟩ : ∃ j, j0 + 1 = j := ⟨_, rfl⟩
              obtain ⟨j2, hj2⟩ : ∃ j, j0 + 2 = j := ⟨_, rfl⟩
              obtain ⟨j3, hj3⟩ : ∃ j, j0 + 3 = j := ⟨_, rfl⟩
              have h4 : IntKind.i64.wrap ((4 : Int) * (i : Int)) = (j0 : Int) := wrap_nat (by omega) (by omega)
              have ha1 : IntKind.i64.wrap ((j0 : Int) + 1) = (j1 : Int) := wrap_nat (by omega) (by omega)
              have ha2 : IntKind.i64.wrap ((j0 : Int) + 2) = (j2 : Int) := wrap_nat (by omega) (by omega)
              have ha3 : IntKind.i64.wrap ((j0 : Int) + 3) = (j3 : Int) := wrap_nat (by omega) (by omega)
              obtain ⟨y0, hy0⟩ : ∃ y, x0 >>> 24 = y := ⟨_, rfl⟩
              obtain ⟨y1, hy1⟩ : ∃ y, x0 >>> 16 = y := ⟨_, rfl⟩
              obtain ⟨y2, hy2⟩ : ∃ y, x0 >>> 8 = y := ⟨_, rfl⟩
              obtain ⟨z0, hz0⟩ : ∃ y, (y0).setWidth 8 = y := ⟨_, rfl⟩
              obtain ⟨z1, hz1⟩ : ∃ y, (y1).setWidth 8 = y := ⟨_, rfl⟩
              obtain ⟨z2, hz2⟩ : ∃ y, (y2).setWidth 8 = y := ⟨_, rfl⟩
              obtain ⟨z3, hz3⟩ : ∃ y, (x0).setWidth 8 = y := ⟨_, rfl⟩
              have hf : four x0 = [z0, z1, z2, z3] := by unfold four; rw [hy0, hy1, hy2, hz0, hz1, hz2, hz3]
              go_upto_region 12 with fail
              refine Kr.seqStartW ?_
              (refine Kr.seqQ (v := .bool true) (a' := ?_) (by rfl) ?_ ?_ ?_; rotate_left 1; (focus (exact Kr.valOf rfl (lssT HC))); (focus ((try simp only [Kr.PT]); first | done | rfl)))
              refine Kr.seqDoneW ?_
              go_upto_region 13 with fail
              refine Kr.seqStartW ?_
              (refine Kr.seqQ (v := ?_) (a' := ?_) (by rfl) ?_ ?_ ?_; rotate_left 2; (focus (go_simp; first | done | rfl)); (focus ((try simp only [Kr.PT]); first | done | rfl)))
              (refine Kr.seqQ (v := .int .u32 ((x0).toNat : Int)) (a' := ?_) (by rfl) ?_ ?_ ?_; rotate_left 1; (focus (exact Kr.valOf rfl (atA8 (l := Z.list.map w32) rfl (map_get32 hgx)))); (focus ((try simp only [Kr.PT]); first | done | rfl)))
              (refine Kr.seqQ (v := ?_) (a' := ?_) (by rfl) ?_ ?_ ?_; rotate_left 2; (focus (go_simp; first | done | rfl)); (focus ((try simp only [Kr.PT]); first | done | rfl)))
              (refine Kr.seqQ (v := ?_) (a' := ?_) (by rfl) ?_ ?_ ?_; rotate_left 2; (focus (go_simp; first | done | rfl)); (focus ((try simp only [Kr.PT]); first | done | rfl)))
              refine Kr.seqDoneW ?_
              go_upto_region 14 with fail
              refine Kr.seqStartW ?_
              (refine Kr.seqQ (v := ?_) (a' := ?_) (by rfl) ?_ ?_ ?_; rotate_left 2; (focus (go_simp; first | done | rfl)); (focus ((try simp only [Kr.PT]); first | done | rfl)))
              (refine Kr.seqQ (v := .int .i64 (j0 : Int)) (a' := ?_) (by rfl) ?_ ?_ ?_; rotate_left 1; (focus (exact Kr.valOf rfl (mulI h4))); (focus ((try simp only [Kr.PT]); first | done | rfl)))
              (refine Kr.seqQ (v := ?_) (a' := ?_) (by rfl) ?_ ?_ ?_; rotate_left 2; (focus (go_simp; first | done | rfl)); (focus ((try simp only [Kr.PT]); first | done | rfl)))
              (refine Kr.seqQ (v := .int .i64 (j0 : Int)) (a' := ?_) (by rfl) ?_ ?_ ?_; rotate_left 1; (focus (exact Kr.valOf rfl (mulI h4))); (focus ((try simp only [Kr.PT]); first | done | rfl)))
              (refine Kr.seqQ (v := .int .i64 (j1 : Int)) (a' := ?_) (by rfl) ?_ ?_ ?_; rotate_left 1; (focus (exact Kr.valOf rfl (addI ha1))); (focus ((try simp only [Kr.PT]); first | done | rfl)))
              (refine Kr.seqQ (v := ?_) (a' := ?_) (by rfl) ?_ ?_ ?_; rotate_left 2; (focus (go_simp; first | done | rfl)); (focus ((try simp only [Kr.PT]); first | done | rfl)))
              (refine Kr.seqQ (v := .int .i64 (j0 : Int)) (a' := ?_) (by rfl) ?_ ?_ ?_; rotate_left 1; (focus (exact Kr.valOf rfl (mulI h4))); (focus ((try simp only [Kr.PT]); first | done | rfl)))
              (refine Kr.seqQ (v := .int .i64 (j2 : Int)) (a' := ?_) (by rfl) ?_ ?_ ?_; rotate_left 1; (focus (exact Kr.valOf rfl (addI ha2))); (focus ((try simp only [Kr.PT]); first | done | rfl)))
              (refine Kr.seqQ (v := ?_) (a' := ?_) (by rfl) ?_ ?_ ?_; rotate_left 2; (focus (go_simp; first | done | rfl)); (focus ((try simp only [Kr.PT]); first | done | rfl)))
              (refine Kr.seqQ (v := .int .i64 (j0 : Int)) (a' := ?_) (by rfl) ?_ ?_ ?_; rotate_left 1; (focus (exact Kr.valOf rfl (mulI h4))); (focus ((try simp only [Kr.PT]); first | done | rfl)))
              (refine Kr.seqQ (v := .int .i64 (j3 : Int)) (a' := ?_) (by rfl) ?_ ?_ ?_; rotate_left 1; (focus (exact Kr.valOf rfl (addI ha3))); (focus ((try simp only [Kr.PT]); first | done | rfl)))
              (refine Kr.seqQ (v := ?_) (a' := ?_) (by rfl) ?_ ?_ ?_; rotate_left 2; (focus (go_simp; first | done | rfl)); (focus ((try simp only [Kr.PT]); first | done | rfl)))
              (refine Kr.seqQ (v := .int .u32 ((y0).toNat : Int)) (a' := ?_) (by rfl) ?_ ?_ ?_; rotate_left 1; (focus (exact Kr.valOf rfl ((by rw [← hy0]; exact shr24W)))); (focus ((try simp only [Kr.PT]); first | done | rfl)))
              (refine Kr.seqQ (v := .int .u8 ((z0).toNat : Int)) (a' := ?_) (by rfl) ?_ ?_ ?_; rotate_left 1; (focus (exact Kr.valOf rfl ((by rw [← hz0]; exact conv32B)))); (focus ((try simp only [Kr.PT]); first | done | rfl)))
              (refine Kr.seqQ (v := ?_) (a' := ?_) (by rfl) ?_ ?_ ?_; rotate_left 2; (focus (go_simp; first | done | rfl)); (focus ((try simp only [Kr.PT]); first | done | rfl)))
              (refine Kr.seqQ (v := .int .u32 ((y1).toNat : Int)) (a' := ?_) (by rfl) ?_ ?_ ?_; rotate_left 1; (focus (exact Kr.valOf rfl ((by rw [← hy1]; exact shr16W)))); (focus ((try simp only [Kr.PT]); first | done | rfl)))
              (refine Kr.seqQ (v := .int .u8 ((z1).toNat : Int)) (a' := ?_) (by rfl) ?_ ?_ ?_; rotate_left 1; (focus (exact Kr.valOf rfl ((by rw [← hz1]; exact conv32B)))); (focus ((try simp only [Kr.PT]); first | done | rfl)))
              (refine Kr.seqQ (v := ?_) (a' := ?_) (by rfl) ?_ ?_ ?_; rotate_left 2; (focus (go_simp; first | done | rfl)); (focus ((try simp only [Kr.PT]); first | done | rfl)))
              (refine Kr.seqQ (v := .int .u32 ((y2).toNat : Int)) (a' := ?_) (by rfl) ?_ ?_ ?_; rotate_left 1; (focus (exact Kr.valOf rfl ((by rw [← hy2]; exact shr8W)))); (focus ((try simp only [Kr.PT]); first | done | rfl)))
              (refine Kr.seqQ (v := .int .u8 ((z2).toNat : Int)) (a' := ?_) (by rfl) ?_ ?_ ?_; rotate_left 1; (focus (exact Kr.valOf rfl ((by rw [← hz2]; exact conv32B)))); (focus ((try simp only [Kr.PT]); first | done | rfl)))
              (refine Kr.seqQ (v := ?_) (a' := ?_) (by rfl) ?_ ?_ ?_; rotate_left 2; (focus (go_simp; first | done | rfl)); (focus ((try simp only [Kr.PT]); first | done | rfl)))
              (refine Kr.seqQ (v := .int .u8 ((z3).toNat : Int)) (a' := ?_) (by rfl) ?_ ?_ ?_; rotate_left 1; (focus (exact Kr.valOf rfl ((by rw [← hz3]; exact conv32B)))); (focus ((try simp only [Kr.PT]); first | done | rfl)))
              (refine Kr.seqQ (v := .pointer (some ⟨bh, j0, none⟩)) (a' := ?_) (by rfl) ?_ ?_ ?_; rotate_left 1; (focus (exact Kr.valOf rfl (ixH (by omega)))); (focus ((try simp only [Kr.PT]); first | done | rfl)))
              refine Kr.seqR (by rfl) (fun K hK => ?_)
              obtain ⟨v0, hv0⟩ := padN_any (N := 32) (l := outs (Z.list.take i)) (j := j0) (by first | omega | (simp; omega)) (by omega)
              refine wp_run rfl (stE8 (H.cell 0 rfl hv0) (H.frozen 0 rfl j0)) ?_
              obtain ⟨y11, hy⟩ : ∃ y, wr.setCell ⟨bh, j0, none⟩ (.int .u8 ((z0).toNat : Int)) = y := ⟨_, rfl⟩
              rw [hy]
              replace H := H.set 0 (j0) hy rfl
              dsimp only [List.set] at H
              clear hy
              rw [padN_set (by first | omega | (simp; omega)) (by omega)] at H
              (refine Kr.outS hK (a' := ?_) ?_ ?_; rotate_left; (focus ((try simp only [Kr.PT]); first | done | rfl))); clear hK K
              (refine Kr.seqQ (v := .pointer (some ⟨bh, j1, none⟩)) (a' := ?_) (by rfl) ?_ ?_ ?_; rotate_left 1; (focus (exact Kr.valOf rfl (ixH (by omega)))); (focus ((try simp only [Kr.PT]); first | done | rfl)))
              refine Kr.seqR (by rfl) (fun K hK => ?_)
              obtain ⟨v1, hv1⟩ := padN_any (N := 32) (l := outs (Z.list.take i) ++ [z0]) (j := j1) (by first | omega | (simp; omega)) (by omega)
              refine wp_run rfl (stE8 (H.cell 0 rfl hv1) (H.frozen 0 rfl j1)) ?_
              obtain ⟨y12, hy⟩ : ∃ y, y11.setCell ⟨bh, j1, none⟩ (.int .u8 ((z1).toNat : Int)) = y := ⟨_, rfl⟩
              rw [hy]
              replace H := H.set 0 (j1) hy rfl
              dsimp only [List.set] at H
              clear hy
              rw [padN_set (by first | omega | (simp; omega)) (by omega)] at H
              (refine Kr.outS hK (a' := ?_) ?_ ?_; rotate_left; (focus ((try simp only [Kr.PT]); first | done | rfl))); clear hK K
              (refine Kr.seqQ (v := .pointer (some ⟨bh, j2, none⟩)) (a' := ?_) (by rfl) ?_ ?_ ?_; rotate_left 1; (focus (exact Kr.valOf rfl (ixH (by omega)))); (focus ((try simp only [Kr.PT]); first | done | rfl)))
              refine Kr.seqR (by rfl) (fun K hK => ?_)
              obtain ⟨v2, hv2⟩ := padN_any (N := 32) (l := outs (Z.list.take i) ++ [z0] ++ [z1]) (j := j2) (by first | omega | (simp; omega)) (by omega)
              refine wp_run rfl (stE8 (H.cell 0 rfl hv2) (H.frozen 0 rfl j2)) ?_
              obtain ⟨y13, hy⟩ : ∃ y, y12.setCell ⟨bh, j2, none⟩ (.int .u8 ((z2).toNat : Int)) = y := ⟨_, rfl⟩
              rw [hy]
              replace H := H.set 0 (j2) hy rfl
              dsimp only [List.set] at H
              clear hy
              rw [padN_set (by first | omega | (simp; omega)) (by omega)] at H
              (refine Kr.outS hK (a' := ?_) ?_ ?_; rotate_left; (focus ((try simp only [Kr.PT]); first | done | rfl))); clear hK K
              (refine Kr.seqQ (v := .pointer (some ⟨bh, j3, none⟩)) (a' := ?_) (by rfl) ?_ ?_ ?_; rotate_left 1; (focus (exact Kr.valOf rfl (ixH (by omega)))); (focus ((try simp only [Kr.PT]); first | done | rfl)))
              refine Kr.seqR (by rfl) (fun K hK => ?_)
              obtain ⟨v3, hv3⟩ := padN_any (N := 32) (l := outs (Z.list.take i) ++ [z0] ++ [z1] ++ [z2]) (j := j3) (by first | omega | (simp; omega)) (by omega)
              refine wp_run rfl (stE8 (H.cell 0 rfl hv3) (H.frozen 0 rfl j3)) ?_
              obtain ⟨y14, hy⟩ : ∃ y, y13.setCell ⟨bh, j3, none⟩ (.int .u8 ((z3).toNat : Int)) = y := ⟨_, rfl⟩
              rw [hy]
              replace H := H.set 0 (j3) hy rfl
              dsimp only [List.set] at H
              clear hy
              rw [padN_set (by first | omega | (simp; omega)) (by omega)] at H
              (refine Kr.outS hK (a' := ?_) ?_ ?_; rotate_left; (focus ((try simp only [Kr.PT]); first | done | rfl))); clear hK K
              refine Kr.seqDoneW ?_
              rw [show outs (Z.list.take i) ++ [z0] ++ [z1] ++ [z2] ++ [z3] = outs (Z.list.take (i + 1)) by rw [htk, hf]; simp] at H
              have HADD : IntKind.i64.wrap ((i : Int) + 1) = ((i + 1 : Nat) : Int) := wrap_nat (by omega) (by omega)
              go_upto_region 15 with fail
              refine Kr.seqStartW ?_
              (refine Kr.seqQ (v := .int .i64 ((i + 1 : Nat) : Int)) (a' := ?_) (by rfl) ?_ ?_ ?_; rotate_left 1; (focus (exact Kr.valOf rfl (addI HADD))); (focus ((try simp only [Kr.PT]); first | done | rfl)))
              (refine Kr.seqQ (v := ?_) (a' := ?_) (by rfl) ?_ ?_ ?_; rotate_left 2; (focus (go_simp; first | done | rfl)); (focus ((try simp only [Kr.PT]); first | done | rfl)))
              refine Kr.seqDoneW ?_
              go_wp2; go_roundw
              case rel => exact ⟨i + 1, by omega, rfl, Lib.hid H⟩
              case measure => simp [intOf]; omega
end Go.Proofs.YtldgjhmefaapeaaDoor.Dg


/- Texts of bytes; rows of bytes that grow. -/
namespace Go.Proofs.YtldgjhmefaapeaaDoor.Dg
open Go Go.RowKit Go.Proofs.YtldgjhmefaapeaaDoor.Ne Go.Proofs.YtldgjhmefaapeaaDoor.Kr

/-- A text as bytes. -/
def strB (l : List (BitVec 8)) : ByteArray := ⟨(l.map UInt8.ofBitVec).toArray⟩
theorem strB_inj {l m : List (BitVec 8)} (h : strB l = strB m) : l = m := by
  have h1 : l.map UInt8.ofBitVec = m.map UInt8.ofBitVec := by
    have h2 := congrArg (fun s : ByteArray => s.data.toList) h
    simpa [strB] using h2
  have h3 := congrArg (List.map UInt8.toBitVec) h1
  simpa [List.map_map, Function.comp_def] using h3
/-- The digits. -/
def hexs : List (BitVec 8) := [48, 49, 50, 51, 52, 53, 54, 55, 56, 57, 97, 98, 99, 100, 101, 102]
def dig (q : Nat) : BitVec 8 := hexs.getD q 0
def two (x : BitVec 8) : List (BitVec 8) := [dig (x.toNat / 16), dig (x.toNat % 16)]
/-- The text of bytes. -/
def hexL (l : List (BitVec 8)) : List (BitVec 8) := l.flatMap two
theorem hexL_snoc (l : List (BitVec 8)) (x : BitVec 8) : hexL (l ++ [x]) = hexL l ++ two x := by
  unfold hexL; rw [List.flatMap_append]; simp
theorem hexL_length : ∀ l : List (BitVec 8), (hexL l).length = 2 * l.length
  | [] => rfl
  | x :: r => by
    have := hexL_length r
    unfold hexL at this ⊢
    rw [List.flatMap_cons, List.length_append, this]
    show 2 + 2 * r.length = 2 * (r.length + 1)
    omega
theorem atHex : ∀ (q : Nat), q < 16 → ∀ w : World, (Instr.index 9 (.string ⟨#[48, 49, 50, 51, 52, 53, 54, 55, 56, 57, 97, 98, 99, 100, 101, 102]⟩) (.int .u8 (q : Int))).run Tryd.prog w = .ok (.int .u8 ((dig q).toNat : Int)) w
  | 0, _, _ => by kernel_rfl
  | 1, _, _ => by kernel_rfl
  | 2, _, _ => by kernel_rfl
  | 3, _, _ => by kernel_rfl
  | 4, _, _ => by kernel_rfl
  | 5, _, _ => by kernel_rfl
  | 6, _, _ => by kernel_rfl
  | 7, _, _ => by kernel_rfl
  | 8, _, _ => by kernel_rfl
  | 9, _, _ => by kernel_rfl
  | 10, _, _ => by kernel_rfl
  | 11, _, _ => by kernel_rfl
  | 12, _, _ => by kernel_rfl
  | 13, _, _ => by kernel_rfl
  | 14, _, _ => by kernel_rfl
  | 15, _, _ => by kernel_rfl
  | _ + 16, h, _ => absurd h (by omega)
theorem shr4B {w : World} {x : BitVec 8} {q : Nat} (h : x.toNat / 16 = q) : (binOp .shr 5 (.int .u8 (x.toNat : Int)) (.int .u64 4)).run Tryd.prog w = .ok (.int .u8 (q : Int)) w := by
  have e : (x.toNat : Int) / 16 = (q : Int) := by omega
  clear h
  go_simp
  first | done | exact e
theorem and15 (n : Nat) : n &&& 15 = n % 16 := Nat.and_two_pow_sub_one_eq_mod n 4
theorem and15B {w : World} {x : BitVec 8} {q : Nat} (h : x.toNat % 16 = q) : (binOp .and 5 (.int .u8 (x.toNat : Int)) (.int .u8 15)).run Tryd.prog w = .ok (.int .u8 (q : Int)) w := by
  have e : bits BinOp.and IntKind.u8 (x.toNat : Int) 15 = (q : Int) := by
    rw [show (15 : Int) = ((15 : Nat) : Int) from rfl, u8_and_nat _ _ x.isLt (by decide), and15, h]
  clear h
  go_simp
  first | done | exact e
theorem boxH {w : World} {l : List Value} : (Instr.box 23 (.agg l.toArray)).run Tryd.prog w = .ok (.pointer (some ⟨w.heap.size, 0, none⟩)) (w.alloc (.cells l.toArray 23)) := by
  go_simp
/-- The slice v is the call's own and holds these bytes. -/
def RowB (B : Nat) (v : Value) (r : List (BitVec 8)) (W : World) : Prop := W.ownsRow B 5 1 v r.length (r.map w8)
theorem RowB.start (B : Nat) (W : World) : RowB B (.slice none 0 0) [] W := ⟨by simp, .inl ⟨rfl, rfl⟩⟩
theorem RowB.grow {B : Nat} {v : Value} {r : List (BitVec 8)} {W W' : World} (h : RowB B v r W) (g : Gr W W') : RowB B v r W' := Nr2.ownsRow_below h g
theorem RowB.lt {B : Nat} {v : Value} {r : List (BitVec 8)} {W : World} (h : RowB B v r W) : ∀ k, v.ownBlock = some k → B ≤ k ∧ k < W.heap.size := World.ownsRow.lt h
theorem RowB.src {B : Nat} {v : Value} {r : List (BitVec 8)} {W : World} (h : RowB B v r W) : ∃ p c, v = .slice p r.length c ∧ r.length ≤ c ∧ SrcB p r W := by
  rcases h.2 with ⟨h1, h2⟩ | ⟨g, cap, cur, h1, _, h3, h4, _, _, h6⟩
  · exact ⟨none, 0, by rw [h1, h2], by omega, .inl (List.eq_nil_of_length_eq_zero h2)⟩
  · refine ⟨_, cap, h1, h4, .inr ⟨g, 0, rfl, fun j x hx => ?_⟩⟩
    have hj : j < r.length := (List.getElem?_eq_some_iff.1 hx).1
    rw [Nat.zero_add, cell_of_row W g j cur _ _ h3]
    have h7 : (r.map w8)[j]? = some (w8 x) := by rw [List.getElem?_map, hx]; rfl
    rw [← h6, List.getElem?_take, if_pos (by omega)] at h7
    simpa using h7
theorem gr_grown {w W W' : World} {row : Option Nat} (H : Gr w W) (g : W.grownBy W' row) (hr : ∀ k, row = some k → w.heap.size ≤ k) : Gr w W' := by
  refine ⟨g.os.trans H.os, g.tape.trans H.tape, g.output.trans H.output, Nat.le_trans H.size g.size, fun k hk => ?_⟩
  rw [← H.block k hk]
  refine g.block k (Nat.lt_of_lt_of_le hk H.size) (fun e => ?_)
  have := hr k e.symm
  omega
/-- Bytes have been appended. -/
theorem bytes_append {w W W' : World} {v v1 : Value} {r d : List (BitVec 8)} (H : Ow w W []) (HR : RowB w.heap.size v r W)
    (ho : W'.ownsRow w.heap.size 5 1 v1 (r.length + d.length) (r.map w8 ++ d.map w8)) (hg : W.grownBy W' v.ownBlock) : Ow w W' [] ∧ RowB w.heap.size v1 (r ++ d) W' := by
  refine ⟨⟨gr_grown H.g hg (fun k e => (HR.lt k e).1), fun _ h => (by cases h), fun _ h => (by cases h), List.Pairwise.nil⟩, ?_⟩
  show W'.ownsRow w.heap.size 5 1 v1 (r ++ d).length ((r ++ d).map w8)
  rw [List.map_append, List.length_append]
  exact ho
theorem row_alloc {w : World} {l : List Value} {T : TypeId} : ∀ (j : Nat) (u : Value), l[j]? = some u → (w.alloc (.cells l.toArray T)).cell? ((⟨w.heap.size, 0, none⟩ : Addr).add j) = some u := fun j u hu => by
  rw [addr_add, Nat.zero_add, cell_of_row _ _ j _ _ _ (heap_alloc_last w _)]
  simpa using hu
theorem run_str {W : World} {p : Option Addr} {n c : Nat} {l : List (BitVec 8)} (h : SrcB p l W) (hl : l.length = n) : (convert 46 9 (.slice p n c)).run Tryd.prog W = .ok (.string (strB l)) W := by
  rcases h with h | ⟨b, off, rfl, h⟩
  · subst h
    obtain rfl : n = 0 := hl.symm
    cases p with
    | none =>
      have h2 := run_convert_bytes_string (P := Tryd.prog) W 46 9 5 none 0 c Tryd.underlying46 Tryd.underlying5 Tryd.underlying9
      rw [h2]
      simp [Conv.bytesToString, go_sem]
      rfl
    | some a => exact run_convert_bytes_back W _ _ 5 a c [] Tryd.underlying46 Tryd.underlying5 Tryd.underlying9 (fun j hj => absurd hj (Nat.not_lt_zero _))
  · have h1 : n = (l.map UInt8.ofBitVec).length := by rw [List.length_map, hl]
    subst h1
    refine run_convert_bytes_back W _ _ 5 ⟨b, off, none⟩ c (l.map UInt8.ofBitVec) Tryd.underlying46 Tryd.underlying5 Tryd.underlying9 (fun j hj => ?_)
    have hj' : j < l.length := by simpa using hj
    rw [addr_add, h j _ (List.getElem?_eq_getElem hj')]
    simp [w8]
end Go.Proofs.YtldgjhmefaapeaaDoor.Dg


/- Hex. -/
namespace Go.Proofs.YtldgjhmefaapeaaDoor.Dg
open Go Go.RowKit Go.Proofs.YtldgjhmefaapeaaDoor.Ne Go.Proofs.YtldgjhmefaapeaaDoor.Kr

end Go.Proofs.YtldgjhmefaapeaaDoor.Dg


/- The chapter's examples: awake. -/
namespace Go.Proofs
open Go.Shelf
end Go.Proofs
namespace Go.Proofs.YtldgjhmefaapeaaDoor.Dg
open Go Go.RowKit Go.Proofs.YtldgjhmefaapeaaDoor.Ne Go.Proofs.YtldgjhmefaapeaaDoor.Kr
def abc : List (BitVec 8) := [97, 98, 99]
theorem sha_abc : sha abc = outs (comp s0 (wordOf (padEnd 64 abc 24))).list := by
  rw [sha, shaS, absB_no (show abc.length < 64 by decide)]
  show outs (absB s0 (padEnd 64 abc 24)).1.list = _
  rw [absB_yes (show 64 ≤ (padEnd 64 abc 24).length by decide), absB_no (show ((padEnd 64 abc 24).drop 64).length < 64 by decide)]
theorem sha_nil : sha [] = outs (comp s0 (wordOf (padEnd 64 [] 0))).list := by
  rw [sha, shaS, absB_no (show ([] : List (BitVec 8)).length < 64 by decide)]
  show outs (absB s0 (padEnd 64 [] 0)).1.list = _
  rw [absB_yes (show 64 ≤ (padEnd 64 [] 0).length by decide), absB_no (show ((padEnd 64 [] 0).drop 64).length < 64 by decide)]
theorem pre_abc : Lib.hasPrefix (strB (hexL (sha abc))).data.toList (⟨#[98, 97, 55, 56, 49, 54, 98, 102]⟩ : ByteArray).data.toList = true := by
  rw [sha_abc]; decide +kernel
theorem pre_nil : Lib.hasPrefix (strB (hexL (sha []))).data.toList (⟨#[101, 51, 98, 48, 99, 52, 52, 50]⟩ : ByteArray).data.toList = true := by
  rw [sha_nil]; decide +kernel
theorem abc_row (w : World) (fr : Nat × Nat) : BytesAt w.heap.size 0 abc (w.alloc (.cells #[.int .u8 97, .int .u8 98, .int .u8 99] 5 fr)) := fun j x hx => by
  rw [Nat.zero_add, World.cell?_alloc_mark]
  match j, hx with
  | 0, hx => obtain rfl : 97#8 = x := by simpa [abc] using hx
             rfl
  | 1, hx => obtain rfl : 98#8 = x := by simpa [abc] using hx
             rfl
  | 2, hx => obtain rfl : 99#8 = x := by simpa [abc] using hx
             rfl
  | j + 3, hx => simp [abc] at hx

end Go.Proofs.YtldgjhmefaapeaaDoor.Dg


/- The two listed tables of the digest read off the row's condition, a start that meets it; arguments opened: a digest, a row of bytes. -/
namespace Go.Proofs.YtldgjhmefaapeaaDoor.Dl
open Go.ChangeShapes Go.WideShapes Go.ChangeAt Go.WideMaps Go.WideElems Go.RowKit Go.Proofs.YtldgjhmefaapeaaDoor.Dg

abbrev laid : List (String × DataW Unit) := [("specie/digest.start", Rows.laid_specie_digest_start), ("specie/digest.constants", Rows.laid_specie_digest_constants)]
theorem own : ownKnob Tryd.prog.godebug = none := by kernel_rfl
theorem gS : Tryd.prog.globalNamed "specie/digest.start" = some 0 := by kernel_rfl
theorem gC : Tryd.prog.globalNamed "specie/digest.constants" = some 1 := by kernel_rfl
theorem tS : (Tryd.prog.globals[0]?).map (·.type) = some 84 := by kernel_rfl
theorem tC : (Tryd.prog.globals[1]?).map (·.type) = some 94 := by kernel_rfl
theorem c8 : Tryd.prog.cellsOf 84 = 8 := by kernel_rfl
theorem c64 : Tryd.prog.cellsOf 94 = 64 := by kernel_rfl
theorem c32 : Tryd.prog.cellsOf 38 = 1 := by kernel_rfl
theorem cU8 : Tryd.prog.cellsOf 5 = 1 := by kernel_rfl
theorem cH : Tryd.prog.cellsOf 23 = 32 := by kernel_rfl

set_option maxRecDepth 100000 in
theorem door_met (os : Os) (args : Array Value) : laidMetH Tryd.prog laid ((World.doorLaid Tryd.prog 400 os).forCall (fun _ _ => 0) ⟨#[], args, []⟩).memory :=
  laidMetH_of_parts3 (fuel := 8) (laidMet_of_run' 8 (by kernel_rfl) (by kernel_rfl)) (by kernel_rfl) (by kernel_rfl)

theorem start_list : Rows.laid_specie_digest_start = (.agg (s0.list.map fun (k : BitVec 32) => DataW.lit (.int .u32 (k.toNat : Int))) : DataW Unit) := rfl
set_option maxRecDepth 100000 in
theorem const_list : Rows.laid_specie_digest_constants = (.agg (kc.map fun (k : BitVec 32) => DataW.lit (.int .u32 (k.toNat : Int))) : DataW Unit) := rfl

theorem row_of {n m : Nat} {ks : List (BitVec 32)} {cs : Array Value} {xs : List (DataW Unit × List MemPlace)} {base : Nat} {spare : Nat → Bool} {held : Bool} {W : World}
    (hn : ks.length = n) (hlen : cs.toList.length = n) (hx : xs.map (·.1) = ks.map fun (k : BitVec 32) => DataW.lit (.int .u32 (k.toNat : Int))) (hxn : xs.length = n)
    (hel : ∀ (i : Nat), i < n → DataW.trod (fun _ => ()) Tryd.prog W base spare held m 38 ((cs.toList.drop (i * 1)).take 1) = xs[i]?) :
    cs = (ks.map w32).toArray := by
  have hall : ∀ j, j < n → cs.toList[j]? = (ks.map w32)[j]? := by
    intro j hj
    have h1 := hel j hj
    rw [Nat.mul_one] at h1
    have hxj : xs[j]? = some xs[j] := List.getElem?_eq_getElem (by omega)
    rw [hxj] at h1
    obtain ⟨k, e1, e2, _⟩ := DataW.trod_int Tryd.underlying38 h1
    have hget : (xs.map (·.1))[j]? = (ks.map fun (k : BitVec 32) => (DataW.lit (.int .u32 (k.toNat : Int)) : DataW Unit))[j]? := by rw [hx]
    rw [List.getElem?_map, hxj, List.getElem?_map, List.getElem?_eq_getElem (show j < ks.length by omega), e2] at hget
    simp only [Option.map_some, Option.some.injEq, DataW.lit.injEq, Lit.int.injEq] at hget
    rw [List.getElem?_map, List.getElem?_eq_getElem (show j < ks.length by omega)]
    have h3 : (cs.toList.drop j)[0]? = some (.int .u32 k) := by
      have : ((cs.toList.drop j).take 1)[0]? = some (.int .u32 k) := by rw [e1]; rfl
      rwa [List.getElem?_take_of_lt (by omega)] at this
    rw [List.getElem?_drop, Nat.add_zero] at h3
    rw [h3]
    show some (Value.int .u32 k) = some (w32 ks[j])
    rw [w32, hget.2]
  have hl : cs.toList = ks.map w32 := by
    apply List.ext_getElem?
    intro j
    rcases Nat.lt_or_ge j n with h | h
    · exact hall j h
    · rw [List.getElem?_eq_none (by omega), List.getElem?_eq_none (by rw [List.length_map]; omega)]
  rw [← hl]

theorem tables_of_laid {W : World} (h : laidMetH Tryd.prog laid W) : Con W ∧ Sta0 W := by
  rw [MakeChecks.laidMetH_plain _ _ _ (by kernel_rfl)] at h
  obtain ⟨ps, ⟨g0, t0, cs0, f0, p0, q0, hg0, ht0, hv0, hd0, ⟨g1, t1, cs1, f1, p1, q1, hg1, ht1, hv1, hd1, _, _⟩, _⟩, _, _⟩ := h
  constructor
  · obtain rfl := Option.some.inj (gC.symm.trans hg1)
    obtain rfl := Option.some.inj (tC.symm.trans ht1)
    obtain ⟨xs, m1, rfl, hx1, hlen, hn3, hel⟩ := DataW.trod_array Tryd.underlying94 hd1
    rw [const_list] at hx1
    simp only [Prod.mk.injEq, DataW.agg.injEq] at hx1
    rw [c64] at hlen
    rw [c32] at hel
    have hcs := row_of (n := 64) (by rfl) hlen hx1.1.symm hn3 hel
    simp only [World.var?, hg1, Option.bind_some] at hv1
    split at hv1
    · rename_i c t f hh
      cases hv1
      exact ⟨t, f, by rw [hh, hcs]⟩
    · cases hv1
  · obtain rfl := Option.some.inj (gS.symm.trans hg0)
    obtain rfl := Option.some.inj (tS.symm.trans ht0)
    obtain ⟨xs, m1, rfl, hx1, hlen, hn3, hel⟩ := DataW.trod_array Tryd.underlying84 hd0
    rw [start_list] at hx1
    simp only [Prod.mk.injEq, DataW.agg.injEq] at hx1
    rw [c8] at hlen
    rw [c32] at hel
    have hcs := row_of (n := 8) (by rfl) hlen hx1.1.symm hn3 hel
    simp only [World.var?, hg0, Option.bind_some] at hv0
    split at hv0
    · rename_i c t f hh
      cases hv0
      exact ⟨t, f, by rw [hh, hcs]⟩
    · cases hv0

theorem list_of_all : ∀ {cs : List Value}, (∀ i, i < cs.length → ∃ x : BitVec 8, cs[i]? = some (w8 x)) → ∃ l : List (BitVec 8), cs = l.map w8
  | [], _ => ⟨[], rfl⟩
  | v :: r, h => by
    obtain ⟨x, hx⟩ := h 0 (Nat.succ_pos _)
    obtain ⟨l, hl⟩ := list_of_all (cs := r) (fun i hi => by
      have := h (i + 1) (Nat.succ_lt_succ hi)
      simpa using this)
    refine ⟨x :: l, ?_⟩
    rw [List.map_cons, ← hl]
    congr 1
    simpa using hx
theorem wf_u8 {n : Int} (h : (Lit.int .u8 n).wf = true) : 0 ≤ n ∧ n < 256 := by
  simp [Lit.wf, IntKind.min, IntKind.max, IntKind.signed, IntKind.bits] at h
  omega
theorem w8_of {n : Int} (h : 0 ≤ n ∧ n < 256) : Value.int .u8 n = w8 (BitVec.ofNat 8 n.toNat) := by
  unfold w8
  rw [BitVec.toNat_ofNat, Nat.mod_eq_of_lt (by omega)]
  congr 1
  omega
/-- A digest among the arguments. -/
theorem open_hash {H : Type} {enc : TypeId × Value → H} {W : World} {r : Reach} {b0 : Nat} {v : Value} {d : DataW H} {p : List MemPlace}
    (hv : Value.okWide Tryd.prog W r b0 23 v) (h : DataW.Trod enc Tryd.prog W 0 (fun _ => true) true 23 v d p) :
    ∃ l : List (BitVec 8), l.length = 32 ∧ v = .agg (l.map w8).toArray := by
  simp only [Value.okWide, Tryd.underlying23] at hv
  obtain ⟨cs, rfl, h2, _⟩ := hv
  obtain ⟨fuel, hf⟩ := h
  have hf' : DataW.trod enc Tryd.prog W 0 (fun _ => true) true fuel 23 cs.toList = some (d, p) := by simpa [Value.cells] using hf
  obtain ⟨xs, m, rfl, hx, hlen, hn, hel⟩ := DataW.trod_array Tryd.underlying23 hf'
  rw [cH] at hlen
  rw [cU8] at hel
  obtain ⟨l, hl⟩ := list_of_all (cs := cs.toList) (fun i hi => by
    have hi32 : i < 32 := by omega
    have h1 := hel i hi32
    rw [Nat.mul_one] at h1
    have hxj : xs[i]? = some xs[i] := List.getElem?_eq_getElem (by omega)
    rw [hxj] at h1
    obtain ⟨k, e1, _, hw⟩ := DataW.trod_int Tryd.underlying5 h1
    have h3 : (cs.toList.drop i)[0]? = some (.int .u8 k) := by
      have : ((cs.toList.drop i).take 1)[0]? = some (.int .u8 k) := by rw [e1]; rfl
      rwa [List.getElem?_take_of_lt (by omega)] at this
    rw [List.getElem?_drop, Nat.add_zero] at h3
    exact ⟨_, h3.trans (congrArg some (w8_of (wf_u8 hw)))⟩)
  refine ⟨l, ?_, ?_⟩
  · rw [← hlen, hl, List.length_map]
  · rw [← hl]
end Go.Proofs.YtldgjhmefaapeaaDoor.Dl


/- The frame of a law over natural numbers: an argument opened, the law's end. -/
namespace Go.Proofs.YtldgjhmefaapeaaDoor.Nl
open Go.ChangeShapes Go.WideShapes Go.ChangeAt Go.RowKit Go.WideElems Go.Proofs.YtldgjhmefaapeaaDoor.Nm Go.Proofs.YtldgjhmefaapeaaDoor.Ne

theorem own : ownKnob Tryd.prog.godebug = none := by kernel_rfl
theorem laidOut : laidOutB Tryd.prog = true := by kernel_rfl

/-- An argument: a natural number of any length. -/
def Nin (W : World) (p : Option Addr) (n c : Nat) : Prop := ∃ l : List Nat, l.length = n ∧ n ≤ c ∧ (p = none → n = 0 ∧ c = 0) ∧ Rd W p l ∧ ok l ∧ n ≤ 9223372036854775807
theorem Nin.nw {W : World} {p : Option Addr} {n c : Nat} (h : Nin W p n c) (hn : n ≤ 1048576) : ∃ l, Nw W p n c l := by
  obtain ⟨l, h1, h2, h3, h4, h5, _⟩ := h
  exact ⟨l, h1, h2, h3, h4, h5, hn⟩
theorem Nin.lt {W : World} {p : Option Addr} {n c : Nat} (h : Nin W p n c) : n ≤ 9223372036854775807 := by
  obtain ⟨_, _, _, _, _, _, h6⟩ := h
  exact h6

theorem wf_u32 {n : Int} (h : (Lit.int .u32 n).wf = true) : 0 ≤ n ∧ n < 4294967296 := by
  simp [Lit.wf, IntKind.min, IntKind.max, IntKind.signed, IntKind.bits] at h
  omega
theorem ok_toNat {zs : List Int} (h : ∀ n ∈ zs, (Lit.int .u32 n).wf = true) : ok (zs.map Int.toNat) := by
  intro x hx
  obtain ⟨z, hz, rfl⟩ := List.mem_map.1 hx
  have := wf_u32 (h z hz)
  omega

theorem maxLen_le : maxLen ≤ 9223372036854775807 := by decide
theorem cellsSl : Tryd.prog.cellsOf 78 = 1 := by kernel_rfl
theorem cellsU : Tryd.prog.cellsOf 38 = 1 := by kernel_rfl

theorem array1 {α : Type} {cs : Array α} (h : cs.size = 1) : ∃ c0, cs = #[c0] := by
  obtain ⟨l⟩ := cs
  match l, h with
  | [c0], _ => exact ⟨c0, rfl⟩

theorem addr_at {W : World} {a : Addr} {v : Value} (h : W.cell? a = some v) : a.spot = none := by
  unfold World.cell? at h
  cases hs : a.spot with
  | none => rfl
  | some x =>
    simp only [hs, Option.isSome_some, if_true] at h
    split at h <;> cases h

/-- Arguments read behind the call as before it. -/
theorem again {H : Type} {enc : TypeId × Value → H} {P : Program} (hl : laidOutB P = true) {W W' : World} (hb : Below W.heap.size W W') {sp : Nat → Bool} :
    ∀ {ts : List TypeId} {vs : List Value} {ds : List (DataW H)} {ps : List MemPlace}, (ts.all fun t => P.readableRec t && decide (t < P.types.size)) = true →
      DataW.TrodAll enc P W 0 (fun _ => true) true ts vs ds ps → (∀ p ∈ ps, sp p.block = true) → DataW.TrodAll enc P W' 0 sp true ts vs ds ps
  | [], [], [], _, _, h, _ => h
  | [], [], _ :: _, _, _, h, _ => h.elim
  | [], _ :: _, _, _, _, h, _ => h.elim
  | _ :: _, [], _, _, _, h, _ => h.elim
  | _ :: _, _ :: _, [], _, _, h, _ => h.elim
  | t :: ts, v :: vs, d :: ds, ps, ht, h, hs => by
    obtain ⟨p, q, h1, h2, rfl⟩ := h
    simp only [List.all_cons, Bool.and_eq_true, decide_eq_true_eq] at ht
    obtain ⟨⟨ht1, ht2⟩, ht3⟩ := ht
    have hlt : ∀ x ∈ p, x.block < W.heap.size := DataW.TrodAll.lt (trodAll_mk1 h1)
    refine ⟨p, q, ?_, again hl hb (by simpa using ht3) h2 (fun x hx => hs x (List.mem_append_right _ hx)), rfl⟩
    obtain ⟨fuel, hf⟩ := h1
    exact ⟨fuel, DataW.trod_stays (kids_book hl ht1) (book_sized ht1) (fun h => by cases h) ⟨ht2, book_self t⟩ hf (fun x hx => hb.same (hlt x hx)) (fun x hx => hs x (List.mem_append_left _ hx))⟩

/-- A law's end: it has returned true, and what was there is there. -/
theorem law_end {H : Type} {enc : TypeId × Value → H} {P : Program} (hl : laidOutB P = true) {f : Func} {s : ChangeSpec} {W W' : World} {args : Array Value} {ds : List (DataW H)} {before : List MemPlace} {tb : TypeId}
    (hb : P.underlying tb = some .bool) (hr : f.resultTypes = #[tb]) (hts : (f.params.toList.all fun t => P.readableRec t && decide (t < P.types.size)) = true) (hv : s.vars = [])
    (hW : DataW.Whole enc P f.params.toList s.vars false W args.toList ds [] before) (hres : (s.fn H (ds ++ [])).results = [.lit (.bool true)]) (hargs : (s.fn H (ds ++ [])).args = ds) (hvars : (s.fn H (ds ++ [])).vars = [])
    (hg : Below W.heap.size W W') : s.post enc P f false true false false W args (.bool true) W' := by
  have hlt := hW.lt
  have hW0 := hW
  obtain ⟨p, q, hA, hV, hp, _, _⟩ := hW
  rw [hv] at hV
  obtain ⟨_, rfl⟩ := trodVars_none hV
  rw [List.append_nil] at hp
  subst hp
  refine ⟨ds, [], before, [], before, [], hW0, ?_, ?_, ?_, hg.frame _, fun h => by cases h⟩
  · rw [hres, hr]
    exact trodAll_mk1 (shut_bool hb _)
  · rw [hargs]
    exact again hl hg hts hA (fun x hx => by simpa using hlt x hx)
  · rw [hvars, hv]
    rfl
end Go.Proofs.YtldgjhmefaapeaaDoor.Nl


/- Numbers of bytes. -/
namespace Go.Proofs.YtldgjhmefaapeaaDoor.Dg
open Go Go.RowKit Go.Proofs.YtldgjhmefaapeaaDoor.Ne Go.Proofs.YtldgjhmefaapeaaDoor.Kr

/-- The number that the first j bytes are. -/
def vB (l : List (BitVec 8)) : Nat → Nat
  | 0 => 0
  | j + 1 => vB l j * 256 + (l.getD j 0).toNat
theorem W4_toNat (a b c d : BitVec 8) : (W4 a b c d).toNat = ((a.toNat * 256 + b.toNat) * 256 + c.toNat) * 256 + d.toNat := by
  have ha := a.isLt
  have hb := b.isLt
  have hc := c.isLt
  have hd := d.isLt
  have e8 (x : BitVec 8) : (x.setWidth 32).toNat = x.toNat := by rw [BitVec.toNat_setWidth]; exact Nat.mod_eq_of_lt (Nat.lt_of_lt_of_le x.isLt (by decide))
  unfold W4
  simp only [BitVec.toNat_or, BitVec.toNat_shiftLeft, e8]
  have h1 : a.toNat <<< 24 = a.toNat * 16777216 := by rw [Nat.shiftLeft_eq]
  have h2 : b.toNat <<< 16 = b.toNat * 65536 := by rw [Nat.shiftLeft_eq]
  have h3 : c.toNat <<< 8 = c.toNat * 256 := by rw [Nat.shiftLeft_eq]
  rw [Nat.mod_eq_of_lt (by rw [h1]; omega), Nat.mod_eq_of_lt (by rw [h2]; omega), Nat.mod_eq_of_lt (by rw [h3]; omega)]
  rw [Nat.or_assoc, Nat.or_assoc]
  rw [← Nat.shiftLeft_add_eq_or_of_lt (show d.toNat < 2 ^ 8 from hd), h3]
  rw [← Nat.shiftLeft_add_eq_or_of_lt (show c.toNat * 256 + d.toNat < 2 ^ 16 by omega), h2]
  rw [← Nat.shiftLeft_add_eq_or_of_lt (show b.toNat * 65536 + (c.toNat * 256 + d.toNat) < 2 ^ 24 by omega), h1]
  omega
theorem vB_word (l : List (BitVec 8)) (i : Nat) : vB l (4 * (i + 1)) = vB l (4 * i) * 4294967296 + (wordOf l i).toNat := by
  rw [show 4 * (i + 1) = 4 * i + 3 + 1 by omega, vB, vB, vB, vB, wordOf, W4_toNat]
  omega
theorem num_step (a b x m : Nat) : (a % m * (b % m) % m + x % m) % m = (a * b + x) % m := by
  rw [← Nat.mul_mod, ← Nat.add_mod]
theorem num_byte (a b x m : Nat) : (a % m * (b % m) % m + x) % m = (a * b + x) % m := by
  rw [← Nat.mul_mod, Nat.mod_add_mod]
theorem slH {w : World} {b : Nat} : (Instr.sliceAt 23 (.pointer (some ⟨b, 0, none⟩)) none none none).run Tryd.prog w = .ok (.slice (some ⟨b, 0, none⟩) 32 32) w := by
  go_simp
set_option linter.unusedSimpArgs false in
theorem convW {w : World} {x : BitVec 32} : (convert 38 3 (.int .u32 (x.toNat : Int))).run Tryd.prog w = .ok (.int .i64 (x.toNat : Int)) w := by
  have hx := x.isLt
  have : IntKind.i64.wrap (x.toNat : Int) = (x.toNat : Int) := IntWalk.i64_in _ (by omega)
  clear hx
  go_simp
set_option linter.unusedSimpArgs false in
theorem convB {w : World} {x : BitVec 8} : (convert 5 3 (.int .u8 (x.toNat : Int))).run Tryd.prog w = .ok (.int .i64 (x.toNat : Int)) w := by
  have hx := x.isLt
  have : IntKind.i64.wrap (x.toNat : Int) = (x.toNat : Int) := IntWalk.i64_in _ (by omega)
  clear hx
  go_simp
theorem neqC0 {w : World} : (binOp .neq 27 (.int .i64 0) (.int .i64 0)).run Tryd.prog w = .ok (.bool false) w := by
  go_simp
theorem neqC1 {w : World} : (binOp .neq 27 (.int .i64 1) (.int .i64 0)).run Tryd.prog w = .ok (.bool true) w := by
  go_simp
theorem remI {w : World} {x d q : Nat} (h0 : 0 < d) (hq : x % d = q) (hd : d < 9223372036854775808) : (binOp .rem 3 (.int .i64 (x : Int)) (.int .i64 (d : Int))).run Tryd.prog w = .ok (.int .i64 (q : Int)) w := by
  have hd0 : ¬ d = 0 := by omega
  have h1 : (x : Int).tmod (d : Int) = (q : Int) := by
    rw [Int.tmod_eq_emod_of_nonneg (by omega), ← Int.natCast_emod, hq]
  have h2 : q < d := hq ▸ Nat.mod_lt _ h0
  have h3 : IntKind.i64.wrap (q : Int) = (q : Int) := IntWalk.i64_in _ (by omega)
  clear hq h0 hd h2
  go_simp
theorem gr_drewN (w : World) : ∀ n, Gr w (w.drewN n)
  | 0 => Gr.refl _
  | n + 1 => (gr_drewN w n).drew

end Go.Proofs.YtldgjhmefaapeaaDoor.Dg


/- Number, its reference. -/
namespace Go.Proofs.YtldgjhmefaapeaaDoor.Dg
open Go Go.RowKit Go.Proofs.YtldgjhmefaapeaaDoor.Ne Go.Proofs.YtldgjhmefaapeaaDoor.Kr

set_option linter.unusedSimpArgs false in
set_option maxRecDepth 100000 in
set_option maxHeartbeats 16000000 in
theorem Number_v {l : List (BitVec 8)} {m : Nat} {w : World} (hl : l.length = 32) (hm1 : 1 ≤ m) (hm2 : m < 2305843009213693952) :
    Calls Tryd.prog 18 #[.agg (l.map w8).toArray, .int .i64 (m : Int)] w fun e w' => e = .returned (.tuple #[.int .i64 ((vB l 16 % m : Nat) : Int), .int .i64 0]) ∧ Gr w w' := by
  have hl32 : (l.map w8).length = 32 := by rw [List.length_map]; exact hl
  obtain ⟨B, hB⟩ : ∃ z, 4294967296 % m = z := ⟨_, rfl⟩
  have hBm : B < m := hB ▸ Nat.mod_lt _ (by omega)
  have hBI : (4294967296 : Int) % (m : Int) = (B : Int) := by rw [← hB]; rfl
  obtain ⟨V, hV⟩ : ∃ z, vB l 16 % m = z := ⟨_, rfl⟩
  rw [hV]
  have H := Ow.start w
  go_enter Tryd.func18, Tryd.ntmps18
  go_upto_region 0 with fail
  refine Kr.seqStartW ?_
  refine Kr.seqR (by rfl) (fun K hK => ?_)
  refine wp_runV rfl boxH ?_
  obtain ⟨y1, hy⟩ : ∃ y, w.alloc (.cells (l.map w8).toArray 23) = y := ⟨_, rfl⟩
  obtain ⟨bh, hb⟩ : ∃ b, w.heap.size = b := ⟨_, rfl⟩
  rw [hy, hb]
  have hg : Gr w y1 := hy ▸ (Gr.refl _).alloc _
  replace H := H.alloc hy hb
  clear hy hb hg
  (refine Kr.outS hK (a' := ?_) ?_ ?_; rotate_left; (focus ((try simp only [Kr.PT]); first | done | rfl))); clear hK K
  (refine Kr.seqQ (v := ?_) (a' := ?_) (by rfl) ?_ ?_ ?_; rotate_left 2; (focus (go_simp; first | done | rfl)); (focus ((try simp only [Kr.PT]); first | done | rfl)))
  (refine Kr.seqQ (v := ?_) (a' := ?_) (by rfl) ?_ ?_ ?_; rotate_left 2; (focus (go_simp; first | done | rfl)); (focus ((try simp only [Kr.PT]); first | done | rfl)))
  refine Kr.seqDoneW ?_
  go_upto_region 1 with fail
  refine Kr.seqStartW ?_
  (refine Kr.seqQ (v := ?_) (a' := ?_) (by rfl) ?_ ?_ ?_; rotate_left 2; (focus (go_simp; first | done | rfl)); (focus ((try simp only [Kr.PT]); first | done | rfl)))
  refine Kr.seqR (by rfl) (fun K hK => ?_)
  go_simp
  go_at_call 28
  have hP := Ww.Reduce_ok (4294967296) (m : Int) (by omega) (by omega) y1
  rw [hBI] at hP
  refine (hP).mono ?_
  rintro e w9 ⟨rfl, hw⟩
  rw [hw]
  clear hw w9
  clear hP
  (refine Kr.outS hK (a' := ?_) ?_ ?_; rotate_left; (focus ((try simp only [Kr.PT]); first | done | rfl))); clear hK K
  (refine Kr.seqQ (v := ?_) (a' := ?_) (by rfl) ?_ ?_ ?_; rotate_left 2; (focus (go_simp; first | done | rfl)); (focus ((try simp only [Kr.PT]); first | done | rfl)))
  (refine Kr.seqQ (v := ?_) (a' := ?_) (by rfl) ?_ ?_ ?_; rotate_left 2; (focus (go_simp; first | done | rfl)); (focus ((try simp only [Kr.PT]); first | done | rfl)))
  (refine Kr.seqQ (v := ?_) (a' := ?_) (by rfl) ?_ ?_ ?_; rotate_left 2; (focus (go_simp; first | done | rfl)); (focus ((try simp only [Kr.PT]); first | done | rfl)))
  (refine Kr.seqQ (v := ?_) (a' := ?_) (by rfl) ?_ ?_ ?_; rotate_left 2; (focus (go_simp; first | done | rfl)); (focus ((try simp only [Kr.PT]); first | done | rfl)))
  (refine Kr.seqQ (v := ?_) (a' := ?_) (by rfl) ?_ ?_ ?_; rotate_left 2; (focus (go_simp; first | done | rfl)); (focus ((try simp only [Kr.PT]); first | done | rfl)))
  refine Kr.seqDoneW ?_
  go_upto_region 2 with fail
  refine Kr.seqStartW ?_
  (refine Kr.seqQ (v := ?_) (a' := ?_) (by rfl) ?_ ?_ ?_; rotate_left 2; (focus (go_simp; first | done | rfl)); (focus ((try simp only [Kr.PT]); first | done | rfl)))
  (refine Kr.seqQ (v := .bool false) (a' := ?_) (by rfl) ?_ ?_ ?_; rotate_left 1; (focus (exact Kr.valOf rfl (neqC0))); (focus ((try simp only [Kr.PT]); first | done | rfl)))
  refine Kr.seqDoneW ?_
  go_upto_region 4 with fail
  refine Kr.seqStartW ?_
  (refine Kr.seqQ (v := ?_) (a' := ?_) (by rfl) ?_ ?_ ?_; rotate_left 2; (focus (go_simp; first | done | rfl)); (focus ((try simp only [Kr.PT]); first | done | rfl)))
  refine Kr.seqDoneW ?_
  go_upto_region 5 with fail
  refine Kr.seqStartW ?_
  (refine Kr.seqQ (v := ?_) (a' := ?_) (by rfl) ?_ ?_ ?_; rotate_left 2; (focus (go_simp; first | done | rfl)); (focus ((try simp only [Kr.PT]); first | done | rfl)))
  refine Kr.seqDoneW ?_
  have H2 := Lib.hid H; clear H hBI
  go_wp2_with fail
  go_loopw [8, 20] (fun nv jv wr => ∃ i z : Nat, i ≤ 4 ∧ vB l (4 * i) % m = z ∧ nv = .int .i64 (z : Int) ∧ jv = .int .i64 (i : Int) ∧ Hid (Ow w wr [(bh, 23, l.map w8)])) (fun _ jv _ => 4 - (intOf jv).toNat)
  case atStart => exact ⟨0, 0, Nat.zero_le _, Nat.zero_mod _, rfl, rfl, H2⟩
  case round =>
    clear H2; obtain ⟨i, z, hi, hz, rfl, rfl, HH⟩ := hrel; have H := HH.out; clear HH
    have hzm : z < m := hz ▸ Nat.mod_lt _ (by omega)
    by_cases hie : i = 4
    · have HC : decide ((i : Int) < 4) = false := decide_eq_false (by omega)
      obtain rfl : z = V := by rw [← hz, hie]; exact hV
      clear hie
      go_upto_region 6 with fail
      refine Kr.seqStartW ?_
      (refine Kr.seqQ (v := .bool false) (a' := ?_) (by rfl) ?_ ?_ ?_; rotate_left 1; (focus (exact Kr.valOf rfl (lssT HC))); (focus ((try simp only [Kr.PT]); first | done | rfl)))
      refine Kr.seqDoneW ?_
      go_upto_region 12 with fail
      refine Kr.seqStartW ?_
      (refine Kr.seqQ (v := ?_) (a' := ?_) (by rfl) ?_ ?_ ?_; rotate_left 2; (focus (go_simp; first | done | rfl)); (focus ((try simp only [Kr.PT]); first | done | rfl)))
      (refine Kr.seqQ (v := ?_) (a' := ?_) (by rfl) ?_ ?_ ?_; rotate_left 2; (focus (go_simp; first | done | rfl)); (focus ((try simp only [Kr.PT]); first | done | rfl)))
      (refine Kr.seqQ (v := ?_) (a' := ?_) (by rfl) ?_ ?_ ?_; rotate_left 2; (focus (go_simp; first | done | rfl)); (focus ((try simp only [Kr.PT]); first | done | rfl)))
      refine Kr.seqDoneW ?_
      have hk := trivial
      go_wp2
      refine bodyPost_ret (v := .tuple #[.int .i64 (z : Int), .int .i64 0]) (by simp [results, Tryd.results18, go_sem, hk]) rfl ⟨rfl, H.g⟩
    · have hil : i < 4 := by omega
      have HC : decide ((i : Int) < 4) = true := decide_eq_true (by omega)
      obtain ⟨x, hx⟩ : ∃ x, wordOf l i = x := ⟨_, rfl⟩
      obtain ⟨d, hd⟩ : ∃ z, x.toNat % m = z := ⟨_, rfl⟩
      have hdm : d < m := hd ▸ Nat.mod_lt _ (by omega)
      have hdI : (x.toNat : Int) % (m : Int) = (d : Int) := by rw [← hd]; rfl
      obtain ⟨z1, hz1⟩ : ∃ y, z * B % m = y := ⟨_, rfl⟩
      have hz1m : z1 < m := hz1 ▸ Nat.mod_lt _ (by omega)
      obtain ⟨z2, hz2⟩ : ∃ y, (z1 + d) % m = y := ⟨_, rfl⟩
      have hnx : vB l (4 * (i + 1)) % m = z2 := by rw [vB_word, hx, ← hz2, ← hz1, ← hz, ← hB, ← hd]; exact (num_step _ _ _ _).symm
      go_upto_region 6 with fail
      refine Kr.seqStartW ?_
      (refine Kr.seqQ (v := .bool true) (a' := ?_) (by rfl) ?_ ?_ ?_; rotate_left 1; (focus (exact Kr.valOf rfl (lssT HC))); (focus ((try simp only [Kr.PT]); first | done | rfl)))
      refine Kr.seqDoneW ?_
      go_upto_region 7 with fail
      refine Kr.seqStartW ?_
      (refine Kr.seqQ (v := ?_) (a' := ?_) (by rfl) ?_ ?_ ?_; rotate_left 2; (focus (go_simp; first | done | rfl)); (focus ((try simp only [Kr.PT]); first | done | rfl)))
      (refine Kr.seqQ (v := ?_) (a' := ?_) (by rfl) ?_ ?_ ?_; rotate_left 2; (focus (go_simp; first | done | rfl)); (focus ((try simp only [Kr.PT]); first | done | rfl)))
      refine Kr.seqDoneW ?_
      go_upto_region 8 with fail
      refine Kr.seqStartW ?_
      (refine Kr.seqQ (v := .slice (some ⟨bh, 0, none⟩) 32 32) (a' := ?_) (by rfl) ?_ ?_ ?_; rotate_left 1; (focus (exact Kr.valOf rfl (slH))); (focus ((try simp only [Kr.PT]); first | done | rfl)))
      (refine Kr.seqQ (v := ?_) (a' := ?_) (by rfl) ?_ ?_ ?_; rotate_left 2; (focus (go_simp; first | done | rfl)); (focus ((try simp only [Kr.PT]); first | done | rfl)))
      refine Kr.seqR (by rfl) (fun K hK => ?_)
      go_simp
      go_at_call 29
      have hP := wordAt_v (n := 32) (c := 32) (l := l) (i := i) (bytesAt_row (H.at 0 rfl)) (by omega) (by omega) (by decide)
      rw [hx] at hP
      refine (hP).mono ?_
      rintro e y2 ⟨rfl, hg⟩
      replace H := H.grow hg
      clear hg
      clear hP
      (refine Kr.outS hK (a' := ?_) ?_ ?_; rotate_left; (focus ((try simp only [Kr.PT]); first | done | rfl))); clear hK K
      (refine Kr.seqQ (v := .int .i64 (x.toNat : Int)) (a' := ?_) (by rfl) ?_ ?_ ?_; rotate_left 1; (focus (exact Kr.valOf rfl (convW))); (focus ((try simp only [Kr.PT]); first | done | rfl)))
      (refine Kr.seqQ (v := ?_) (a' := ?_) (by rfl) ?_ ?_ ?_; rotate_left 2; (focus (go_simp; first | done | rfl)); (focus ((try simp only [Kr.PT]); first | done | rfl)))
      refine Kr.seqR (by rfl) (fun K hK => ?_)
      go_simp
      go_at_call 28
      have hP := Ww.Reduce_ok ((x.toNat : Int)) (m : Int) (by omega) (by omega) y2
      rw [hdI] at hP
      refine (hP).mono ?_
      rintro e w9 ⟨rfl, hw⟩
      rw [hw]
      clear hw w9
      clear hP
      (refine Kr.outS hK (a' := ?_) ?_ ?_; rotate_left; (focus ((try simp only [Kr.PT]); first | done | rfl))); clear hK K
      (refine Kr.seqQ (v := ?_) (a' := ?_) (by rfl) ?_ ?_ ?_; rotate_left 2; (focus (go_simp; first | done | rfl)); (focus ((try simp only [Kr.PT]); first | done | rfl)))
      (refine Kr.seqQ (v := ?_) (a' := ?_) (by rfl) ?_ ?_ ?_; rotate_left 2; (focus (go_simp; first | done | rfl)); (focus ((try simp only [Kr.PT]); first | done | rfl)))
      (refine Kr.seqQ (v := ?_) (a' := ?_) (by rfl) ?_ ?_ ?_; rotate_left 2; (focus (go_simp; first | done | rfl)); (focus ((try simp only [Kr.PT]); first | done | rfl)))
      (refine Kr.seqQ (v := ?_) (a' := ?_) (by rfl) ?_ ?_ ?_; rotate_left 2; (focus (go_simp; first | done | rfl)); (focus ((try simp only [Kr.PT]); first | done | rfl)))
      (refine Kr.seqQ (v := ?_) (a' := ?_) (by rfl) ?_ ?_ ?_; rotate_left 2; (focus (go_simp; first | done | rfl)); (focus ((try simp only [Kr.PT]); first | done | rfl)))
      refine Kr.seqDoneW ?_
      go_upto_region 9 with fail
      refine Kr.seqStartW ?_
      (refine Kr.seqQ (v := ?_) (a' := ?_) (by rfl) ?_ ?_ ?_; rotate_left 2; (focus (go_simp; first | done | rfl)); (focus ((try simp only [Kr.PT]); first | done | rfl)))
      (refine Kr.seqQ (v := ?_) (a' := ?_) (by rfl) ?_ ?_ ?_; rotate_left 2; (focus (go_simp; first | done | rfl)); (focus ((try simp only [Kr.PT]); first | done | rfl)))
      (refine Kr.seqQ (v := ?_) (a' := ?_) (by rfl) ?_ ?_ ?_; rotate_left 2; (focus (go_simp; first | done | rfl)); (focus ((try simp only [Kr.PT]); first | done | rfl)))
      refine Kr.seqR (by rfl) (fun K hK => ?_)
      go_simp
      go_at_call 30
      have hP := Ww.Mul_ok z B m hzm hBm hm2 y2
      rw [hz1] at hP
      refine (hP).mono ?_
      rintro e y3 ⟨rfl, n, hw⟩
      have hg : Gr y2 y3 := hw ▸ gr_drewN _ _
      replace H := H.grow hg
      clear hg hw
      clear hP
      (refine Kr.outS hK (a' := ?_) ?_ ?_; rotate_left; (focus ((try simp only [Kr.PT]); first | done | rfl))); clear hK K
      (refine Kr.seqQ (v := ?_) (a' := ?_) (by rfl) ?_ ?_ ?_; rotate_left 2; (focus (go_simp; first | done | rfl)); (focus ((try simp only [Kr.PT]); first | done | rfl)))
      (refine Kr.seqQ (v := ?_) (a' := ?_) (by rfl) ?_ ?_ ?_; rotate_left 2; (focus (go_simp; first | done | rfl)); (focus ((try simp only [Kr.PT]); first | done | rfl)))
      (refine Kr.seqQ (v := ?_) (a' := ?_) (by rfl) ?_ ?_ ?_; rotate_left 2; (focus (go_simp; first | done | rfl)); (focus ((try simp only [Kr.PT]); first | done | rfl)))
      (refine Kr.seqQ (v := ?_) (a' := ?_) (by rfl) ?_ ?_ ?_; rotate_left 2; (focus (go_simp; first | done | rfl)); (focus ((try simp only [Kr.PT]); first | done | rfl)))
      refine Kr.seqDoneW ?_
      go_upto_region 10 with fail
      refine Kr.seqStartW ?_
      (refine Kr.seqQ (v := ?_) (a' := ?_) (by rfl) ?_ ?_ ?_; rotate_left 2; (focus (go_simp; first | done | rfl)); (focus ((try simp only [Kr.PT]); first | done | rfl)))
      (refine Kr.seqQ (v := ?_) (a' := ?_) (by rfl) ?_ ?_ ?_; rotate_left 2; (focus (go_simp; first | done | rfl)); (focus ((try simp only [Kr.PT]); first | done | rfl)))
      (refine Kr.seqQ (v := ?_) (a' := ?_) (by rfl) ?_ ?_ ?_; rotate_left 2; (focus (go_simp; first | done | rfl)); (focus ((try simp only [Kr.PT]); first | done | rfl)))
      refine Kr.seqR (by rfl) (fun K hK => ?_)
      go_simp
      go_at_call 31
      have hP := Ww.Add_ok z1 d m hz1m hdm hm2 y3
      rw [hz2] at hP
      refine (hP).mono ?_
      rintro e w9 ⟨rfl, hw⟩
      rw [hw]
      clear hw w9
      clear hP
      (refine Kr.outS hK (a' := ?_) ?_ ?_; rotate_left; (focus ((try simp only [Kr.PT]); first | done | rfl))); clear hK K
      (refine Kr.seqQ (v := ?_) (a' := ?_) (by rfl) ?_ ?_ ?_; rotate_left 2; (focus (go_simp; first | done | rfl)); (focus ((try simp only [Kr.PT]); first | done | rfl)))
      (refine Kr.seqQ (v := ?_) (a' := ?_) (by rfl) ?_ ?_ ?_; rotate_left 2; (focus (go_simp; first | done | rfl)); (focus ((try simp only [Kr.PT]); first | done | rfl)))
      (refine Kr.seqQ (v := ?_) (a' := ?_) (by rfl) ?_ ?_ ?_; rotate_left 2; (focus (go_simp; first | done | rfl)); (focus ((try simp only [Kr.PT]); first | done | rfl)))
      (refine Kr.seqQ (v := ?_) (a' := ?_) (by rfl) ?_ ?_ ?_; rotate_left 2; (focus (go_simp; first | done | rfl)); (focus ((try simp only [Kr.PT]); first | done | rfl)))
      refine Kr.seqDoneW ?_
      have HADD : IntKind.i64.wrap ((i : Int) + 1) = ((i + 1 : Nat) : Int) := wrap_nat (by omega) (by omega)
      go_upto_region 11 with fail
      refine Kr.seqStartW ?_
      (refine Kr.seqQ (v := .int .i64 ((i + 1 : Nat) : Int)) (a' := ?_) (by rfl) ?_ ?_ ?_; rotate_left 1; (focus (exact Kr.valOf rfl (addI HADD))); (focus ((try simp only [Kr.PT]); first | done | rfl)))
      (refine Kr.seqQ (v := ?_) (a' := ?_) (by rfl) ?_ ?_ ?_; rotate_left 2; (focus (go_simp; first | done | rfl)); (focus ((try simp only [Kr.PT]); first | done | rfl)))
      refine Kr.seqDoneW ?_
      go_wp2; go_roundw
      case rel => exact ⟨i + 1, z2, by omega, hnx, rfl, rfl, Lib.hid H⟩
      case measure => simp [intOf]; omega
set_option linter.unusedSimpArgs false in
set_option maxRecDepth 100000 in
set_option maxHeartbeats 16000000 in
theorem Number_bad {l : List (BitVec 8)} {m : Int} {w : World} (hl : l.length = 32) (hm : m < 1 ∨ 2305843009213693952 ≤ m) :
    Calls Tryd.prog 18 #[.agg (l.map w8).toArray, .int .i64 m] w fun e w' => e = .returned (.tuple #[.int .i64 0, .int .i64 1]) ∧ Gr w w' := by
  have hl32 : (l.map w8).length = 32 := by rw [List.length_map]; exact hl
  have hc : Ww.chk 0 0 m = 1 := by unfold Ww.chk; rw [if_pos hm]
  have H := Ow.start w
  go_enter Tryd.func18, Tryd.ntmps18
  go_upto_region 0 with fail
  refine Kr.seqStartW ?_
  refine Kr.seqR (by rfl) (fun K hK => ?_)
  refine wp_runV rfl boxH ?_
  obtain ⟨y1, hy⟩ : ∃ y, w.alloc (.cells (l.map w8).toArray 23) = y := ⟨_, rfl⟩
  obtain ⟨bh, hb⟩ : ∃ b, w.heap.size = b := ⟨_, rfl⟩
  rw [hy, hb]
  have hg : Gr w y1 := hy ▸ (Gr.refl _).alloc _
  replace H := H.alloc hy hb
  clear hy hb hg
  (refine Kr.outS hK (a' := ?_) ?_ ?_; rotate_left; (focus ((try simp only [Kr.PT]); first | done | rfl))); clear hK K
  (refine Kr.seqQ (v := ?_) (a' := ?_) (by rfl) ?_ ?_ ?_; rotate_left 2; (focus (go_simp; first | done | rfl)); (focus ((try simp only [Kr.PT]); first | done | rfl)))
  (refine Kr.seqQ (v := ?_) (a' := ?_) (by rfl) ?_ ?_ ?_; rotate_left 2; (focus (go_simp; first | done | rfl)); (focus ((try simp only [Kr.PT]); first | done | rfl)))
  refine Kr.seqDoneW ?_
  go_upto_region 1 with fail
  refine Kr.seqStartW ?_
  (refine Kr.seqQ (v := ?_) (a' := ?_) (by rfl) ?_ ?_ ?_; rotate_left 2; (focus (go_simp; first | done | rfl)); (focus ((try simp only [Kr.PT]); first | done | rfl)))
  refine Kr.seqR (by rfl) (fun K hK => ?_)
  go_simp
  go_at_call 28
  refine (Ww.Reduce_bad 4294967296 m 1 hc (.inl rfl) y1).mono ?_
  rintro e w9 ⟨rfl, hw⟩
  rw [hw]
  clear hw w9
  (refine Kr.outS hK (a' := ?_) ?_ ?_; rotate_left; (focus ((try simp only [Kr.PT]); first | done | rfl))); clear hK K
  (refine Kr.seqQ (v := ?_) (a' := ?_) (by rfl) ?_ ?_ ?_; rotate_left 2; (focus (go_simp; first | done | rfl)); (focus ((try simp only [Kr.PT]); first | done | rfl)))
  (refine Kr.seqQ (v := ?_) (a' := ?_) (by rfl) ?_ ?_ ?_; rotate_left 2; (focus (go_simp; first | done | rfl)); (focus ((try simp only [Kr.PT]); first | done | rfl)))
  (refine Kr.seqQ (v := ?_) (a' := ?_) (by rfl) ?_ ?_ ?_; rotate_left 2; (focus (go_simp; first | done | rfl)); (focus ((try simp only [Kr.PT]); first | done | rfl)))
  (refine Kr.seqQ (v := ?_) (a' := ?_) (by rfl) ?_ ?_ ?_; rotate_left 2; (focus (go_simp; first | done | rfl)); (focus ((try simp only [Kr.PT]); first | done | rfl)))
  (refine Kr.seqQ (v := ?_) (a' := ?_) (by rfl) ?_ ?_ ?_; rotate_left 2; (focus (go_simp; first | done | rfl)); (focus ((try simp only [Kr.PT]); first | done | rfl)))
  refine Kr.seqDoneW ?_
  go_upto_region 2 with fail
  refine Kr.seqStartW ?_
  (refine Kr.seqQ (v := ?_) (a' := ?_) (by rfl) ?_ ?_ ?_; rotate_left 2; (focus (go_simp; first | done | rfl)); (focus ((try simp only [Kr.PT]); first | done | rfl)))
  (refine Kr.seqQ (v := .bool true) (a' := ?_) (by rfl) ?_ ?_ ?_; rotate_left 1; (focus (exact Kr.valOf rfl (neqC1))); (focus ((try simp only [Kr.PT]); first | done | rfl)))
  refine Kr.seqDoneW ?_
  go_upto_region 3 with fail
  refine Kr.seqStartW ?_
  (refine Kr.seqQ (v := ?_) (a' := ?_) (by rfl) ?_ ?_ ?_; rotate_left 2; (focus (go_simp; first | done | rfl)); (focus ((try simp only [Kr.PT]); first | done | rfl)))
  (refine Kr.seqQ (v := ?_) (a' := ?_) (by rfl) ?_ ?_ ?_; rotate_left 2; (focus (go_simp; first | done | rfl)); (focus ((try simp only [Kr.PT]); first | done | rfl)))
  (refine Kr.seqQ (v := ?_) (a' := ?_) (by rfl) ?_ ?_ ?_; rotate_left 2; (focus (go_simp; first | done | rfl)); (focus ((try simp only [Kr.PT]); first | done | rfl)))
  refine Kr.seqDoneW ?_
  have hk := trivial
  go_wp2
  refine bodyPost_ret (v := .tuple #[.int .i64 0, .int .i64 1]) (by simp [results, Tryd.results18, go_sem, hk]) rfl ⟨rfl, H.g⟩
set_option linter.unusedSimpArgs false in
set_option maxRecDepth 100000 in
set_option maxHeartbeats 16000000 in
theorem rNumber_v {l : List (BitVec 8)} {m : Nat} {w : World} (hl : l.length = 32) (hm1 : 1 ≤ m) (hm2 : m < 2305843009213693952) :
    Calls Tryd.prog 19 #[.agg (l.map w8).toArray, .int .i64 (m : Int)] w fun e w' => e = .returned (.int .i64 ((vB l 16 % m : Nat) : Int)) ∧ Gr w w' := by
  have hl32 : (l.map w8).length = 32 := by rw [List.length_map]; exact hl
  obtain ⟨B, hB⟩ : ∃ z, 256 % m = z := ⟨_, rfl⟩
  have hBm : B < m := hB ▸ Nat.mod_lt _ (by omega)
  obtain ⟨V, hV⟩ : ∃ z, vB l 16 % m = z := ⟨_, rfl⟩
  rw [hV]
  have H := Ow.start w
  go_enter Tryd.func19, Tryd.ntmps19
  go_upto_region 0 with fail
  refine Kr.seqStartW ?_
  refine Kr.seqR (by rfl) (fun K hK => ?_)
  refine wp_runV rfl boxH ?_
  obtain ⟨y1, hy⟩ : ∃ y, w.alloc (.cells (l.map w8).toArray 23) = y := ⟨_, rfl⟩
  obtain ⟨bh, hb⟩ : ∃ b, w.heap.size = b := ⟨_, rfl⟩
  rw [hy, hb]
  have hg : Gr w y1 := hy ▸ (Gr.refl _).alloc _
  replace H := H.alloc hy hb
  clear hy hb hg
  (refine Kr.outS hK (a' := ?_) ?_ ?_; rotate_left; (focus ((try simp only [Kr.PT]); first | done | rfl))); clear hK K
  (refine Kr.seqQ (v := ?_) (a' := ?_) (by rfl) ?_ ?_ ?_; rotate_left 2; (focus (go_simp; first | done | rfl)); (focus ((try simp only [Kr.PT]); first | done | rfl)))
  refine Kr.seqDoneW ?_
  go_upto_region 1 with fail
  refine Kr.seqStartW ?_
  (refine Kr.seqQ (v := ?_) (a' := ?_) (by rfl) ?_ ?_ ?_; rotate_left 2; (focus (go_simp; first | done | rfl)); (focus ((try simp only [Kr.PT]); first | done | rfl)))
  refine Kr.seqDoneW ?_
  go_upto_region 2 with fail
  refine Kr.seqStartW ?_
  (refine Kr.seqQ (v := ?_) (a' := ?_) (by rfl) ?_ ?_ ?_; rotate_left 2; (focus (go_simp; first | done | rfl)); (focus ((try simp only [Kr.PT]); first | done | rfl)))
  refine Kr.seqDoneW ?_
  have H2 := Lib.hid H; clear H
  go_wp2_with fail
  go_loopw [5, 6] (fun nv jv wr => ∃ i z : Nat, i ≤ 16 ∧ vB l i % m = z ∧ nv = .int .i64 (z : Int) ∧ jv = .int .i64 (i : Int) ∧ Hid (Ow w wr [(bh, 23, l.map w8)])) (fun _ jv _ => 16 - (intOf jv).toNat)
  case atStart => exact ⟨0, 0, Nat.zero_le _, Nat.zero_mod _, rfl, rfl, H2⟩
  case round =>
    clear H2; obtain ⟨i, z, hi, hz, rfl, rfl, HH⟩ := hrel; have H := HH.out; clear HH
    have hzm : z < m := hz ▸ Nat.mod_lt _ (by omega)
    by_cases hie : i = 16
    · have HC : decide ((i : Int) < 16) = false := decide_eq_false (by omega)
      obtain rfl : z = V := by rw [← hz, hie]; exact hV
      clear hie
      go_upto_region 3 with fail
      refine Kr.seqStartW ?_
      (refine Kr.seqQ (v := ?_) (a' := ?_) (by rfl) ?_ ?_ ?_; rotate_left 2; (focus (go_simp; first | done | rfl)); (focus ((try simp only [Kr.PT]); first | done | rfl)))
      (refine Kr.seqQ (v := .bool false) (a' := ?_) (by rfl) ?_ ?_ ?_; rotate_left 1; (focus (exact Kr.valOf rfl (lssT HC))); (focus ((try simp only [Kr.PT]); first | done | rfl)))
      refine Kr.seqDoneW ?_
      go_upto_region 6 with fail
      refine Kr.seqStartW ?_
      (refine Kr.seqQ (v := ?_) (a' := ?_) (by rfl) ?_ ?_ ?_; rotate_left 2; (focus (go_simp; first | done | rfl)); (focus ((try simp only [Kr.PT]); first | done | rfl)))
      (refine Kr.seqQ (v := ?_) (a' := ?_) (by rfl) ?_ ?_ ?_; rotate_left 2; (focus (go_simp; first | done | rfl)); (focus ((try simp only [Kr.PT]); first | done | rfl)))
      refine Kr.seqDoneW ?_
      have hk := trivial
      go_wp2
      refine bodyPost_ret (v := .int .i64 (z : Int)) (by simp [results, Tryd.results19, go_sem, hk]) rfl ⟨rfl, H.g⟩
    · have hil : i < 16 := by omega
      have HC : decide ((i : Int) < 16) = true := decide_eq_true (by omega)
      obtain ⟨x, hx⟩ : ∃ x, l.getD i 0 = x := ⟨_, rfl⟩
      have hgx : l[i]? = some x := hx ▸ getD_of (by omega)
      have hgv : (l.map w8)[i]? = some (w8 x) := map_get8 hgx
      have hxl := x.isLt
      obtain ⟨z1, hz1⟩ : ∃ y, z * B % m = y := ⟨_, rfl⟩
      have hz1m : z1 < m := hz1 ▸ Nat.mod_lt _ (by omega)
      obtain ⟨z3, hz3⟩ : ∃ y, z1 + x.toNat = y := ⟨_, rfl⟩
      obtain ⟨z2, hz2⟩ : ∃ y, z3 % m = y := ⟨_, rfl⟩
      have HADX : IntKind.i64.wrap ((z1 : Int) + (x.toNat : Int)) = (z3 : Int) := wrap_nat (by omega) (by omega)
      have hzI : (z3 : Int) % (m : Int) = (z2 : Int) := by rw [← hz2]; rfl
      have hnx : vB l (i + 1) % m = z2 := by rw [vB, hx, ← hz2, ← hz3, ← hz1, ← hz, ← hB]; exact (num_byte _ _ _ _).symm
      go_upto_region 3 with fail
      refine Kr.seqStartW ?_
      (refine Kr.seqQ (v := ?_) (a' := ?_) (by rfl) ?_ ?_ ?_; rotate_left 2; (focus (go_simp; first | done | rfl)); (focus ((try simp only [Kr.PT]); first | done | rfl)))
      (refine Kr.seqQ (v := .bool true) (a' := ?_) (by rfl) ?_ ?_ ?_; rotate_left 1; (focus (exact Kr.valOf rfl (lssT HC))); (focus ((try simp only [Kr.PT]); first | done | rfl)))
      refine Kr.seqDoneW ?_
      go_upto_region 5 with fail
      refine Kr.startL (fun W' => (W'.heap[bh]? = some (.cells (l.map w8).toArray 23 (0, 0))) ∧ True) [] (by kernel_rfl) ?_
      have gd : Gr wr wr.drew := (Gr.refl _).drew
      generalize wr.drew = d2 at gd ⊢
      replace H := H.grow gd
      clear gd
      (refine Kr.tPQ 0 (v := ?_) (a' := ?_) rfl (by kernel_rfl) (fun _ _ _ h => h) (by rfl) (fun _ => ⟨(H.at 0 rfl), trivial⟩) (fun wx => ?_) ?_ ?_; rotate_left 2; (focus (go_simp; first | done | rfl)); (focus ((try simp only [Kr.PT]); first | done | rfl)))
      (refine Kr.tPQ 1 (v := ?_) (a' := ?_) rfl (by kernel_rfl) (fun _ _ _ h => h) (by rfl) (fun _ => ⟨(H.at 0 rfl), trivial⟩) (fun wx => ?_) ?_ ?_; rotate_left 2; (focus (go_simp; first | done | rfl)); (focus ((try simp only [Kr.PT]); first | done | rfl)))
      (refine Kr.tPQ 2 (v := .int .i64 (B : Int)) (a' := ?_) rfl (by kernel_rfl) (fun _ _ _ h => h) (by rfl) (fun _ => ⟨(H.at 0 rfl), trivial⟩) (fun wx => ?_) ?_ ?_; rotate_left 1; (focus (exact Kr.valOf rfl (remI (x := 256) (d := m) (by omega) hB (by omega)))); (focus ((try simp only [Kr.PT]); first | done | rfl)))
      (refine Kr.tPQ 3 (v := ?_) (a' := ?_) rfl (by kernel_rfl) (fun _ _ _ h => h) (by rfl) (fun _ => ⟨(H.at 0 rfl), trivial⟩) (fun wx => ?_) ?_ ?_; rotate_left 2; (focus (go_simp; first | done | rfl)); (focus ((try simp only [Kr.PT]); first | done | rfl)))
      (refine Kr.tPQ 5 (v := ?_) (a' := ?_) rfl (by kernel_rfl) (fun _ _ _ h => h) (by rfl) (fun _ => ⟨(H.at 0 rfl), trivial⟩) (fun wx => ?_) ?_ ?_; rotate_left 2; (focus (go_simp; first | done | rfl)); (focus ((try simp only [Kr.PT]); first | done | rfl)))
      (refine Kr.tPQ 6 (v := .pointer (some ⟨bh, i, none⟩)) (a' := ?_) rfl (by kernel_rfl) (fun _ _ _ h => h) (by rfl) (fun _ => ⟨(H.at 0 rfl), trivial⟩) (fun wx => ?_) ?_ ?_; rotate_left 1; (focus (exact Kr.valOf rfl (ixH (by omega)))); (focus ((try simp only [Kr.PT]); first | done | rfl)))
      (refine Kr.tSQ 7 [] (v := .int .u8 ((x).toNat : Int)) (a' := ?_) rfl (by kernel_rfl) (fun _ _ _ h => h) (by rfl) ⟨(H.at 0 rfl), trivial⟩ (fun wx hSx => ?_) ?_ ?_; rotate_left 1; (focus (exact Kr.valOf rfl (ldE8 (rowCell hSx.1 hgv)))); (focus ((try simp only [Kr.PT]); first | done | rfl)))
      (refine Kr.tPQ 8 (v := .int .i64 (x.toNat : Int)) (a' := ?_) rfl (by kernel_rfl) (fun _ _ _ h => h) (by rfl) (fun _ => ⟨(H.at 0 rfl), trivial⟩) (fun wx => ?_) ?_ ?_; rotate_left 1; (focus (exact Kr.valOf rfl (convB))); (focus ((try simp only [Kr.PT]); first | done | rfl)))
      (refine Kr.tPQ 10 (v := ?_) (a' := ?_) rfl (by kernel_rfl) (fun _ _ _ h => h) (by rfl) (fun _ => ⟨(H.at 0 rfl), trivial⟩) (fun wx => ?_) ?_ ?_; rotate_left 2; (focus (go_simp; first | done | rfl)); (focus ((try simp only [Kr.PT]); first | done | rfl)))
      refine Kr.readyL (rs := [4]) (by kernel_rfl) (by simp) ?_
      refine Kr.AllL.cons rfl (fun K hK => ?_) Kr.AllL.nil
      go_simp
      go_at_call 33
      have hP := Wr.Mul_any z B m hzm hBm hm2 d2
      rw [hz1] at hP
      refine (hP).mono ?_
      rintro e w9 ⟨rfl, hw⟩
      rw [hw]
      clear hw w9
      clear hP
      (refine Kr.outL hK (a' := ?_) ?_ (fun _ => ⟨(H.at 0 rfl), trivial⟩) ?_; rotate_left; (focus ((try simp only [Kr.PT]); first | done | rfl))); clear hK K
      (refine Kr.tPQ 9 (v := .int .i64 (z3 : Int)) (a' := ?_) rfl (by kernel_rfl) (fun _ _ _ h => h) (by rfl) (fun _ => ⟨(H.at 0 rfl), trivial⟩) (fun wx => ?_) ?_ ?_; rotate_left 1; (focus (exact Kr.valOf rfl (addI HADX))); (focus ((try simp only [Kr.PT]); first | done | rfl)))
      refine Kr.readyL (rs := [11]) (by kernel_rfl) (by simp) ?_
      refine Kr.AllL.cons rfl (fun K hK => ?_) Kr.AllL.nil
      go_simp
      go_at_call 32
      have hP := Wr.Reduce_any (z3 : Int) (m : Int) (by omega) (by omega) d2
      rw [hzI] at hP
      refine (hP).mono ?_
      rintro e w9 ⟨rfl, hw⟩
      rw [hw]
      clear hw w9
      clear hP
      (refine Kr.outL hK (a' := ?_) ?_ (fun _ => ⟨(H.at 0 rfl), trivial⟩) ?_; rotate_left; (focus ((try simp only [Kr.PT]); first | done | rfl))); clear hK K
      (refine Kr.tPQ 12 (v := ?_) (a' := ?_) rfl (by kernel_rfl) (fun _ _ _ h => h) (by rfl) (fun _ => ⟨(H.at 0 rfl), trivial⟩) (fun wx => ?_) ?_ ?_; rotate_left 2; (focus (go_simp; first | done | rfl)); (focus ((try simp only [Kr.PT]); first | done | rfl)))
      refine Kr.doneL (by kernel_rfl) ?_ _
      have HADD : IntKind.i64.wrap ((i : Int) + 1) = ((i + 1 : Nat) : Int) := wrap_nat (by omega) (by omega)
      go_upto_region 4 with fail
      refine Kr.seqStartW ?_
      (refine Kr.seqQ (v := ?_) (a' := ?_) (by rfl) ?_ ?_ ?_; rotate_left 2; (focus (go_simp; first | done | rfl)); (focus ((try simp only [Kr.PT]); first | done | rfl)))
      (refine Kr.seqQ (v := .int .i64 ((i + 1 : Nat) : Int)) (a' := ?_) (by rfl) ?_ ?_ ?_; rotate_left 1; (focus (exact Kr.valOf rfl (addI HADD))); (focus ((try simp only [Kr.PT]); first | done | rfl)))
      (refine Kr.seqQ (v := ?_) (a' := ?_) (by rfl) ?_ ?_ ?_; rotate_left 2; (focus (go_simp; first | done | rfl)); (focus ((try simp only [Kr.PT]); first | done | rfl)))
      refine Kr.seqDoneW ?_
      go_wp2; go_roundw
      case rel => exact ⟨i + 1, z2, by omega, hnx, rfl, rfl, Lib.hid H⟩
      case measure => simp [intOf]; omega
end Go.Proofs.YtldgjhmefaapeaaDoor.Dg


/- Numbers of 64 bits. -/
namespace Go.Proofs.YtldgjhmefaapeaaDoor.Dg
open Go Go.RowKit Go.Proofs.YtldgjhmefaapeaaDoor.Ne Go.Proofs.YtldgjhmefaapeaaDoor.Kr

theorem vB_lt (l : List (BitVec 8)) : ∀ j, vB l j < 256 ^ j
  | 0 => by rw [vB]; decide
  | j + 1 => by
    have h1 := vB_lt l j
    have h2 := (l.getD j 0).isLt
    rw [vB, Nat.pow_succ]
    omega
theorem vB_lt7 (l : List (BitVec 8)) {j : Nat} (h : j ≤ 7) : vB l j < 72057594037927936 := Nat.lt_of_lt_of_le (vB_lt l j) (Nat.pow_le_pow_right (by decide) h)
theorem drop_getD (l : List (BitVec 8)) (j : Nat) : (l.drop 8).getD j 0 = l.getD (8 + j) 0 := by
  rw [List.getD_eq_getElem?_getD, List.getD_eq_getElem?_getD, List.getElem?_drop]
theorem vB_split (l : List (BitVec 8)) : ∀ j, vB l (8 + j) = vB l 8 * 256 ^ j + vB (l.drop 8) j
  | 0 => by
    have e : vB (l.drop 8) 0 = 0 := rfl
    rw [e, Nat.add_zero, Nat.pow_zero, Nat.mul_one, Nat.add_zero]
  | j + 1 => by
    have e1 : vB l (8 + (j + 1)) = vB l (8 + j) * 256 + (l.getD (8 + j) 0).toNat := rfl
    have e2 : vB (l.drop 8) (j + 1) = vB (l.drop 8) j * 256 + ((l.drop 8).getD j 0).toNat := rfl
    rw [e1, e2, vB_split l j, drop_getD, Nat.pow_succ, Nat.add_mul, Nat.mul_assoc, Nat.add_assoc]
theorem low_mod (l : List (BitVec 8)) {k P : Nat} (hk : k < 61) (hP : 2 ^ k = P) : vB l 16 % P = vB (l.drop 8) 8 % P := by
  rw [show (16 : Nat) = 8 + 8 from rfl, vB_split]
  have h : (256 : Nat) ^ 8 = P * 2 ^ (64 - k) := by
    rw [← hP, ← Nat.pow_add, show k + (64 - k) = 64 by omega]
  rw [h, ← Nat.mul_assoc, Nat.mul_comm (vB l 8) P, Nat.mul_assoc, Nat.mul_add_mod]
theorem pow_le60 {k P : Nat} (hk : k < 61) (hP : 2 ^ k = P) : 1 ≤ P ∧ P ≤ 1152921504606846976 := by
  refine ⟨hP ▸ Nat.two_pow_pos k, ?_⟩
  rw [← hP]
  exact Nat.le_trans (Nat.pow_le_pow_right (by decide) (show k ≤ 60 by omega)) (by decide)
set_option linter.unusedSimpArgs false in
theorem rem32 {w : World} {x q : Nat} (hq : x % 1073741824 = q) : (binOp .rem 38 (.int .u32 (x : Int)) (.int .u32 1073741824)).run Tryd.prog w = .ok (.int .u32 (q : Int)) w := by
  have h1 : (x : Int).tmod 1073741824 = (q : Int) := by
    rw [Int.tmod_eq_emod_of_nonneg (by omega)]; omega
  have h3 : IntKind.u32.wrap (q : Int) = (q : Int) := by rw [IntKind.wrap_u32']; omega
  clear hq
  go_simp
set_option linter.unusedSimpArgs false in
theorem conv32 {w : World} {x : Nat} (hx : x < 4294967296) : (convert 38 3 (.int .u32 (x : Int))).run Tryd.prog w = .ok (.int .i64 (x : Int)) w := by
  have : IntKind.i64.wrap (x : Int) = (x : Int) := IntWalk.i64_in _ (by omega)
  clear hx
  go_simp
set_option linter.unusedSimpArgs false in
theorem conv8I {w : World} {x : Nat} (hx : x < 256) : (convert 5 3 (.int .u8 (x : Int))).run Tryd.prog w = .ok (.int .i64 (x : Int)) w := by
  have : IntKind.i64.wrap (x : Int) = (x : Int) := IntWalk.i64_in _ (by omega)
  clear hx
  go_simp
set_option linter.unusedSimpArgs false in
theorem convBU {w : World} {x : BitVec 8} : (convert 5 72 (.int .u8 (x.toNat : Int))).run Tryd.prog w = .ok (.int .u64 (x.toNat : Int)) w := by
  have hx := x.isLt
  have : IntKind.u64.wrap (x.toNat : Int) = (x.toNat : Int) := (by refine (IntWalk.u64_in _ ?_); omega)
  clear hx
  go_simp
set_option linter.unusedSimpArgs false in
theorem convIU {w : World} {x : Nat} (hx : x < 18446744073709551616) : (convert 3 72 (.int .i64 (x : Int))).run Tryd.prog w = .ok (.int .u64 (x : Int)) w := by
  have : IntKind.u64.wrap (x : Int) = (x : Int) := (by refine (IntWalk.u64_in _ ?_); omega)
  clear hx
  go_simp
set_option linter.unusedSimpArgs false in
theorem shl8U {w : World} {x y : Nat} (h : x * 256 = y) (hy : y < 18446744073709551616) : (binOp .shl 72 (.int .u64 (x : Int)) (.int .u64 8)).run Tryd.prog w = .ok (.int .u64 (y : Int)) w := by
  have e : IntKind.u64.wrap ((x : Int) * 256) = (y : Int) := by rw [show (x : Int) * 256 = (y : Int) by omega]; exact IntWalk.u64_in _ (by omega)
  clear h hy
  go_simp
  first | done | exact e
set_option linter.unusedSimpArgs false in
theorem orU {w : World} {x c y : Nat} (h : x ||| c = y) (hx : x < 18446744073709551616) (hc : c < 18446744073709551616) : (binOp .or 72 (.int .u64 (x : Int)) (.int .u64 (c : Int))).run Tryd.prog w = .ok (.int .u64 (y : Int)) w := by
  have e : bits BinOp.or IntKind.u64 (x : Int) (c : Int) = (y : Int) := by rw [u64_or_nat _ _ hx hc, h]
  clear h hx hc
  go_simp
  first | done | exact e
set_option linter.unusedSimpArgs false in
theorem andU {w : World} {x c y : Nat} (h : x &&& c = y) (hx : x < 18446744073709551616) (hc : c < 18446744073709551616) : (binOp .and 72 (.int .u64 (x : Int)) (.int .u64 (c : Int))).run Tryd.prog w = .ok (.int .u64 (y : Int)) w := by
  have e : bits BinOp.and IntKind.u64 (x : Int) (c : Int) = (y : Int) := by rw [u64_and_nat _ _ hx hc, h]
  clear h hx hc
  go_simp
  first | done | exact e
set_option linter.unusedSimpArgs false in
theorem subU1 {w : World} {P Q : Nat} (h : Q + 1 = P) (hP : P < 18446744073709551616) : (binOp .sub 72 (.int .u64 (P : Int)) (.int .u64 1)).run Tryd.prog w = .ok (.int .u64 (Q : Int)) w := by
  have e : IntKind.u64.wrap ((P : Int) - 1) = (Q : Int) := by rw [show (P : Int) - 1 = (Q : Int) by omega]; exact IntWalk.u64_in _ (by omega)
  clear h hP
  go_simp
  first | done | exact e
set_option linter.unusedSimpArgs false in
theorem eqU {w : World} {x y : Int} {b : Bool} (h : decide (x = y) = b) : (binOp .eql 72 (.int .u64 x) (.int .u64 y)).run Tryd.prog w = .ok (.bool b) w := by
  have e : (x == y) = b := by rw [← h]; rw [Bool.eq_iff_iff]; simp
  go_simp
set_option linter.unusedSimpArgs false in
theorem neqI2 {w : World} {x y : Int} {b : Bool} (h : decide (¬ x = y) = b) : (binOp .neq 3 (.int .i64 x) (.int .i64 y)).run Tryd.prog w = .ok (.bool b) w := by
  have e : (!(x == y)) = b := by rw [← h]; rw [Bool.eq_iff_iff]; simp
  go_simp
  first | done | exact e
theorem slH8 {w : World} {b : Nat} : (Instr.sliceAt 23 (.pointer (some ⟨b, 0, none⟩)) (some (.int .i64 8)) (some (.int .i64 16)) none).run Tryd.prog w = .ok (.slice (some ⟨b, 8, none⟩) 8 24) w := by
  go_simp
theorem shlI {w : World} {k P : Nat} (hk : k < 61) (hP : 2 ^ k = P) : (binOp .shl 3 (.int .i64 1) (.int .i64 (k : Int))).run Tryd.prog w = .ok (.int .i64 (P : Int)) w := by
  have hl := pow_le60 hk hP
  have e : IntKind.i64.wrap (P : Int) = (P : Int) := IntWalk.i64_in _ (by omega)
  have h0 : ¬ (k : Int) < 0 := by omega
  have h1 : (0 : Int) ≤ (k : Int) := by omega
  have h2 : (2 : Int) ^ k = (P : Int) := by rw [← hP]; exact (Int.natCast_pow 2 k).symm
  clear hP hl
  go_simp
theorem shlU {w : World} {k P : Nat} (hk : k < 61) (hP : 2 ^ k = P) : (binOp .shl 72 (.int .u64 1) (.int .i64 (k : Int))).run Tryd.prog w = .ok (.int .u64 (P : Int)) w := by
  have hl := pow_le60 hk hP
  have e : IntKind.u64.wrap (P : Int) = (P : Int) := IntWalk.u64_in _ (by omega)
  have h0 : ¬ (k : Int) < 0 := by omega
  have h1 : (0 : Int) ≤ (k : Int) := by omega
  have h2 : (2 : Int) ^ k = (P : Int) := by rw [← hP]; exact (Int.natCast_pow 2 k).symm
  clear hP hl
  go_simp

end Go.Proofs.YtldgjhmefaapeaaDoor.Dg


/- Order of bytes: digests and their texts; equality of digests; the library's comparisons. -/
namespace Go.Proofs
open Go.Shelf
end Go.Proofs
namespace Go.Proofs.YtldgjhmefaapeaaDoor.Dg
open Go Go.RowKit Go.Proofs.YtldgjhmefaapeaaDoor.Ne Go.Proofs.YtldgjhmefaapeaaDoor.Kr

theorem cmp_anti : ∀ a b : List UInt8, Lib.compareBytes b a = - Lib.compareBytes a b
  | [], [] => rfl
  | [], _ :: _ => rfl
  | _ :: _, [] => rfl
  | x :: a, y :: b => by
    unfold Lib.compareBytes
    by_cases h1 : x < y
    · have h2 : ¬ y < x := fun h => UInt8.lt_irrefl x (UInt8.lt_trans h1 h)
      rw [if_pos h1, if_neg h2, if_pos h1]; rfl
    · by_cases h2 : y < x
      · rw [if_pos h2, if_neg h1, if_pos h2]
      · rw [if_neg h2, if_neg h1, if_neg h1, if_neg h2]; exact cmp_anti a b
theorem cmp_zero : ∀ a b : List UInt8, Lib.compareBytes a b = 0 ↔ a = b
  | [], [] => by simp [Lib.compareBytes]
  | [], _ :: _ => by simp [Lib.compareBytes]
  | _ :: _, [] => by simp [Lib.compareBytes]
  | x :: a, y :: b => by
    unfold Lib.compareBytes
    by_cases h1 : x < y
    · rw [if_pos h1]
      refine ⟨fun h => absurd h (by decide), fun h => ?_⟩
      rw [List.cons.injEq] at h
      exact absurd h1 (h.1 ▸ UInt8.lt_irrefl x)
    · by_cases h2 : y < x
      · rw [if_neg h1, if_pos h2]
        refine ⟨fun h => absurd h (by decide), fun h => ?_⟩
        rw [List.cons.injEq] at h
        exact absurd h2 (h.1 ▸ UInt8.lt_irrefl x)
      · rw [if_neg h1, if_neg h2, cmp_zero a b, List.cons.injEq]
        exact ⟨fun h => ⟨UInt8.le_antisymm (UInt8.not_lt.1 h2) (UInt8.not_lt.1 h1), h⟩, fun h => h.2⟩
theorem cmp_trans : ∀ a b c : List UInt8, Lib.compareBytes a b ≤ 0 → Lib.compareBytes b c ≤ 0 → Lib.compareBytes a c ≤ 0
  | [], _, [], _, _ => by simp [Lib.compareBytes]
  | [], _, _ :: _, _, _ => by simp [Lib.compareBytes]
  | _ :: _, [], _, h, _ => absurd h (by simp [Lib.compareBytes])
  | _ :: _, _ :: _, [], _, h => absurd h (by simp [Lib.compareBytes])
  | x :: a, y :: b, z :: c, h1, h2 => by
    unfold Lib.compareBytes at h1 h2 ⊢
    by_cases hxz : x < z
    · rw [if_pos hxz]; decide
    rw [if_neg hxz]
    have hxy : ¬ y < x := fun h => by rw [if_neg (fun h3 => UInt8.lt_irrefl x (UInt8.lt_trans h3 h)), if_pos h] at h1; exact absurd h1 (by decide)
    have hyz : ¬ z < y := fun h => by rw [if_neg (fun h3 => UInt8.lt_irrefl y (UInt8.lt_trans h3 h)), if_pos h] at h2; exact absurd h2 (by decide)
    have e1 : x = y := UInt8.le_antisymm (UInt8.not_lt.1 hxy) (UInt8.le_trans (UInt8.not_lt.1 hyz) (UInt8.not_lt.1 hxz))
    subst e1
    have e2 : x = z := UInt8.le_antisymm (UInt8.not_lt.1 hyz) (UInt8.not_lt.1 hxz)
    subst e2
    rw [if_neg (UInt8.lt_irrefl x), if_neg (UInt8.lt_irrefl x)] at h1 h2
    rw [if_neg (UInt8.lt_irrefl x)]
    exact cmp_trans a b c h1 h2
theorem cmp_range : ∀ a b : List UInt8, -1 ≤ Lib.compareBytes a b ∧ Lib.compareBytes a b ≤ 1
  | [], [] => by simp [Lib.compareBytes]
  | [], _ :: _ => by simp [Lib.compareBytes]
  | _ :: _, [] => by simp [Lib.compareBytes]
  | x :: a, y :: b => by
    unfold Lib.compareBytes
    split
    · decide
    · split
      · decide
      · exact cmp_range a b
/-- Bytes as the library compares them. -/
def u8 (l : List (BitVec 8)) : List UInt8 := l.map UInt8.ofBitVec
theorem u8_inj {l m : List (BitVec 8)} (h : u8 l = u8 m) : l = m := by
  have h3 := congrArg (List.map UInt8.toBitVec) h
  simpa [u8, List.map_map, Function.comp_def] using h3
theorem dig_lt : ∀ q r : Fin 16, (UInt8.ofBitVec (dig q.val) < UInt8.ofBitVec (dig r.val)) ↔ q.val < r.val := by decide
theorem cmp_hex : ∀ a b : List (BitVec 8), a.length = b.length → Lib.compareBytes (u8 (hexL a)) (u8 (hexL b)) = Lib.compareBytes (u8 a) (u8 b)
  | [], [], _ => rfl
  | [], _ :: _, h => by simp at h
  | _ :: _, [], h => by simp at h
  | x :: a, y :: b, h => by
    have ih := cmp_hex a b (by simpa using h)
    have e (z : BitVec 8) (r : List (BitVec 8)) : u8 (hexL (z :: r)) = UInt8.ofBitVec (dig (z.toNat / 16)) :: UInt8.ofBitVec (dig (z.toNat % 16)) :: u8 (hexL r) := rfl
    have hx := x.isLt
    have hy := y.isLt
    have d1 := dig_lt ⟨x.toNat / 16, by omega⟩ ⟨y.toNat / 16, by omega⟩
    have d2 := dig_lt ⟨y.toNat / 16, by omega⟩ ⟨x.toNat / 16, by omega⟩
    have d3 := dig_lt ⟨x.toNat % 16, by omega⟩ ⟨y.toNat % 16, by omega⟩
    have d4 := dig_lt ⟨y.toNat % 16, by omega⟩ ⟨x.toNat % 16, by omega⟩
    have l1 : (UInt8.ofBitVec x < UInt8.ofBitVec y) ↔ x.toNat < y.toNat := Iff.rfl
    have l2 : (UInt8.ofBitVec y < UInt8.ofBitVec x) ↔ y.toNat < x.toNat := Iff.rfl
    show Lib.compareBytes _ _ = Lib.compareBytes (UInt8.ofBitVec x :: u8 a) (UInt8.ofBitVec y :: u8 b)
    rw [e, e]
    simp only [Lib.compareBytes, d1, d2, d3, d4, l1, l2]
    rw [ih]
    by_cases h1 : x.toNat / 16 < y.toNat / 16
    · rw [if_pos h1, if_pos (by omega)]
    rw [if_neg h1]
    by_cases h2 : y.toNat / 16 < x.toNat / 16
    · rw [if_pos h2, if_neg (by omega), if_pos (by omega)]
    rw [if_neg h2]
    by_cases h3 : x.toNat % 16 < y.toNat % 16
    · rw [if_pos h3, if_pos (by omega)]
    rw [if_neg h3]
    by_cases h4 : y.toNat % 16 < x.toNat % 16
    · rw [if_pos h4, if_neg (by omega), if_pos (by omega)]
    rw [if_neg h4, if_neg (by omega), if_neg (by omega)]

theorem eqItems8 {w : World} {d : Nat} {la lb : List (BitVec 8)} : ∀ (n k : Nat), la.length = k + n → lb.length = k + n →
    (Op.eqItems (d + 1) 5 1 (la.map w8).toArray (lb.map w8).toArray (List.range' k n)).run Tryd.prog w = .ok (decide (la.drop k = lb.drop k)) w
  | 0, k, h1, h2 => by
    rw [List.drop_of_length_le (by omega), List.drop_of_length_le (by omega)]
    rfl
  | n + 1, k, h1, h2 => by
    have ih := eqItems8 (w := w) (d := d) (la := la) (lb := lb) n (k + 1) (by omega) (by omega)
    have ha : k < la.length := by omega
    have hb : k < lb.length := by omega
    have pa : (part 5 (la.map w8).toArray (k * 1)).run Tryd.prog w = .ok (w8 la[k]) w := by
      refine run_part_plain w (by kernel_rfl) ?_
      simp [ha]
    have pb : (part 5 (lb.map w8).toArray (k * 1)).run Tryd.prog w = .ok (w8 lb[k]) w := by
      refine run_part_plain w (by kernel_rfl) ?_
      simp [hb]
    rw [List.range'_succ]
    simp only [Op.eqItems, Sem.run_bind, pa, pb, Result.andThen_ok]
    rw [w8, w8, run_equalIn_int w d 5 _ _ _ _ Tryd.underlying5, List.drop_eq_getElem_cons ha, List.drop_eq_getElem_cons hb]
    simp only [Result.andThen_ok]
    by_cases hxy : la[k] = lb[k]
    · have e1 : decide (la[k] :: la.drop (k + 1) = lb[k] :: lb.drop (k + 1)) = decide (la.drop (k + 1) = lb.drop (k + 1)) := decide_eq_decide.2 (by rw [List.cons.injEq]; exact ⟨fun h => h.2, fun h => ⟨hxy, h⟩⟩)
      have hb2 : ((la[k].toNat : Int) == (lb[k].toNat : Int)) = true := by rw [hxy]; exact beq_self_eq_true _
      rw [e1, hb2, ← ih]
      rfl
    · have e1 : decide (la[k] :: la.drop (k + 1) = lb[k] :: lb.drop (k + 1)) = false := decide_eq_false (by rw [List.cons.injEq]; exact fun h => hxy h.1)
      have hne : ¬ ((la[k].toNat : Int) = (lb[k].toNat : Int)) := fun h => hxy (BitVec.eq_of_toNat_eq (by omega))
      have hb2 : ((la[k].toNat : Int) == (lb[k].toNat : Int)) = false := by simpa using hne
      rw [e1, hb2]
      rfl
set_option maxRecDepth 100000 in
theorem eqH {w : World} {la lb : List (BitVec 8)} {b : Bool} (ha : la.length = 32) (hb : lb.length = 32) (h : decide (la = lb) = b) : (binOp .eql 23 (.agg (la.map w8).toArray) (.agg (lb.map w8).toArray)).run Tryd.prog w = .ok (.bool b) w := by
  have hi : ∃ i, Tryd.prog.info? 5 = some i := ⟨_, rfl⟩
  obtain ⟨i, hi⟩ := hi
  have hr := run_equalIn_array (P := Tryd.prog) w 9999 (la.map w8).toArray (lb.map w8).toArray Tryd.underlying23 hi
  have hc : Tryd.prog.cellsOf 5 = 1 := by kernel_rfl
  rw [hc, List.range_eq_range', eqItems8 32 0 (by omega) (by omega), List.drop_zero, List.drop_zero, h] at hr
  rw [run_eql_struct, hr]
  rfl
theorem bytesOf_u8 (l : List (BitVec 8)) : Lib.bytesOf (l.map fun x => (x.toNat : Int)) = u8 l := by
  unfold Lib.bytesOf u8
  rw [List.map_map]
  refine List.map_congr_left fun x _ => ?_
  show UInt8.ofNat ((x.toNat : Int).toNat) = UInt8.ofBitVec x
  rw [Int.toNat_natCast]
  apply UInt8.toBitVec_inj.1
  show BitVec.ofNat 8 x.toNat = x
  rw [BitVec.ofNat_toNat, BitVec.setWidth_eq]
theorem run_load8 {w : World} {b off : Nat} {l : List (BitVec 8)} (h : BytesAt b off l w) {n c : Nat} (hn : l.length = n) : (Extern.Bytes.bytesOf (.slice (some ⟨b, off, none⟩) n c)).run Tryd.prog w = .ok ⟨(u8 l).toArray⟩ w := by
  have hl := Lib.run_loadBytesX (P := Tryd.prog) w (l.map fun x => (x.toNat : Int)) ⟨b, off, none⟩ .empty (fun j x hj => by
    rw [List.getElem?_map, Option.map_eq_some_iff] at hj
    obtain ⟨y, h1, rfl⟩ := hj
    rw [addr_add, h j y h1]
    rfl)
  rw [List.length_map, hn, bytesOf_u8] at hl
  have he : (⟨ByteArray.empty.data ++ (u8 l).toArray⟩ : ByteArray) = ⟨(u8 l).toArray⟩ := by
    apply ByteArray.ext
    show (#[] : Array UInt8) ++ (u8 l).toArray = (u8 l).toArray
    simp
  rw [he] at hl
  exact hl
theorem run_cmp8 {w : World} {b1 o1 n1 c1 b2 o2 n2 c2 : Nat} {l m : List (BitVec 8)} (h1 : BytesAt b1 o1 l w) (e1 : l.length = n1) (h2 : BytesAt b2 o2 m w) (e2 : m.length = n2) :
    (Extern.BytealgCompare.compare #[.slice (some ⟨b1, o1, none⟩) n1 c1, .slice (some ⟨b2, o2, none⟩) n2 c2]).run Tryd.prog w = .ok (.int .i64 (Lib.compareBytes (u8 l) (u8 m))) w := by
  change Sem.run Tryd.prog (do pure (goInt (Extern.BytealgCompare.cmp (← Extern.Bytes.bytesOf (.slice (some ⟨b1, o1, none⟩) n1 c1)) (← Extern.Bytes.bytesOf (.slice (some ⟨b2, o2, none⟩) n2 c2))))) w = _
  simp only [Sem.run_bind, Sem.run_pure, run_load8 h1 e1, run_load8 h2 e2, Result.andThen_ok]
  rw [Lib.cmp_eq]
  rfl
end Go.Proofs.YtldgjhmefaapeaaDoor.Dg


/- Rows of one's own that grow by append, beside other blocks of one's own: for whatever elements of one cell; a source that may be empty. -/
namespace Go.Proofs.YtldgjhmefaapeaaDoor.Dg
open Go Go.RowKit Go.Proofs.YtldgjhmefaapeaaDoor.Ne Go.Proofs.YtldgjhmefaapeaaDoor.Kr
/-- The slice v is the call's own and holds these values. -/
def RowG (T : TypeId) (B : Nat) (v : Value) (xs : List Value) (W : World) : Prop := W.ownsRow B T 1 v xs.length xs
theorem RowG.nil (T : TypeId) (B : Nat) (W : World) : RowG T B (.slice none 0 0) [] W := ⟨rfl, .inl ⟨rfl, rfl⟩⟩
theorem RowG.grow {T : TypeId} {B : Nat} {v : Value} {xs : List Value} {W W' : World} (h : RowG T B v xs W) (g : Gr W W') : RowG T B v xs W' := Nr2.ownsRow_below h g
theorem RowG.lt {T : TypeId} {B : Nat} {v : Value} {xs : List Value} {W : World} (h : RowG T B v xs W) : ∀ k, v.ownBlock = some k → B ≤ k ∧ k < W.heap.size := World.ownsRow.lt h
/-- These values lie behind p. -/
def SrcG (p : Option Addr) (xs : List Value) (W : World) : Prop := xs = [] ∨ ∃ b off, p = some ⟨b, off, none⟩ ∧ ∀ j u, xs[j]? = some u → W.cell? ⟨b, off + j, none⟩ = some u
theorem SrcB.srcG {p : Option Addr} {l : List (BitVec 8)} {W : World} (h : SrcB p l W) : SrcG p (l.map w8) W := by
  rcases h with rfl | ⟨b, off, rfl, h⟩
  · exact .inl rfl
  · refine .inr ⟨b, off, rfl, fun j u hu => ?_⟩
    rw [List.getElem?_map, Option.map_eq_some_iff] at hu
    obtain ⟨x, hx, rfl⟩ := hu
    exact h j x hx
theorem RowG.src {T : TypeId} {B : Nat} {v : Value} {xs : List Value} {W : World} (h : RowG T B v xs W) : ∃ p c, v = .slice p xs.length c ∧ xs.length ≤ c ∧ (p = none → c = 0) ∧ SrcG p xs W := by
  rcases h.2 with ⟨h1, h2⟩ | ⟨g, cap, cur, h1, _, h3, h4, _, _, h6⟩
  · exact ⟨none, 0, by rw [h1, h2], by omega, fun _ => rfl, .inl (List.eq_nil_of_length_eq_zero h2)⟩
  · refine ⟨_, cap, h1, h4, (fun e => by cases e), .inr ⟨g, 0, rfl, fun j u hu => ?_⟩⟩
    have hj : j < xs.length := (List.getElem?_eq_some_iff.1 hu).1
    rw [Nat.zero_add, cell_of_row W g j cur _ _ h3]
    rw [← h6, Nat.mul_one, List.getElem?_take, if_pos hj] at hu
    simpa using hu
/-- The row lies in none of these blocks. -/
def Apt (v : Value) (rs : List Blk) : Prop := ∀ k, v.ownBlock = some k → ∀ x ∈ rs, x.1 ≠ k
theorem Apt.nil (rs : List Blk) : Apt (.slice none 0 0) rs := fun _ h => by cases h
theorem Apt.none (v : Value) : Apt v [] := fun _ _ _ h => by cases h
theorem Ow.grown {w W W' : World} {rs : List Blk} {row : Option Nat} (H : Ow w W rs) (g : W.grownBy W' row) (hr : ∀ k, row = some k → w.heap.size ≤ k ∧ ∀ x ∈ rs, x.1 ≠ k) : Ow w W' rs := by
  refine ⟨gr_grown H.g g (fun k e => (hr k e).1), fun x hx => ?_, H.low, H.ne⟩
  rw [g.block x.1 (H.lt hx) (fun e => (hr _ e.symm).2 x hx rfl)]
  exact H.r x hx
/-- The empty literal. -/
theorem row_new {w W : World} {T : TypeId} {rs : List Blk} (H : Ow w W rs) : RowG T w.heap.size (.slice (some ⟨W.heap.size, 0, none⟩) 0 0) [] (W.alloc (.cells #[] T)) ∧ Apt (.slice (some ⟨W.heap.size, 0, none⟩) 0 0) rs := by
  refine ⟨⟨rfl, .inr ⟨W.heap.size, 0, #[], rfl, H.g.le, heap_alloc_last _ _, Nat.le_refl _, Nat.zero_le _, rfl, rfl⟩⟩, fun k hk x hx e => ?_⟩
  have := H.lt hx
  simp [Value.ownBlock] at hk
  omega
/-- A literal's values. -/
theorem lit_src {W : World} {T : TypeId} (xs : List Value) : SrcG (some ⟨W.heap.size, 0, none⟩) xs (W.alloc (.cells xs.toArray T)) := by
  refine .inr ⟨W.heap.size, 0, rfl, fun j u hu => ?_⟩
  rw [Nat.zero_add, cell_of_row _ _ j _ _ _ (heap_alloc_last W _)]
  simpa using hu
theorem SrcG.grow {p : Option Addr} {xs : List Value} {W W' : World} (h : SrcG p xs W) (g : Gr W W') : SrcG p xs W' := by
  rcases h with h | ⟨b, off, e, h⟩
  · exact .inl h
  · exact .inr ⟨b, off, e, fun j u hu => g.cell (h j u hu)⟩
theorem wp_appG {T TS : TypeId} {z : Value} {bytes : Nat} (hu : Tryd.prog.underlying TS = some (.slice T)) (hi : (Tryd.prog.info? T).map (fun i => (i.zero, i.size, i.bytes)) = some (some z, 1, bytes)) (hz : z.cells.size = 1)
    {w W : World} {o : Oper} {a : Act} {K : Act → World → Prop} {Q : Exit → Act → World → Prop} (s x : Operand) (ho : o.op = .call { callee := .builtin .append, args := #[s, x], argTypes := #[TS, TS] })
    {v : Value} {r d : List Value} {p : Option Addr} {m c : Nat} {rs : List Blk} (hs : a.eval s = v) (hx : a.eval x = .slice p m c) (hl : d.length = m) (hsrc : SrcG p d W) (h1 : ∀ u ∈ d, u.oneCell' = true) (hp : p = none → c = 0)
    (H : Ow w W rs) (HR : RowG T w.heap.size v r W) (HA : Apt v rs) (hb : r.length + m ≤ 100000000) (hby : bytes ≤ 8)
    (h : ∀ v1 W', Ow w W' rs → RowG T w.heap.size v1 (r ++ d) W' → Apt v1 rs → K (a.put o.dst v1) W') : o.wp Tryd.prog a W K Q := by
  obtain ⟨i0, hi0, hz0, hz1, hz2⟩ := info_parts hi
  subst hl
  have hmul : (r.length + d.length) * bytes ≤ 100000000 * 8 := Nat.mul_le_mul hb hby
  have key : ∀ a0 : Addr, p = some a0 → (∀ j u, d[j]? = some u → W.cell? (a0.add j) = some u) → o.wp Tryd.prog a W K Q := by
    intro a0 hpa hnews
    subst hpa
    obtain ⟨v1, W', hr, ho1, hg1, _, hb1⟩ := run_append_own_at (P := Tryd.prog) W w.heap.size TS o.type T i0 z 1 bytes hu hi0 hz0 hz1 hz2 hz (by decide) v r.length r HR a0 d.length c d (by omega) hnews h1 (by unfold maxLen; omega) (by omega) H.g.le
    unfold Oper.wp execOp
    simp only [ho, resolve, invoke, builtin, Sem.run_bind, Sem.run_pure, Result.andThen_ok, List.map_toArray, List.map_cons, List.map_nil, hs, hx, hr]
    refine h v1 W' (H.grown hg1 (fun k e => ⟨(HR.lt k e).1, HA k e⟩)) ?_ ?_
    · show W'.ownsRow w.heap.size T 1 v1 (r ++ d).length (r ++ d)
      rw [List.length_append]; exact ho1
    · intro k hk y hy e
      rcases hb1 with hb1 | hb1
      · rw [hb1] at hk; exact HA k hk y hy e
      · rw [hb1] at hk
        have := H.lt hy
        have e2 := Option.some.inj hk
        omega
  cases p with
  | some a0 =>
    refine key a0 rfl (fun j u hj => ?_)
    rcases hsrc with h0 | ⟨b, off, e, h2⟩
    · rw [h0] at hj; simp at hj
    · cases e
      rw [addr_add]; exact h2 j u hj
  | none =>
    rcases hsrc with h0 | ⟨b, off, e, h2⟩
    · subst h0
      have hc := hp rfl
      subst hc
      have hr := run_append_owned_none (P := Tryd.prog) (w := W) w.heap.size TS o.type T i0 1 hu hi0 v r.length r HR
      have hx' : a.eval x = .slice none 0 0 := hx
      unfold Oper.wp execOp
      simp only [ho, resolve, invoke, builtin, Sem.run_bind, Sem.run_pure, Result.andThen_ok, List.map_toArray, List.map_cons, List.map_nil, hs, hx', hr]
      exact h v W H (by rw [List.append_nil]; exact HR) HA
    · cases e
theorem info32 : (Tryd.prog.info? 38).map (fun i => (i.zero, i.size, i.bytes)) = some (some (.int .u32 0), 1, 4) := by kernel_rfl
end Go.Proofs.YtldgjhmefaapeaaDoor.Dg


/- The reference's bytes. -/
namespace Go.Proofs.YtldgjhmefaapeaaDoor.Dg
open Go Go.RowKit Go.Proofs.YtldgjhmefaapeaaDoor.Ne Go.Proofs.YtldgjhmefaapeaaDoor.Kr

theorem row_new2 {w W y : World} {T : TypeId} {rs : List Blk} {b : Nat} (H : Ow w W rs) (hy : W.alloc (.cells #[] T) = y) (hb : W.heap.size = b) : RowG T w.heap.size (.slice (some ⟨b, 0, none⟩) 0 0) [] y ∧ Apt (.slice (some ⟨b, 0, none⟩) 0 0) rs := by
  subst hy hb
  exact row_new H
theorem src_ne {p : Option Addr} {l : List (BitVec 8)} {W : World} {c : Nat} (h : SrcB p l W) (hl : 0 < l.length) : p = none → c = 0 := fun e => by
  obtain ⟨b, off, e2, _⟩ := src_some h hl
  rw [e] at e2; cases e2
theorem one_lit8 (xs : List (BitVec 8)) : ∀ u ∈ xs.map w8, u.oneCell' = true := oneCell_bytes xs
theorem srcB_of {p : Option Addr} {l : List (BitVec 8)} {W : World} (h : SrcG p (l.map w8) W) : SrcB p l W := by
  rcases h with h | ⟨b, off, e, h⟩
  · exact .inl (List.map_eq_nil_iff.1 h)
  · refine .inr ⟨b, off, e, fun j x hx => h j (w8 x) ?_⟩
    rw [List.getElem?_map, hx]; rfl

set_option linter.unusedSimpArgs false in
set_option maxRecDepth 100000 in
set_option maxHeartbeats 16000000 in
theorem rBytes_v {n : Nat} {w : World} :
    Calls Tryd.prog 56 #[.int .i64 (n : Int)] w fun e w' => ∃ p c, e = .returned (.slice p 8 c) ∧ 8 ≤ c ∧ SrcB p (be8 n) w' ∧ Gr w w' := by
  obtain ⟨R, hR⟩ : ∃ R, be8 n = R := ⟨_, rfl⟩
  rw [hR]; have hRl : R.length = 8 := by rw [← hR]; exact be8_length _; 
  have HRE := Lib.hid hR; clear hR
  have H := Ow.start w
  go_enter Tryd.func56, Tryd.ntmps56
  go_upto_region 0 with fail
  refine Kr.seqStartW ?_
  (refine Kr.seqQ (v := ?_) (a' := ?_) (by rfl) ?_ ?_ ?_; rotate_left 2; (focus (go_simp; first | done | rfl)); (focus ((try simp only [Kr.PT]); first | done | rfl)))
  refine Kr.seqDoneW ?_
  go_upto_region 1 with fail
  refine Kr.seqStartW ?_
  (refine Kr.seqQ (v := ?_) (a' := ?_) (by rfl) ?_ ?_ ?_; rotate_left 2; (focus (go_simp; first | done | rfl)); (focus ((try simp only [Kr.PT]); first | done | rfl)))
  refine Kr.seqDoneW ?_
  go_upto_region 2 with fail
  refine Kr.seqStartW ?_
  (refine Kr.seqQ (v := ?_) (a' := ?_) (by rfl) ?_ ?_ ?_; rotate_left 2; (focus (go_simp; first | done | rfl)); (focus ((try simp only [Kr.PT]); first | done | rfl)))
  refine Kr.seqDoneW ?_
  have hr0 : Hid (RowG 5 w.heap.size (.slice none 0 0) ((R.take 0).map w8) w) := Lib.hid (RowG.nil _ _ _)
  have H2 := Lib.hid H; clear H
  go_wp2_with fail
  go_loopw [3, 4] (fun v iv wr => ∃ (j : Nat) (i : Int), j ≤ 8 ∧ i + j = 7 ∧ iv = .int .i64 i ∧ Hid (RowG 5 w.heap.size v ((R.take j).map w8) wr) ∧ Hid (Apt v []) ∧ Hid (Ow w wr [])) (fun _ iv _ => (intOf iv + 1).toNat)
  case atStart => exact ⟨0, 7, by decide, by decide, rfl, hr0, Lib.hid (Apt.nil _), H2⟩
  case round =>
    clear H2 hr0; obtain ⟨j, i, hj, hij, rfl, HR, HA, HH⟩ := hrel; have H := HH.out; replace HA := HA.out; clear HH
    have htl : (R.take j).length = j := by rw [List.length_take, hRl]; omega
    by_cases hje : j = 8
    · have HC : decide ((0 : Int) ≤ i) = false := decide_eq_false (by omega)
      rw [show R.take j = R from List.take_of_length_le (by omega)] at HR
      clear hje htl
      obtain ⟨p, c, rfl, hc, _, hsrc⟩ := HR.out.src
      rw [List.length_map, hRl] at hc ⊢
      have HSRC := Lib.hid (srcB_of hsrc); clear hsrc HR HA
      go_upto_region 3 with fail
      refine Kr.seqStartW ?_
      (refine Kr.seqQ (v := ?_) (a' := ?_) (by rfl) ?_ ?_ ?_; rotate_left 2; (focus (go_simp; first | done | rfl)); (focus ((try simp only [Kr.PT]); first | done | rfl)))
      (refine Kr.seqQ (v := .bool false) (a' := ?_) (by rfl) ?_ ?_ ?_; rotate_left 1; (focus (exact Kr.valOf rfl (geqI HC))); (focus ((try simp only [Kr.PT]); first | done | rfl)))
      refine Kr.seqDoneW ?_
      go_upto_region 6 with fail
      refine Kr.seqStartW ?_
      (refine Kr.seqQ (v := ?_) (a' := ?_) (by rfl) ?_ ?_ ?_; rotate_left 2; (focus (go_simp; first | done | rfl)); (focus ((try simp only [Kr.PT]); first | done | rfl)))
      (refine Kr.seqQ (v := ?_) (a' := ?_) (by rfl) ?_ ?_ ?_; rotate_left 2; (focus (go_simp; first | done | rfl)); (focus ((try simp only [Kr.PT]); first | done | rfl)))
      refine Kr.seqDoneW ?_
      have hk := trivial
      go_wp2
      refine bodyPost_ret (v := .slice p 8 c) (by simp [results, Tryd.results56, go_sem, hk]) rfl ⟨p, c, rfl, hc, HSRC.out, H.g⟩
    · have hjl : j < 8 := by omega
      obtain ⟨k, rfl⟩ : ∃ k : Nat, i = (k : Int) := ⟨i.toNat, by omega⟩
      have HC : decide ((0 : Int) ≤ (k : Int)) = true := decide_eq_true (by omega)
      have hk7 : 7 - j = k := by omega
      obtain ⟨kk, hkk⟩ : ∃ z, 8 * k = z := ⟨_, rfl⟩
      obtain ⟨q, hq⟩ : ∃ z, n / 2 ^ kk = z := ⟨_, rfl⟩
      obtain ⟨z, hz⟩ : ∃ z, BitVec.ofNat 8 q = z := ⟨_, rfl⟩
      have hzb : byteOf n j = z := by unfold byteOf; rw [hk7, hkk, hq, hz]
      have htk : (R.take (j + 1)).map w8 = (R.take j).map w8 ++ [w8 z] := by rw [← HRE.out, be8_take n hjl, hzb, List.map_append]; rfl
      have hmul : IntKind.i64.wrap ((8 : Int) * (k : Int)) = (kk : Int) := wrap_nat (by omega) (by omega)
      obtain ⟨i2, hi2⟩ : ∃ i2 : Int, (k : Int) - 1 = i2 := ⟨_, rfl⟩
      have hsub : IntKind.i64.wrap ((k : Int) - 1) = i2 := by rw [hi2]; exact IntWalk.i64_in _ (by omega)
      go_upto_region 3 with fail
      refine Kr.seqStartW ?_
      (refine Kr.seqQ (v := ?_) (a' := ?_) (by rfl) ?_ ?_ ?_; rotate_left 2; (focus (go_simp; first | done | rfl)); (focus ((try simp only [Kr.PT]); first | done | rfl)))
      (refine Kr.seqQ (v := .bool true) (a' := ?_) (by rfl) ?_ ?_ ?_; rotate_left 1; (focus (exact Kr.valOf rfl (geqI HC))); (focus ((try simp only [Kr.PT]); first | done | rfl)))
      refine Kr.seqDoneW ?_
      go_upto_region 5 with fail
      refine Kr.seqStartW ?_
      (refine Kr.seqQ (v := ?_) (a' := ?_) (by rfl) ?_ ?_ ?_; rotate_left 2; (focus (go_simp; first | done | rfl)); (focus ((try simp only [Kr.PT]); first | done | rfl)))
      (refine Kr.seqQ (v := ?_) (a' := ?_) (by rfl) ?_ ?_ ?_; rotate_left 2; (focus (go_simp; first | done | rfl)); (focus ((try simp only [Kr.PT]); first | done | rfl)))
      (refine Kr.seqQ (v := ?_) (a' := ?_) (by rfl) ?_ ?_ ?_; rotate_left 2; (focus (go_simp; first | done | rfl)); (focus ((try simp only [Kr.PT]); first | done | rfl)))
      (refine Kr.seqQ (v := .int .i64 (kk : Int)) (a' := ?_) (by rfl) ?_ ?_ ?_; rotate_left 1; (focus (exact Kr.valOf rfl (mulI hmul))); (focus ((try simp only [Kr.PT]); first | done | rfl)))
      (refine Kr.seqQ (v := .int .i64 (q : Int)) (a' := ?_) (by rfl) ?_ ?_ ?_; rotate_left 1; (focus (exact Kr.valOf rfl (shrI (by omega) hq))); (focus ((try simp only [Kr.PT]); first | done | rfl)))
      (refine Kr.seqQ (v := .int .u8 ((z).toNat : Int)) (a' := ?_) (by rfl) ?_ ?_ ?_; rotate_left 1; (focus (exact Kr.valOf rfl (convI8 hz))); (focus ((try simp only [Kr.PT]); first | done | rfl)))
      refine Kr.seqR (by rfl) (fun K hK => ?_)
      go_simp
      obtain ⟨y1, hy⟩ : ∃ y, wr.alloc (.cells #[.int .u8 ((z).toNat : Int)] 5) = y := ⟨_, rfl⟩
      obtain ⟨bone, hbn⟩ : ∃ b, wr.heap.size = b := ⟨_, rfl⟩
      rw [hy, hbn]
      have hy2 : wr.alloc (.cells ([.int .u8 ((z).toNat : Int)] : List Value).toArray 5) = y1 := hy
      have hg : Gr wr y1 := hy ▸ (Gr.refl _).alloc _
      have HLIT := Lib.hid (hbn ▸ hy2 ▸ lit_src (W := wr) (T := 5) [.int .u8 ((z).toNat : Int)]); clear hy2
      replace H := H.grow hg
      replace HR := Lib.hid (HR.out.grow hg)
      clear hg hy hbn
      (refine Kr.outS hK (a' := ?_) ?_ ?_; rotate_left; (focus ((try simp only [Kr.PT]); first | done | rfl))); clear hK K
      refine Kr.seqR (by rfl) (fun K hK => ?_)
      refine wp_appG (T := 5) (TS := 46) Tryd.underlying46 info8 rfl (.tmp 9) (.tmp 15) rfl (v := u3) (r := ((R.take j).map w8)) (d := [w8 z]) (p := (some ⟨bone, 0, none⟩)) (m := 1) (c := 1) (rs := []) rfl rfl (rfl) (HLIT.out) (one_lit8 [z]) (fun e => by cases e) H HR.out HA (by rw [List.length_map, htl]; omega) (by decide) ?_
      intro v1 y2 H3 hR3 hA3
      clear H HR HA HLIT; have H := H3; have HR := Lib.hid hR3; have HA := hA3; clear H3 hR3 hA3
      (refine Kr.outS hK (a' := ?_) ?_ ?_; rotate_left; (focus ((try simp only [Kr.PT]); first | done | rfl))); clear hK K
      (refine Kr.seqQ (v := ?_) (a' := ?_) (by rfl) ?_ ?_ ?_; rotate_left 2; (focus (go_simp; first | done | rfl)); (focus ((try simp only [Kr.PT]); first | done | rfl)))
      refine Kr.seqDoneW ?_
      rw [← htk] at HR
      go_upto_region 4 with fail
      refine Kr.seqStartW ?_
      (refine Kr.seqQ (v := ?_) (a' := ?_) (by rfl) ?_ ?_ ?_; rotate_left 2; (focus (go_simp; first | done | rfl)); (focus ((try simp only [Kr.PT]); first | done | rfl)))
      (refine Kr.seqQ (v := .int .i64 i2) (a' := ?_) (by rfl) ?_ ?_ ?_; rotate_left 1; (focus (exact Kr.valOf rfl (subI hsub))); (focus ((try simp only [Kr.PT]); first | done | rfl)))
      (refine Kr.seqQ (v := ?_) (a' := ?_) (by rfl) ?_ ?_ ?_; rotate_left 2; (focus (go_simp; first | done | rfl)); (focus ((try simp only [Kr.PT]); first | done | rfl)))
      refine Kr.seqDoneW ?_
      go_wp2; go_roundw
      case rel => exact ⟨j + 1, i2, by omega, by omega, rfl, HR, Lib.hid HA, Lib.hid H⟩
      case measure => simp [intOf]; omega
end Go.Proofs.YtldgjhmefaapeaaDoor.Dg


/- The padded form. -/
namespace Go.Proofs.YtldgjhmefaapeaaDoor.Dg
open Go Go.RowKit Go.Proofs.YtldgjhmefaapeaaDoor.Ne Go.Proofs.YtldgjhmefaapeaaDoor.Kr

/-- How many zeros stand in the padded form of k bytes. -/
def zc (k : Nat) : Nat := (119 - k % 64) % 64
def pre (l : List (BitVec 8)) (j : Nat) : List (BitVec 8) := l ++ [128#8] ++ List.replicate j 0#8
/-- The padded form. -/
def pd (l : List (BitVec 8)) : List (BitVec 8) := pre l (zc l.length) ++ be8 (8 * l.length)
theorem pre_length (l : List (BitVec 8)) (j : Nat) : (pre l j).length = l.length + 1 + j := by simp [pre]; omega
theorem pre_succ (l : List (BitVec 8)) (j : Nat) : pre l (j + 1) = pre l j ++ [0#8] := by
  unfold pre; rw [List.replicate_succ', ← List.append_assoc]
theorem pd_length (l : List (BitVec 8)) : (pd l).length = l.length + 9 + zc l.length := by
  unfold pd; rw [List.length_append, pre_length, be8_length]; omega
theorem rowG_own {T : TypeId} {B : Nat} {v : Value} {xs : List Value} {W : World} (h : RowG T B v xs W) (hn : 0 < xs.length) :
    ∃ (g cap : Nat) (cur : List Value), v = .slice (some ⟨g, 0, none⟩) xs.length cap ∧ xs.length ≤ cap ∧ B ≤ g ∧ W.heap[g]? = some (.cells cur.toArray T (0, 0)) ∧ cur.take xs.length = xs := by
  rcases h.2 with ⟨h1, h2⟩ | ⟨g, cap, cur, h1, h2, h3, h4, _, _, h6⟩
  · omega
  · exact ⟨g, cap, cur.toList, h1, h4, h2, h3, by rw [← Nat.mul_one xs.length]; exact h6⟩
def lenV : Value → Nat
  | .slice _ n _ => n
  | _ => 0
theorem lenV_row {T : TypeId} {B : Nat} {v : Value} {xs : List Value} {W : World} (h : RowG T B v xs W) : lenV v = xs.length := by
  obtain ⟨p, c, rfl, _⟩ := h.src
  rfl

set_option linter.unusedSimpArgs false in
set_option maxRecDepth 100000 in
set_option maxHeartbeats 16000000 in
theorem padded_v {p : Option Addr} {k c : Nat} {l : List (BitVec 8)} {w : World} (hS : SrcB p l w) (hl : l.length = k) (hp : p = none → c = 0) (hk : k ≤ 1000000) :
    Calls Tryd.prog 44 #[.slice p k c] w fun e w' => ∃ (g cq : Nat) (cur : List Value), e = .returned (.slice (some ⟨g, 0, none⟩) (pd l).length cq) ∧ (pd l).length ≤ cq ∧ w.heap.size ≤ g ∧ w'.heap[g]? = some (.cells cur.toArray 5 (0, 0)) ∧ cur.take (pd l).length = (pd l).map w8 ∧ Gr w w' := by
  have HS := Lib.hid hS; clear hS
  obtain ⟨Z, hZ⟩ : ∃ z, zc k = z := ⟨_, rfl⟩
  have hZ2 : (k + 1 + Z) % 64 = 56 ∧ Z < 64 := by unfold zc at hZ; omega
  obtain ⟨k8, hk8⟩ : ∃ z, 8 * k = z := ⟨_, rfl⟩
  have hpd : pd l = pre l Z ++ be8 k8 := by unfold pd; rw [hl, hZ, hk8]
  have hM : (pd l).length = k + 1 + Z + 8 := by rw [hpd, List.length_append, pre_length, be8_length, hl]
  obtain ⟨M, hM2⟩ : ∃ z, k + 1 + Z + 8 = z := ⟨_, rfl⟩
  rw [hM2] at hM; rw [hM]
  have H := Ow.start w
  go_enter Tryd.func44, Tryd.ntmps44
  go_upto_region 0 with fail
  refine Kr.seqStartW ?_
  (refine Kr.seqQ (v := ?_) (a' := ?_) (by rfl) ?_ ?_ ?_; rotate_left 2; (focus (go_simp; first | done | rfl)); (focus ((try simp only [Kr.PT]); first | done | rfl)))
  refine Kr.seqDoneW ?_
  go_upto_region 1 with fail
  refine Kr.seqStartW ?_
  refine Kr.seqR (by rfl) (fun K hK => ?_)
  go_simp
  obtain ⟨y1, hy⟩ : ∃ y, w.alloc (.cells #[] 5) = y := ⟨_, rfl⟩
  obtain ⟨bnew, hbn⟩ : ∃ b, w.heap.size = b := ⟨_, rfl⟩
  have hnew := row_new2 H hy hbn; rw [hy, hbn]
  have hg : Gr w y1 := hy ▸ (Gr.refl _).alloc _
  obtain ⟨hR, HA⟩ := hnew; have HR := Lib.hid hR; clear hR
  replace H := H.grow hg
  clear hg hy hbn
  (refine Kr.outS hK (a' := ?_) ?_ ?_; rotate_left; (focus ((try simp only [Kr.PT]); first | done | rfl))); clear hK K
  (refine Kr.seqQ (v := ?_) (a' := ?_) (by rfl) ?_ ?_ ?_; rotate_left 2; (focus (go_simp; first | done | rfl)); (focus ((try simp only [Kr.PT]); first | done | rfl)))
  refine Kr.seqR (by rfl) (fun K hK => ?_)
  refine wp_appG (T := 5) (TS := 46) Tryd.underlying46 info8 rfl (.tmp 4) (.tmp 5) rfl (v := (.slice (some ⟨bnew, 0, none⟩) 0 0)) (r := []) (d := (l.map w8)) (p := p) (m := k) (c := c) (rs := []) rfl rfl (by rw [List.length_map]; exact hl) ((HS.out.grow H.g).srcG) (oneCell_bytes l) (hp) H HR.out HA (by show 0 + k ≤ 100000000; omega) (by decide) ?_
  intro v1 y2 H3 hR3 hA3
  clear H HR HA ; have H := H3; have HR := Lib.hid hR3; have HA := hA3; clear H3 hR3 hA3
  (refine Kr.outS hK (a' := ?_) ?_ ?_; rotate_left; (focus ((try simp only [Kr.PT]); first | done | rfl))); clear hK K
  refine Kr.seqR (by rfl) (fun K hK => ?_)
  go_simp
  obtain ⟨y3, hy⟩ : ∃ y, y2.alloc (.cells #[.int .u8 128] 5) = y := ⟨_, rfl⟩
  obtain ⟨bone, hbn⟩ : ∃ b, y2.heap.size = b := ⟨_, rfl⟩
  rw [hy, hbn]
  have hy2 : y2.alloc (.cells ([.int .u8 128] : List Value).toArray 5) = y3 := hy
  have hg : Gr y2 y3 := hy ▸ (Gr.refl _).alloc _
  have HLIT := Lib.hid (hbn ▸ hy2 ▸ lit_src (W := y2) (T := 5) [.int .u8 128]); clear hy2
  replace H := H.grow hg
  replace HR := Lib.hid (HR.out.grow hg)
  clear hg hy hbn
  (refine Kr.outS hK (a' := ?_) ?_ ?_; rotate_left; (focus ((try simp only [Kr.PT]); first | done | rfl))); clear hK K
  refine Kr.seqR (by rfl) (fun K hK => ?_)
  refine wp_appG (T := 5) (TS := 46) Tryd.underlying46 info8 rfl (.tmp 6) (.tmp 7) rfl (v := v1) (r := ([] ++ l.map w8)) (d := [w8 128#8]) (p := (some ⟨bone, 0, none⟩)) (m := 1) (c := 1) (rs := []) rfl rfl (rfl) (HLIT.out) (one_lit8 [128#8]) (fun e => by cases e) H HR.out HA (by rw [List.nil_append, List.length_map, hl]; omega) (by decide) ?_
  intro v2 y4 H3 hR3 hA3
  clear H HR HA HLIT; have H := H3; have HR := Lib.hid hR3; have HA := hA3; clear H3 hR3 hA3
  (refine Kr.outS hK (a' := ?_) ?_ ?_; rotate_left; (focus ((try simp only [Kr.PT]); first | done | rfl))); clear hK K
  (refine Kr.seqQ (v := ?_) (a' := ?_) (by rfl) ?_ ?_ ?_; rotate_left 2; (focus (go_simp; first | done | rfl)); (focus ((try simp only [Kr.PT]); first | done | rfl)))
  refine Kr.seqDoneW ?_
  have h0 : Hid (RowG 5 w.heap.size v2 ((pre l 0).map w8) y4) := Lib.hid (by have h9 := HR.out; rw [List.nil_append] at h9; unfold pre; rw [List.replicate_zero, List.append_nil, List.map_append]; exact h9)
  clear HR
  have H2 := Lib.hid H; have HA2 := Lib.hid HA; clear H HA
  go_wp2_with fail
  go_loopw [3] (fun v wr => ∃ (j : Nat), j ≤ Z ∧ Hid (RowG 5 w.heap.size v ((pre l j).map w8) wr) ∧ Hid (Apt v []) ∧ Hid (Ow w wr [])) (fun v _ => k + 66 - lenV v)
  case atStart => exact ⟨0, Nat.zero_le _, h0, HA2, H2⟩
  case round =>
    clear H2 h0 HA2; obtain ⟨j, hj, HR, HA, HH⟩ := hrel; have H := HH.out; replace HA := HA.out; clear HH
    obtain ⟨N, hN⟩ : ∃ z, k + 1 + j = z := ⟨_, rfl⟩
    have hXl : ((pre l j).map w8).length = N := by rw [List.length_map, pre_length, hl, hN]
    obtain ⟨q, cq, hu3, hcq, hqn, _⟩ := HR.out.src
    rw [hXl] at hu3 hcq
    have hlv := lenV_row HR.out; rw [hXl] at hlv
    subst hu3
    obtain ⟨e0, he0⟩ : ∃ z, N % 64 = z := ⟨_, rfl⟩
    by_cases hje : j = Z
    · have HC : (!decide ((e0 : Int) = 56)) = false := by rw [decide_eq_true (show (e0 : Int) = 56 by omega)]; rfl
      subst hje
      go_upto_region 2 with fail
      refine Kr.seqStartW ?_
      (refine Kr.seqQ (v := ?_) (a' := ?_) (by rfl) ?_ ?_ ?_; rotate_left 2; (focus (go_simp; first | done | rfl)); (focus ((try simp only [Kr.PT]); first | done | rfl)))
      (refine Kr.seqQ (v := .int .i64 (N : Int)) (a' := ?_) (by rfl) ?_ ?_ ?_; rotate_left 1; (focus (exact Kr.valOf rfl ((by go_simp)))); (focus ((try simp only [Kr.PT]); first | done | rfl)))
      (refine Kr.seqQ (v := .int .i64 (e0 : Int)) (a' := ?_) (by rfl) ?_ ?_ ?_; rotate_left 1; (focus (exact Kr.valOf rfl (remI (d := 64) (by decide) he0 (by decide)))); (focus ((try simp only [Kr.PT]); first | done | rfl)))
      (refine Kr.seqQ (v := .bool false) (a' := ?_) (by rfl) ?_ ?_ ?_; rotate_left 1; (focus (exact Kr.valOf rfl (neqI HC))); (focus ((try simp only [Kr.PT]); first | done | rfl)))
      refine Kr.seqDoneW ?_
      have hm8 : IntKind.i64.wrap ((8 : Int) * (k : Int)) = (k8 : Int) := wrap_nat (by omega) (by omega)
      go_upto_region 4 with fail
      refine Kr.seqStartW ?_
      (refine Kr.seqQ (v := ?_) (a' := ?_) (by rfl) ?_ ?_ ?_; rotate_left 2; (focus (go_simp; first | done | rfl)); (focus ((try simp only [Kr.PT]); first | done | rfl)))
      (refine Kr.seqQ (v := ?_) (a' := ?_) (by rfl) ?_ ?_ ?_; rotate_left 2; (focus (go_simp; first | done | rfl)); (focus ((try simp only [Kr.PT]); first | done | rfl)))
      (refine Kr.seqQ (v := .int .i64 (k : Int)) (a' := ?_) (by rfl) ?_ ?_ ?_; rotate_left 1; (focus (exact Kr.valOf rfl ((by go_simp)))); (focus ((try simp only [Kr.PT]); first | done | rfl)))
      (refine Kr.seqQ (v := .int .i64 (k8 : Int)) (a' := ?_) (by rfl) ?_ ?_ ?_; rotate_left 1; (focus (exact Kr.valOf rfl (mulI hm8))); (focus ((try simp only [Kr.PT]); first | done | rfl)))
      refine Kr.seqR (by rfl) (fun K hK => ?_)
      go_simp
      go_at_call 56
      refine (rBytes_v (n := k8)).mono ?_
      rintro e y5 ⟨p2, c2, rfl, hc2, hsr2, hg⟩
      replace H := H.grow hg
      replace HR := Lib.hid (HR.out.grow hg)
      have HS2 := Lib.hid hsr2; clear hsr2 hg
      (refine Kr.outS hK (a' := ?_) ?_ ?_; rotate_left; (focus ((try simp only [Kr.PT]); first | done | rfl))); clear hK K
      refine Kr.seqR (by rfl) (fun K hK => ?_)
      have hp2 : p2 = none → c2 = 0 := src_ne HS2.out (by rw [be8_length]; decide)
      refine wp_appG (T := 5) (TS := 46) Tryd.underlying46 info8 rfl (.tmp 16) (.tmp 20) rfl (v := (.slice q N cq)) (r := ((pre l j).map w8)) (d := ((be8 k8).map w8)) (p := p2) (m := 8) (c := c2) (rs := []) rfl rfl (by rw [List.length_map, be8_length]) (HS2.out.srcG) (oneCell_bytes _) (hp2) H HR.out HA (by rw [hXl]; omega) (by decide) ?_
      intro v3 y6 H3 hR3 hA3
      clear H HR HA ; have H := H3; have HR := Lib.hid hR3; have HA := hA3; clear H3 hR3 hA3
      (refine Kr.outS hK (a' := ?_) ?_ ?_; rotate_left; (focus ((try simp only [Kr.PT]); first | done | rfl))); clear hK K
      (refine Kr.seqQ (v := ?_) (a' := ?_) (by rfl) ?_ ?_ ?_; rotate_left 2; (focus (go_simp; first | done | rfl)); (focus ((try simp only [Kr.PT]); first | done | rfl)))
      refine Kr.seqDoneW ?_
      rw [← List.map_append, ← hpd] at HR; have hxl : ((pd l).map w8).length = M := by rw [List.length_map, hM]
      obtain ⟨g3, c3, cur3, hv3, hc3, hb3, hh3, ht3⟩ := rowG_own HR.out (by rw [hxl]; omega)
      rw [hxl] at hv3 hc3 ht3; have HH3 := Lib.hid hh3; clear hh3 HR; subst hv3
      have hk := trivial
      go_wp2
      refine bodyPost_ret (v := .slice (some ⟨g3, 0, none⟩) M c3) (by simp [results, Tryd.results44, go_sem, hk]) rfl ⟨g3, c3, cur3, rfl, hc3, hb3, HH3.out, ht3, H.g⟩
    · have hjz : j < Z := by omega
      have hN56 : e0 ≠ 56 := by omega
      have HC : (!decide ((e0 : Int) = 56)) = true := by rw [decide_eq_false (show ¬ (e0 : Int) = 56 by omega)]; rfl
      go_upto_region 2 with fail
      refine Kr.seqStartW ?_
      (refine Kr.seqQ (v := ?_) (a' := ?_) (by rfl) ?_ ?_ ?_; rotate_left 2; (focus (go_simp; first | done | rfl)); (focus ((try simp only [Kr.PT]); first | done | rfl)))
      (refine Kr.seqQ (v := .int .i64 (N : Int)) (a' := ?_) (by rfl) ?_ ?_ ?_; rotate_left 1; (focus (exact Kr.valOf rfl ((by go_simp)))); (focus ((try simp only [Kr.PT]); first | done | rfl)))
      (refine Kr.seqQ (v := .int .i64 (e0 : Int)) (a' := ?_) (by rfl) ?_ ?_ ?_; rotate_left 1; (focus (exact Kr.valOf rfl (remI (d := 64) (by decide) he0 (by decide)))); (focus ((try simp only [Kr.PT]); first | done | rfl)))
      (refine Kr.seqQ (v := .bool true) (a' := ?_) (by rfl) ?_ ?_ ?_; rotate_left 1; (focus (exact Kr.valOf rfl (neqI HC))); (focus ((try simp only [Kr.PT]); first | done | rfl)))
      refine Kr.seqDoneW ?_
      go_upto_region 3 with fail
      refine Kr.seqStartW ?_
      (refine Kr.seqQ (v := ?_) (a' := ?_) (by rfl) ?_ ?_ ?_; rotate_left 2; (focus (go_simp; first | done | rfl)); (focus ((try simp only [Kr.PT]); first | done | rfl)))
      refine Kr.seqR (by rfl) (fun K hK => ?_)
      go_simp
      obtain ⟨y7, hy⟩ : ∃ y, wr.alloc (.cells #[.int .u8 0] 5) = y := ⟨_, rfl⟩
      obtain ⟨bone, hbn⟩ : ∃ b, wr.heap.size = b := ⟨_, rfl⟩
      rw [hy, hbn]
      have hy2 : wr.alloc (.cells ([.int .u8 0] : List Value).toArray 5) = y7 := hy
      have hg : Gr wr y7 := hy ▸ (Gr.refl _).alloc _
      have HLIT := Lib.hid (hbn ▸ hy2 ▸ lit_src (W := wr) (T := 5) [.int .u8 0]); clear hy2
      replace H := H.grow hg
      replace HR := Lib.hid (HR.out.grow hg)
      clear hg hy hbn
      (refine Kr.outS hK (a' := ?_) ?_ ?_; rotate_left; (focus ((try simp only [Kr.PT]); first | done | rfl))); clear hK K
      refine Kr.seqR (by rfl) (fun K hK => ?_)
      refine wp_appG (T := 5) (TS := 46) Tryd.underlying46 info8 rfl (.tmp 13) (.tmp 14) rfl (v := (.slice q N cq)) (r := ((pre l j).map w8)) (d := [w8 0#8]) (p := (some ⟨bone, 0, none⟩)) (m := 1) (c := 1) (rs := []) rfl rfl (rfl) (HLIT.out) (one_lit8 [0#8]) (fun e => by cases e) H HR.out HA (by rw [hXl]; omega) (by decide) ?_
      intro v4 y8 H3 hR3 hA3
      clear H HR HA HLIT; have H := H3; have HR := Lib.hid hR3; have HA := hA3; clear H3 hR3 hA3
      (refine Kr.outS hK (a' := ?_) ?_ ?_; rotate_left; (focus ((try simp only [Kr.PT]); first | done | rfl))); clear hK K
      (refine Kr.seqQ (v := ?_) (a' := ?_) (by rfl) ?_ ?_ ?_; rotate_left 2; (focus (go_simp; first | done | rfl)); (focus ((try simp only [Kr.PT]); first | done | rfl)))
      refine Kr.seqDoneW ?_
      rw [show (pre l j).map w8 ++ [w8 0#8] = (pre l (j + 1)).map w8 by rw [pre_succ, List.map_append]; rfl] at HR
      have hlv4 := lenV_row HR.out; rw [List.length_map, pre_length, hl] at hlv4
      go_wp2; go_roundw
      case rel => exact ⟨j + 1, by omega, HR, Lib.hid HA, Lib.hid H⟩
      case measure => rw [hlv4]; simp only [lenV]; omega
end Go.Proofs.YtldgjhmefaapeaaDoor.Dg


/- Words. -/
namespace Go.Proofs.YtldgjhmefaapeaaDoor.Dg
open Go Go.RowKit Go.Proofs.YtldgjhmefaapeaaDoor.Ne Go.Proofs.YtldgjhmefaapeaaDoor.Kr

theorem mulW {w : World} {x : BitVec 32} : (binOp .mul 38 (.int .u32 (x.toNat : Int)) (.int .u32 256)).run Tryd.prog w = .ok (.int .u32 ((x * 256#32).toNat : Int)) w := by
  have e : IntKind.u32.wrap ((x.toNat : Int) * 256) = ((x * 256#32).toNat : Int) := by
    rw [IntKind.wrap_u32', BitVec.toNat_mul]; simp
  generalize (x * 256#32).toNat = z at *
  go_simp
  first | done | exact e
/-- The first k bytes of the word with the index i. -/
def pw4 (l : List (BitVec 8)) (i : Nat) : Nat → BitVec 32
  | 0 => 0#32
  | k + 1 => pw4 l i k * 256#32 + (l.getD (4 * i + k) 0).setWidth 32
theorem pw4_word (l : List (BitVec 8)) (i : Nat) : pw4 l i 4 = wordOf l i := by
  apply BitVec.eq_of_toNat_eq
  rw [wordOf, W4_toNat]
  have e8 (x : BitVec 8) : (x.setWidth 32).toNat = x.toNat := by rw [BitVec.toNat_setWidth]; exact Nat.mod_eq_of_lt (Nat.lt_of_lt_of_le x.isLt (by decide))
  have h0 := (l.getD (4 * i) 0).isLt
  have h1 := (l.getD (4 * i + 1) 0).isLt
  have h2 := (l.getD (4 * i + 2) 0).isLt
  have h3 := (l.getD (4 * i + 3) 0).isLt
  simp only [pw4, BitVec.toNat_add, BitVec.toNat_mul, e8, Nat.add_zero]
  simp only [show (256#32 : BitVec 32).toNat = 256 from rfl, show (0#32 : BitVec 32).toNat = 0 from rfl]
  omega
theorem ixW {w : World} {b off n c j : Nat} (h : j < n) : (Instr.indexAt 78 (.slice (some ⟨b, off, none⟩) n c) (.int .i64 (j : Int))).run Tryd.prog w = .ok (.pointer (some ⟨b, off + j, none⟩)) w := by
  have h1 : (0 : Int) ≤ (j : Int) := by omega
  have h2 : (j : Int) < (n : Int) := by omega
  go_simp
theorem srcG_get {b off j : Nat} {xs : List Value} {u : Value} {W : World} (h : SrcG (some ⟨b, off, none⟩) xs W) (hu : xs[j]? = some u) : W.cell? ⟨b, off + j, none⟩ = some u := by
  rcases h with h | ⟨b2, o2, e, h⟩
  · rw [h] at hu; simp at hu
  · cases e; exact h j u hu
theorem srcG_some {p : Option Addr} {xs : List Value} {W : World} (h : SrcG p xs W) (hl : 0 < xs.length) : ∃ b off, p = some ⟨b, off, none⟩ := by
  rcases h with h | ⟨b, off, e, _⟩
  · rw [h] at hl; cases hl
  · exact ⟨b, off, e⟩
theorem one_litw (xs : List (BitVec 32)) : ∀ u ∈ xs.map w32, u.oneCell' = true := oneCell_words xs
theorem w_get {l : List (BitVec 32)} {i : Nat} {x : BitVec 32} (h : i < l.length) (hx : l.getD i 0 = x) : (l.map w32)[i]? = some (.int .u32 (x.toNat : Int)) := by
  rw [List.getElem?_map, getD_of (d := 0) h, hx]; rfl

end Go.Proofs.YtldgjhmefaapeaaDoor.Dg
