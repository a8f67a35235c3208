/- A part of the proofs, joined of smaller texts: Dc, Dd, De, Df, Dg, Dh, Di, Dj, Dk, Dl, Dm, Dp, Nlaw, Dn, Do. -/
import Derived.Test.YtilbojcghladjaaDoorPd1
import Derived.Deep.Cut
import Derived.Laws.Rows
import Derived.Laws.MakeOwn
import Derived.Laws.CopyRow
import Derived.Laws.CopyOwn
import Derived.Deep.AppendLies
import Derived.Laws.IdiomStrings
import Derived.Ground.NamesProg
import Derived.Shelf.Lay
import Derived.Shelf.Strings.Prefix
import Derived.Lib.Agree
import Derived.Lib.SlBytesConst
import Derived.Test.YtilbojcghladjaaDoorRows
import Derived.ProofKit
import Derived.LaidMore
import Derived.OpenShut
import Derived.Stop.Joined
import Derived.WalkKit
import Derived.OpenVars
import Derived.ChangeSlices

/- The parts of SHA-256 as functions; words of bytes. -/
namespace Go.Proofs.YtilbojcghladjaaDoor.Dg
open Go Go.RowKit Go.Proofs.YtilbojcghladjaaDoor.Ne Go.Proofs.YtilbojcghladjaaDoor.Kr

/-- A word, a byte as a value. -/
def w32 (x : BitVec 32) : Value := .int .u32 (x.toNat : Int)
def w8 (x : BitVec 8) : Value := .int .u8 (x.toNat : Int)
/-- These bytes lie from off on in block b. -/
def BytesAt (b off : Nat) (l : List (BitVec 8)) (W : World) : Prop := ∀ j x, l[j]? = some x → W.cell? ⟨b, off + j, none⟩ = some (w8 x)
theorem BytesAt.grow {b off : Nat} {l : List (BitVec 8)} {W W' : World} (h : BytesAt b off l W) (g : Gr W W') : BytesAt b off l W' := fun j x e => g.cell (h j x e)
/-- A word of four bytes. -/
def W4 (a b c d : BitVec 8) : BitVec 32 := (((a.setWidth 32 <<< 24) ||| (b.setWidth 32 <<< 16)) ||| (c.setWidth 32 <<< 8)) ||| d.setWidth 32
/-- The word with the index i of bytes. -/
def wordOf (l : List (BitVec 8)) (i : Nat) : BitVec 32 := W4 (l.getD (4 * i) 0) (l.getD (4 * i + 1) 0) (l.getD (4 * i + 2) 0) (l.getD (4 * i + 3) 0)
theorem ixB {w : World} {b off n c j : Nat} (h : j < n) : (Instr.indexAt 22 (.slice (some ⟨b, off, none⟩) n c) (.int .i64 (j : Int))).run Tryd.prog w = .ok (.pointer (some ⟨b, off + j, none⟩)) w := by
  have h1 : (0 : Int) ≤ (j : Int) := by omega
  have h2 : (j : Int) < (n : Int) := by omega
  go_simp
theorem getD_of {α : Type} {l : List α} {j : Nat} {d : α} (h : j < l.length) : l[j]? = some (l.getD j d) := by
  rw [List.getD_eq_getElem?_getD, List.getElem?_eq_getElem h]; rfl
/-- The schedule: its first t words. -/
def nxt (l : List (BitVec 32)) (t : Nat) : BitVec 32 :=
  ((l.getD (t - 16) 0 + (rr (l.getD (t - 15) 0) 7 ^^^ rr (l.getD (t - 15) 0) 18 ^^^ (l.getD (t - 15) 0) >>> 3)) + l.getD (t - 7) 0) + (rr (l.getD (t - 2) 0) 17 ^^^ rr (l.getD (t - 2) 0) 19 ^^^ (l.getD (t - 2) 0) >>> 10)
def sch (m : Nat → BitVec 32) : Nat → List (BitVec 32)
  | 0 => []
  | t + 1 => sch m t ++ [if t < 16 then m t else nxt (sch m t) t]
theorem sch_length (m : Nat → BitVec 32) : ∀ t, (sch m t).length = t
  | 0 => rfl
  | t + 1 => by rw [sch, List.length_append, sch_length m t]; rfl
/-- Words in an array of 64 that is not full. -/
def pad64 (l : List (BitVec 32)) : List Value := l.map w32 ++ List.replicate (64 - l.length) (.int .u32 0)
theorem pad64_nil : pad64 [] = List.replicate 64 (.int .u32 0) := rfl
theorem pad64_length {l : List (BitVec 32)} (h : l.length ≤ 64) : (pad64 l).length = 64 := by
  unfold pad64; rw [List.length_append, List.length_map, List.length_replicate]; omega
theorem pad64_full {l : List (BitVec 32)} (h : l.length = 64) : pad64 l = l.map w32 := by
  unfold pad64; rw [h]; simp
theorem pad64_get {l : List (BitVec 32)} {j : Nat} (h : j < l.length) : (pad64 l)[j]? = some (w32 (l.getD j 0)) := by
  unfold pad64
  rw [List.getElem?_append_left (by rw [List.length_map]; exact h), List.getElem?_map, getD_of (d := 0) h]; rfl
theorem pad64_any {l : List (BitVec 32)} {j : Nat} (hl : l.length ≤ 64) (h : j < 64) : ∃ v, (pad64 l)[j]? = some v := ⟨_, List.getElem?_eq_getElem (by rw [pad64_length hl]; exact h)⟩
theorem pad64_set {l : List (BitVec 32)} {t : Nat} (h : l.length = t) (ht : t < 64) (x : BitVec 32) : (pad64 l).set t (.int .u32 (x.toNat : Int)) = pad64 (l ++ [x]) := by
  subst h
  unfold pad64
  rw [List.set_append_right _ _ (by rw [List.length_map]; exact Nat.le_refl _), List.length_map, Nat.sub_self, List.map_append, List.append_assoc, List.length_append]
  congr 1
  obtain ⟨k, hk⟩ : ∃ k, 64 - l.length = k + 1 := ⟨63 - l.length, by omega⟩
  rw [hk, show 64 - (l.length + [x].length) = k by show 64 - (l.length + 1) = k; omega]
  rfl
theorem oneCell_words (l : List (BitVec 32)) : ∀ v ∈ l.map w32, v.oneCell' = true := by
  intro v hv
  obtain ⟨x, _, rfl⟩ := List.mem_map.1 hv
  rfl
/-- The eight words. -/
structure S8 where
  a : BitVec 32
  b : BitVec 32
  c : BitVec 32
  d : BitVec 32
  e : BitVec 32
  f : BitVec 32
  g : BitVec 32
  h : BitVec 32
def S8.list (s : S8) : List (BitVec 32) := [s.a, s.b, s.c, s.d, s.e, s.f, s.g, s.h]
def T1 (s : S8) (k w : BitVec 32) : BitVec 32 := (((s.h + (rr s.e 6 ^^^ rr s.e 11 ^^^ rr s.e 25)) + ((s.e &&& s.f) ^^^ (~~~s.e &&& s.g))) + k) + w
def T2 (s : S8) : BitVec 32 := (rr s.a 2 ^^^ rr s.a 13 ^^^ rr s.a 22) + (((s.a &&& s.b) ^^^ (s.a &&& s.c)) ^^^ (s.b &&& s.c))
def rnd (s : S8) (k w : BitVec 32) : S8 := ⟨T1 s k w + T2 s, s.a, s.b, s.c, s.d + T1 s k w, s.e, s.f, s.g⟩
/-- The constants. -/
def kc : List (BitVec 32) := [0x428a2f98, 0x71374491, 0xb5c0fbcf, 0xe9b5dba5, 0x3956c25b, 0x59f111f1, 0x923f82a4, 0xab1c5ed5, 0xd807aa98, 0x12835b01, 0x243185be, 0x550c7dc3, 0x72be5d74, 0x80deb1fe, 0x9bdc06a7, 0xc19bf174, 0xe49b69c1, 0xefbe4786, 0x0fc19dc6, 0x240ca1cc, 0x2de92c6f, 0x4a7484aa, 0x5cb0a9dc, 0x76f988da, 0x983e5152, 0xa831c66d, 0xb00327c8, 0xbf597fc7, 0xc6e00bf3, 0xd5a79147, 0x06ca6351, 0x14292967, 0x27b70a85, 0x2e1b2138, 0x4d2c6dfc, 0x53380d13, 0x650a7354, 0x766a0abb, 0x81c2c92e, 0x92722c85, 0xa2bfe8a1, 0xa81a664b, 0xc24b8b70, 0xc76c51a3, 0xd192e819, 0xd6990624, 0xf40e3585, 0x106aa070, 0x19a4c116, 0x1e376c08, 0x2748774c, 0x34b0bcb5, 0x391c0cb3, 0x4ed8aa4a, 0x5b9cca4f, 0x682e6ff3, 0x748f82ee, 0x78a5636f, 0x84c87814, 0x8cc70208, 0x90befffa, 0xa4506ceb, 0xbef9a3f7, 0xc67178f2]
def rnds (ws : List (BitVec 32)) : Nat → S8 → S8
  | 0, s => s
  | t + 1, s => rnd (rnds ws t s) (kc.getD t 0) (ws.getD t 0)
def S8.add (s t : S8) : S8 := ⟨s.a + t.a, s.b + t.b, s.c + t.c, s.d + t.d, s.e + t.e, s.f + t.f, s.g + t.g, s.h + t.h⟩
/-- A block is taken in. -/
def comp (s : S8) (m : Nat → BitVec 32) : S8 := s.add (rnds (sch m 64) 64 s)
/-- Sums up to i. -/
def mix (i : Nat) (s t : List (BitVec 32)) : List (BitVec 32) := (List.range 8).map fun j => if j < i then s.getD j 0 + t.getD j 0 else s.getD j 0
theorem mix_length (i : Nat) (s t : List (BitVec 32)) : (mix i s t).length = 8 := by simp [mix]
theorem mix_zero (s : S8) (t : List (BitVec 32)) : mix 0 s.list t = s.list := rfl
theorem mix_full (s t : S8) : mix 8 s.list t.list = (s.add t).list := rfl
theorem mix_get {i : Nat} {s t : List (BitVec 32)} (h : i < 8) : (mix i s t)[i]? = some (s.getD i 0) := by
  simp [mix, h]
theorem mix_set {i : Nat} {s t : List (BitVec 32)} (h : i < 8) : (mix i s t).set i (s.getD i 0 + t.getD i 0) = mix (i + 1) s t := by
  apply List.ext_getElem?
  intro j
  rw [List.getElem?_set, mix_length]
  by_cases hj : i = j
  · subst hj
    simp [mix, h]
  · rw [if_neg hj]
    by_cases h8 : j < 8
    · simp [mix, h8, show (j < i) = (j < i + 1) from propext (by omega)]
    · rw [List.getElem?_eq_none (by rw [mix_length]; omega), List.getElem?_eq_none (by rw [mix_length]; omega)]
theorem map_set32 (l : List (BitVec 32)) (i : Nat) (x : BitVec 32) : (l.map w32).set i (.int .u32 (x.toNat : Int)) = (l.set i x).map w32 := by
  rw [List.map_set]; rfl
theorem map_get32 {l : List (BitVec 32)} {i : Nat} {x : BitVec 32} (h : l[i]? = some x) : (l.map w32)[i]? = some (.int .u32 (x.toNat : Int)) := by
  rw [List.getElem?_map, h]; rfl
theorem boxA8 {w : World} {l : List Value} : (Instr.box 60 (.agg l.toArray)).run Tryd.prog w = .ok (.pointer (some ⟨w.heap.size, 0, none⟩)) (w.alloc (.cells l.toArray 60)) := by
  go_simp
/-- The constants lie in their variable; so do the first eight words. -/
def Con (w : World) : Prop := ∃ t fr, w.heap[1]? = some (.cells (kc.map w32).toArray t fr)
def s0 : S8 := ⟨0x6a09e667, 0xbb67ae85, 0x3c6ef372, 0xa54ff53a, 0x510e527f, 0x9b05688c, 0x1f83d9ab, 0x5be0cd19⟩
def Sta0 (w : World) : Prop := ∃ t fr, w.heap[0]? = some (.cells (s0.list.map w32).toArray t fr)
theorem Con.grow {w W : World} (h : Con w) (g : Gr w W) : Con W := by
  obtain ⟨t, fr, h⟩ := h
  exact ⟨t, fr, (g.block _ (lt_of_heap h)).trans h⟩
theorem Sta0.grow {w W : World} (h : Sta0 w) (g : Gr w W) : Sta0 W := by
  obtain ⟨t, fr, h⟩ := h
  exact ⟨t, fr, (g.block _ (lt_of_heap h)).trans h⟩
theorem loadCon {w : World} (h : Con w) : (Instr.loadAt 78 (.pointer (some ⟨1, 0, none⟩))).run Tryd.prog w = .ok (.agg (kc.map w32).toArray) w := by
  obtain ⟨t, fr, h⟩ := h
  simp only [Instr.loadAt, Instr.sureAddr, Sem.run_bind, Sem.run_pure, Result.andThen_ok, run_loadVar_row w 1 t 78 (kc.map w32).toArray fr _ h Tryd.underlying78 rfl (by kernel_rfl)]
theorem loadSta {w : World} (h : Sta0 w) : (Instr.loadAt 60 (.pointer (some ⟨0, 0, none⟩))).run Tryd.prog w = .ok (.agg (s0.list.map w32).toArray) w := by
  obtain ⟨t, fr, h⟩ := h
  simp only [Instr.loadAt, Instr.sureAddr, Sem.run_bind, Sem.run_pure, Result.andThen_ok, run_loadVar_row w 0 t 60 (s0.list.map w32).toArray fr _ h Tryd.underlying60 rfl (by kernel_rfl)]
theorem buildA8 {w : World} (s : S8) : (Instr.build 60 #[(0, .int .u32 (s.a.toNat : Int)), (1, .int .u32 (s.b.toNat : Int)), (2, .int .u32 (s.c.toNat : Int)), (3, .int .u32 (s.d.toNat : Int)), (4, .int .u32 (s.e.toNat : Int)), (5, .int .u32 (s.f.toNat : Int)), (6, .int .u32 (s.g.toNat : Int)), (7, .int .u32 (s.h.toNat : Int))]).run Tryd.prog w = .ok (.agg (s.list.map w32).toArray) w := by
  go_simp
  first | done | rfl
end Go.Proofs.YtilbojcghladjaaDoor.Dg


/- wordAt. -/
namespace Go.Proofs.YtilbojcghladjaaDoor.Dg
open Go Go.RowKit Go.Proofs.YtilbojcghladjaaDoor.Ne Go.Proofs.YtilbojcghladjaaDoor.Kr

set_option linter.unusedSimpArgs false in
set_option maxRecDepth 100000 in
set_option maxHeartbeats 16000000 in
theorem wordAt_v {b off n c i : Nat} {l : List (BitVec 8)} {w : World} (hB : BytesAt b off l w) (hn : l.length ≤ n) (hi : 4 * i + 3 < l.length) (hs : n < 9223372036854775808) :
    Calls Tryd.prog 43 #[.slice (some ⟨b, off, none⟩) n c, .int .i64 (i : Int)] w fun e w' => e = .returned (.int .u32 ((wordOf l i).toNat : Int)) ∧ Gr w w' := by
  obtain ⟨j0, hj0⟩ : ∃ j, 4 * i = j := ⟨_, rfl⟩
  have hl0 : j0 < l.length := by omega
  obtain ⟨x0, hx0⟩ : ∃ x, l.getD j0 0 = x := ⟨_, rfl⟩
  have hg0 : l[j0]? = some x0 := hx0 ▸ getD_of hl0
  obtain ⟨j1, hj1⟩ : ∃ j, 4 * i + 1 = j := ⟨_, rfl⟩
  have hl1 : j1 < l.length := by omega
  obtain ⟨x1, hx1⟩ : ∃ x, l.getD j1 0 = x := ⟨_, rfl⟩
  have hg1 : l[j1]? = some x1 := hx1 ▸ getD_of hl1
  obtain ⟨j2, hj2⟩ : ∃ j, 4 * i + 2 = j := ⟨_, rfl⟩
  have hl2 : j2 < l.length := by omega
  obtain ⟨x2, hx2⟩ : ∃ x, l.getD j2 0 = x := ⟨_, rfl⟩
  have hg2 : l[j2]? = some x2 := hx2 ▸ getD_of hl2
  obtain ⟨j3, hj3⟩ : ∃ j, 4 * i + 3 = j := ⟨_, rfl⟩
  have hl3 : j3 < l.length := by omega
  obtain ⟨x3, hx3⟩ : ∃ x, l.getD j3 0 = x := ⟨_, rfl⟩
  have hg3 : l[j3]? = some x3 := hx3 ▸ getD_of hl3
  have hW : wordOf l i = W4 x0 x1 x2 x3 := by unfold wordOf; rw [hj3, hj2, hj1, hj0, hx0, hx1, hx2, hx3]
  rw [hW]
  have h4 : IntKind.i64.wrap ((4 : Int) * (i : Int)) = (j0 : Int) := wrap_nat (by omega) (by omega)
  have ha1 : IntKind.i64.wrap ((j0 : Int) + 1) = (j1 : Int) := wrap_nat (by omega) (by omega)
  have ha2 : IntKind.i64.wrap ((j0 : Int) + 2) = (j2 : Int) := wrap_nat (by omega) (by omega)
  have ha3 : IntKind.i64.wrap ((j0 : Int) + 3) = (j3 : Int) := wrap_nat (by omega) (by omega)
  have HB := Lib.hid hB; clear hB hW
  have H := Ow.start w
  go_enter Tryd.func43, Tryd.ntmps43
  go_upto_region 0 with fail
  refine Kr.seqStartW ?_
  (refine Kr.seqQ (v := ?_) (a' := ?_) (by rfl) ?_ ?_ ?_; rotate_left 2; (focus (go_simp; first | done | rfl)); (focus ((try simp only [Kr.PT]); first | done | rfl)))
  refine Kr.seqDoneW ?_
  go_upto_region 1 with fail
  refine Kr.startL (fun W' => (BytesAt b off l W') ∧ True) [] (by kernel_rfl) ?_
  have gd : Gr w w.drew := (Gr.refl _).drew
  generalize w.drew = d1 at gd ⊢
  replace H := H.grow gd
  clear gd
  (refine Kr.tPQ 0 (v := ?_) (a' := ?_) rfl (by kernel_rfl) (fun _ _ _ h => h) (by rfl) (fun _ => ⟨HB.out.grow H.g, trivial⟩) (fun wx => ?_) ?_ ?_; rotate_left 2; (focus (go_simp; first | done | rfl)); (focus ((try simp only [Kr.PT]); first | done | rfl)))
  (refine Kr.tPQ 1 (v := ?_) (a' := ?_) rfl (by kernel_rfl) (fun _ _ _ h => h) (by rfl) (fun _ => ⟨HB.out.grow H.g, trivial⟩) (fun wx => ?_) ?_ ?_; rotate_left 2; (focus (go_simp; first | done | rfl)); (focus ((try simp only [Kr.PT]); first | done | rfl)))
  (refine Kr.tPQ 2 (v := .int .i64 (j0 : Int)) (a' := ?_) rfl (by kernel_rfl) (fun _ _ _ h => h) (by rfl) (fun _ => ⟨HB.out.grow H.g, trivial⟩) (fun wx => ?_) ?_ ?_; rotate_left 1; (focus (exact Kr.valOf rfl (mulI h4))); (focus ((try simp only [Kr.PT]); first | done | rfl)))
  (refine Kr.tPQ 3 (v := .pointer (some ⟨b, off + j0, none⟩)) (a' := ?_) rfl (by kernel_rfl) (fun _ _ _ h => h) (by rfl) (fun _ => ⟨HB.out.grow H.g, trivial⟩) (fun wx => ?_) ?_ ?_; rotate_left 1; (focus (exact Kr.valOf rfl (ixB (by omega)))); (focus ((try simp only [Kr.PT]); first | done | rfl)))
  (refine Kr.tSQ 4 [] (v := .int .u8 ((x0).toNat : Int)) (a' := ?_) rfl (by kernel_rfl) (fun _ _ _ h => h) (by rfl) ⟨HB.out.grow H.g, trivial⟩ (fun wx hSx => ?_) ?_ ?_; rotate_left 1; (focus (exact Kr.valOf rfl (ldE8 (hSx.1 j0 x0 hg0)))); (focus ((try simp only [Kr.PT]); first | done | rfl)))
  (refine Kr.tPQ 5 (v := .int .u32 ((x0.setWidth 32).toNat : Int)) (a' := ?_) rfl (by kernel_rfl) (fun _ _ _ h => h) (by rfl) (fun _ => ⟨HB.out.grow H.g, trivial⟩) (fun wx => ?_) ?_ ?_; rotate_left 1; (focus (exact Kr.valOf rfl (conv8W))); (focus ((try simp only [Kr.PT]); first | done | rfl)))
  (refine Kr.tPQ 6 (v := .int .u32 ((x0.setWidth 32 <<< 24).toNat : Int)) (a' := ?_) rfl (by kernel_rfl) (fun _ _ _ h => h) (by rfl) (fun _ => ⟨HB.out.grow H.g, trivial⟩) (fun wx => ?_) ?_ ?_; rotate_left 1; (focus (exact Kr.valOf rfl (shl24W))); (focus ((try simp only [Kr.PT]); first | done | rfl)))
  (refine Kr.tPQ 7 (v := ?_) (a' := ?_) rfl (by kernel_rfl) (fun _ _ _ h => h) (by rfl) (fun _ => ⟨HB.out.grow H.g, trivial⟩) (fun wx => ?_) ?_ ?_; rotate_left 2; (focus (go_simp; first | done | rfl)); (focus ((try simp only [Kr.PT]); first | done | rfl)))
  (refine Kr.tPQ 8 (v := ?_) (a' := ?_) rfl (by kernel_rfl) (fun _ _ _ h => h) (by rfl) (fun _ => ⟨HB.out.grow H.g, trivial⟩) (fun wx => ?_) ?_ ?_; rotate_left 2; (focus (go_simp; first | done | rfl)); (focus ((try simp only [Kr.PT]); first | done | rfl)))
  (refine Kr.tPQ 9 (v := .int .i64 (j0 : Int)) (a' := ?_) rfl (by kernel_rfl) (fun _ _ _ h => h) (by rfl) (fun _ => ⟨HB.out.grow H.g, trivial⟩) (fun wx => ?_) ?_ ?_; rotate_left 1; (focus (exact Kr.valOf rfl (mulI h4))); (focus ((try simp only [Kr.PT]); first | done | rfl)))
  (refine Kr.tPQ 10 (v := .int .i64 (j1 : Int)) (a' := ?_) rfl (by kernel_rfl) (fun _ _ _ h => h) (by rfl) (fun _ => ⟨HB.out.grow H.g, trivial⟩) (fun wx => ?_) ?_ ?_; rotate_left 1; (focus (exact Kr.valOf rfl (addI ha1))); (focus ((try simp only [Kr.PT]); first | done | rfl)))
  (refine Kr.tPQ 11 (v := .pointer (some ⟨b, off + j1, none⟩)) (a' := ?_) rfl (by kernel_rfl) (fun _ _ _ h => h) (by rfl) (fun _ => ⟨HB.out.grow H.g, trivial⟩) (fun wx => ?_) ?_ ?_; rotate_left 1; (focus (exact Kr.valOf rfl (ixB (by omega)))); (focus ((try simp only [Kr.PT]); first | done | rfl)))
  (refine Kr.tSQ 12 [] (v := .int .u8 ((x1).toNat : Int)) (a' := ?_) rfl (by kernel_rfl) (fun _ _ _ h => h) (by rfl) ⟨HB.out.grow H.g, trivial⟩ (fun wx hSx => ?_) ?_ ?_; rotate_left 1; (focus (exact Kr.valOf rfl (ldE8 (hSx.1 j1 x1 hg1)))); (focus ((try simp only [Kr.PT]); first | done | rfl)))
  (refine Kr.tPQ 13 (v := .int .u32 ((x1.setWidth 32).toNat : Int)) (a' := ?_) rfl (by kernel_rfl) (fun _ _ _ h => h) (by rfl) (fun _ => ⟨HB.out.grow H.g, trivial⟩) (fun wx => ?_) ?_ ?_; rotate_left 1; (focus (exact Kr.valOf rfl (conv8W))); (focus ((try simp only [Kr.PT]); first | done | rfl)))
  (refine Kr.tPQ 14 (v := .int .u32 ((x1.setWidth 32 <<< 16).toNat : Int)) (a' := ?_) rfl (by kernel_rfl) (fun _ _ _ h => h) (by rfl) (fun _ => ⟨HB.out.grow H.g, trivial⟩) (fun wx => ?_) ?_ ?_; rotate_left 1; (focus (exact Kr.valOf rfl (shl16W))); (focus ((try simp only [Kr.PT]); first | done | rfl)))
  (refine Kr.tPQ 15 (v := .int .u32 (((x0.setWidth 32 <<< 24) ||| (x1.setWidth 32 <<< 16)).toNat : Int)) (a' := ?_) rfl (by kernel_rfl) (fun _ _ _ h => h) (by rfl) (fun _ => ⟨HB.out.grow H.g, trivial⟩) (fun wx => ?_) ?_ ?_; rotate_left 1; (focus (exact Kr.valOf rfl (orW))); (focus ((try simp only [Kr.PT]); first | done | rfl)))
  (refine Kr.tPQ 16 (v := ?_) (a' := ?_) rfl (by kernel_rfl) (fun _ _ _ h => h) (by rfl) (fun _ => ⟨HB.out.grow H.g, trivial⟩) (fun wx => ?_) ?_ ?_; rotate_left 2; (focus (go_simp; first | done | rfl)); (focus ((try simp only [Kr.PT]); first | done | rfl)))
  (refine Kr.tPQ 17 (v := ?_) (a' := ?_) rfl (by kernel_rfl) (fun _ _ _ h => h) (by rfl) (fun _ => ⟨HB.out.grow H.g, trivial⟩) (fun wx => ?_) ?_ ?_; rotate_left 2; (focus (go_simp; first | done | rfl)); (focus ((try simp only [Kr.PT]); first | done | rfl)))
  (refine Kr.tPQ 18 (v := .int .i64 (j0 : Int)) (a' := ?_) rfl (by kernel_rfl) (fun _ _ _ h => h) (by rfl) (fun _ => ⟨HB.out.grow H.g, trivial⟩) (fun wx => ?_) ?_ ?_; rotate_left 1; (focus (exact Kr.valOf rfl (mulI h4))); (focus ((try simp only [Kr.PT]); first | done | rfl)))
  (refine Kr.tPQ 19 (v := .int .i64 (j2 : Int)) (a' := ?_) rfl (by kernel_rfl) (fun _ _ _ h => h) (by rfl) (fun _ => ⟨HB.out.grow H.g, trivial⟩) (fun wx => ?_) ?_ ?_; rotate_left 1; (focus (exact Kr.valOf rfl (addI ha2))); (focus ((try simp only [Kr.PT]); first | done | rfl)))
  (refine Kr.tPQ 20 (v := .pointer (some ⟨b, off + j2, none⟩)) (a' := ?_) rfl (by kernel_rfl) (fun _ _ _ h => h) (by rfl) (fun _ => ⟨HB.out.grow H.g, trivial⟩) (fun wx => ?_) ?_ ?_; rotate_left 1; (focus (exact Kr.valOf rfl (ixB (by omega)))); (focus ((try simp only [Kr.PT]); first | done | rfl)))
  (refine Kr.tSQ 21 [] (v := .int .u8 ((x2).toNat : Int)) (a' := ?_) rfl (by kernel_rfl) (fun _ _ _ h => h) (by rfl) ⟨HB.out.grow H.g, trivial⟩ (fun wx hSx => ?_) ?_ ?_; rotate_left 1; (focus (exact Kr.valOf rfl (ldE8 (hSx.1 j2 x2 hg2)))); (focus ((try simp only [Kr.PT]); first | done | rfl)))
  (refine Kr.tPQ 22 (v := .int .u32 ((x2.setWidth 32).toNat : Int)) (a' := ?_) rfl (by kernel_rfl) (fun _ _ _ h => h) (by rfl) (fun _ => ⟨HB.out.grow H.g, trivial⟩) (fun wx => ?_) ?_ ?_; rotate_left 1; (focus (exact Kr.valOf rfl (conv8W))); (focus ((try simp only [Kr.PT]); first | done | rfl)))
  (refine Kr.tPQ 23 (v := .int .u32 ((x2.setWidth 32 <<< 8).toNat : Int)) (a' := ?_) rfl (by kernel_rfl) (fun _ _ _ h => h) (by rfl) (fun _ => ⟨HB.out.grow H.g, trivial⟩) (fun wx => ?_) ?_ ?_; rotate_left 1; (focus (exact Kr.valOf rfl (shl8W))); (focus ((try simp only [Kr.PT]); first | done | rfl)))
  (refine Kr.tPQ 24 (v := .int .u32 ((((x0.setWidth 32 <<< 24) ||| (x1.setWidth 32 <<< 16)) ||| (x2.setWidth 32 <<< 8)).toNat : Int)) (a' := ?_) rfl (by kernel_rfl) (fun _ _ _ h => h) (by rfl) (fun _ => ⟨HB.out.grow H.g, trivial⟩) (fun wx => ?_) ?_ ?_; rotate_left 1; (focus (exact Kr.valOf rfl (orW))); (focus ((try simp only [Kr.PT]); first | done | rfl)))
  (refine Kr.tPQ 25 (v := ?_) (a' := ?_) rfl (by kernel_rfl) (fun _ _ _ h => h) (by rfl) (fun _ => ⟨HB.out.grow H.g, trivial⟩) (fun wx => ?_) ?_ ?_; rotate_left 2; (focus (go_simp; first | done | rfl)); (focus ((try simp only [Kr.PT]); first | done | rfl)))
  (refine Kr.tPQ 26 (v := ?_) (a' := ?_) rfl (by kernel_rfl) (fun _ _ _ h => h) (by rfl) (fun _ => ⟨HB.out.grow H.g, trivial⟩) (fun wx => ?_) ?_ ?_; rotate_left 2; (focus (go_simp; first | done | rfl)); (focus ((try simp only [Kr.PT]); first | done | rfl)))
  (refine Kr.tPQ 27 (v := .int .i64 (j0 : Int)) (a' := ?_) rfl (by kernel_rfl) (fun _ _ _ h => h) (by rfl) (fun _ => ⟨HB.out.grow H.g, trivial⟩) (fun wx => ?_) ?_ ?_; rotate_left 1; (focus (exact Kr.valOf rfl (mulI h4))); (focus ((try simp only [Kr.PT]); first | done | rfl)))
  (refine Kr.tPQ 28 (v := .int .i64 (j3 : Int)) (a' := ?_) rfl (by kernel_rfl) (fun _ _ _ h => h) (by rfl) (fun _ => ⟨HB.out.grow H.g, trivial⟩) (fun wx => ?_) ?_ ?_; rotate_left 1; (focus (exact Kr.valOf rfl (addI ha3))); (focus ((try simp only [Kr.PT]); first | done | rfl)))
  (refine Kr.tPQ 29 (v := .pointer (some ⟨b, off + j3, none⟩)) (a' := ?_) rfl (by kernel_rfl) (fun _ _ _ h => h) (by rfl) (fun _ => ⟨HB.out.grow H.g, trivial⟩) (fun wx => ?_) ?_ ?_; rotate_left 1; (focus (exact Kr.valOf rfl (ixB (by omega)))); (focus ((try simp only [Kr.PT]); first | done | rfl)))
  (refine Kr.tSQ 30 [] (v := .int .u8 ((x3).toNat : Int)) (a' := ?_) rfl (by kernel_rfl) (fun _ _ _ h => h) (by rfl) ⟨HB.out.grow H.g, trivial⟩ (fun wx hSx => ?_) ?_ ?_; rotate_left 1; (focus (exact Kr.valOf rfl (ldE8 (hSx.1 j3 x3 hg3)))); (focus ((try simp only [Kr.PT]); first | done | rfl)))
  (refine Kr.tPQ 31 (v := .int .u32 ((x3.setWidth 32).toNat : Int)) (a' := ?_) rfl (by kernel_rfl) (fun _ _ _ h => h) (by rfl) (fun _ => ⟨HB.out.grow H.g, trivial⟩) (fun wx => ?_) ?_ ?_; rotate_left 1; (focus (exact Kr.valOf rfl (conv8W))); (focus ((try simp only [Kr.PT]); first | done | rfl)))
  (refine Kr.tPQ 32 (v := .int .u32 ((W4 x0 x1 x2 x3).toNat : Int)) (a' := ?_) rfl (by kernel_rfl) (fun _ _ _ h => h) (by rfl) (fun _ => ⟨HB.out.grow H.g, trivial⟩) (fun wx => ?_) ?_ ?_; rotate_left 1; (focus (exact Kr.valOf rfl (orW))); (focus ((try simp only [Kr.PT]); first | done | rfl)))
  (refine Kr.tPQ 33 (v := ?_) (a' := ?_) rfl (by kernel_rfl) (fun _ _ _ h => h) (by rfl) (fun _ => ⟨HB.out.grow H.g, trivial⟩) (fun wx => ?_) ?_ ?_; rotate_left 2; (focus (go_simp; first | done | rfl)); (focus ((try simp only [Kr.PT]); first | done | rfl)))
  refine Kr.doneL (by kernel_rfl) ?_ _
  have hk := trivial
  go_wp2
  refine bodyPost_ret (v := .int .u32 ((W4 x0 x1 x2 x3).toNat : Int)) (by simp [results, Tryd.results43, go_sem, hk]) rfl ⟨rfl, H.g⟩
end Go.Proofs.YtilbojcghladjaaDoor.Dg


/- schedule. -/
namespace Go.Proofs.YtilbojcghladjaaDoor.Dg
open Go Go.RowKit Go.Proofs.YtilbojcghladjaaDoor.Ne Go.Proofs.YtilbojcghladjaaDoor.Kr

theorem rowCell {w : World} {b j : Nat} {T : TypeId} {l : List Value} {v : Value} {fr : Nat × Nat} (h : w.heap[b]? = some (.cells l.toArray T fr)) (hv : l[j]? = some v) : w.cell? ⟨b, j, none⟩ = some v := by
  rw [cell_of_row w b j _ _ _ h]; simpa using hv
set_option linter.unusedSimpArgs false in
set_option maxRecDepth 100000 in
set_option maxHeartbeats 16000000 in
theorem schedule_v {b off n c : Nat} {l : List (BitVec 8)} {w : World} (hB : BytesAt b off l w) (hn : l.length ≤ n) (hl : 64 ≤ l.length) (hs : n < 9223372036854775808) :
    Calls Tryd.prog 53 #[.slice (some ⟨b, off, none⟩) n c] w fun e w' => e = .returned (.agg ((sch (wordOf l) 64).map w32).toArray) ∧ Gr w w' := by
  have HB := Lib.hid hB; clear hB
  obtain ⟨R, hR⟩ : ∃ R, sch (wordOf l) 64 = R := ⟨_, rfl⟩
  rw [hR]; have HR := Lib.hid hR; clear hR
  have H := Ow.start w
  go_enter Tryd.func53, Tryd.ntmps53
  go_upto_region 0 with fail
  refine Kr.seqStartW ?_
  refine Kr.seqR (by rfl) (fun K hK => ?_)
  refine wp_runV rfl newA64 ?_
  obtain ⟨y1, hy⟩ : ∃ y, w.alloc (.cells (List.replicate 64 (Value.int .u32 0)).toArray 78) = y := ⟨_, rfl⟩
  obtain ⟨br, hb⟩ : ∃ b, w.heap.size = b := ⟨_, rfl⟩
  rw [hy, hb]
  have hg : Gr w y1 := hy ▸ (Gr.refl _).alloc _
  replace H := H.alloc hy hb
  clear hy hb hg
  (refine Kr.outS hK (a' := ?_) ?_ ?_; rotate_left; (focus ((try simp only [Kr.PT]); first | done | rfl))); clear hK K
  refine Kr.seqDoneW ?_
  go_upto_region 1 with fail
  refine Kr.seqStartW ?_
  refine Kr.seqR (by rfl) (fun K hK => ?_)
  refine wp_runV rfl newA64 ?_
  obtain ⟨y2, hy⟩ : ∃ y, y1.alloc (.cells (List.replicate 64 (Value.int .u32 0)).toArray 78) = y := ⟨_, rfl⟩
  obtain ⟨bw, hb⟩ : ∃ b, y1.heap.size = b := ⟨_, rfl⟩
  rw [hy, hb]
  have hg : Gr y1 y2 := hy ▸ (Gr.refl _).alloc _
  replace H := H.alloc hy hb
  clear hy hb hg
  (refine Kr.outS hK (a' := ?_) ?_ ?_; rotate_left; (focus ((try simp only [Kr.PT]); first | done | rfl))); clear hK K
  refine Kr.seqDoneW ?_
  go_upto_region 2 with fail
  refine Kr.seqStartW ?_
  (refine Kr.seqQ (v := ?_) (a' := ?_) (by rfl) ?_ ?_ ?_; rotate_left 2; (focus (go_simp; first | done | rfl)); (focus ((try simp only [Kr.PT]); first | done | rfl)))
  refine Kr.seqDoneW ?_
  rw [← pad64_nil] at H
  have H2 := Lib.hid H; clear H
  go_wp2_with fail
  go_loopw [10] (fun i wr => ∃ j : Nat, j ≤ 16 ∧ i = .int .i64 (j : Int) ∧ Hid (Ow w wr [(bw, 78, pad64 (sch (wordOf l) j)), (br, 78, pad64 [])])) (fun i _ => 16 - (intOf i).toNat)
  case atStart => exact ⟨0, Nat.zero_le _, rfl, H2⟩
  case round =>
    clear H2; obtain ⟨j, hj, rfl, HH⟩ := hrel; have H := HH.out; clear HH
    have hlen : (sch (wordOf l) j).length = j := sch_length _ j
    by_cases hj16 : j = 16
    · have HC : decide ((j : Int) < 16) = false := decide_eq_false (by omega)
      rw [hj16] at H; clear hj16 hlen
      go_upto_region 3 with fail
      refine Kr.seqStartW ?_
      (refine Kr.seqQ (v := .bool false) (a' := ?_) (by rfl) ?_ ?_ ?_; rotate_left 1; (focus (exact Kr.valOf rfl (lssT HC))); (focus ((try simp only [Kr.PT]); first | done | rfl)))
      refine Kr.seqDoneW ?_
      go_upto_region 7 with fail
      refine Kr.seqStartW ?_
      (refine Kr.seqQ (v := ?_) (a' := ?_) (by rfl) ?_ ?_ ?_; rotate_left 2; (focus (go_simp; first | done | rfl)); (focus ((try simp only [Kr.PT]); first | done | rfl)))
      refine Kr.seqDoneW ?_
      have H2 := Lib.hid H; clear H hj HC
      go_wp2_with fail
      go_loopw [5] (fun i wr => ∃ t : Nat, 16 ≤ t ∧ t ≤ 64 ∧ i = .int .i64 (t : Int) ∧ Hid (Ow w wr [(bw, 78, pad64 (sch (wordOf l) t)), (br, 78, pad64 [])])) (fun i _ => 64 - (intOf i).toNat)
      case atStart => exact ⟨16, Nat.le_refl _, by decide, rfl, H2⟩
      case round =>
        clear H2; obtain ⟨t, ht16, ht64, rfl, HH⟩ := hrel; have H := HH.out; clear HH
        have hlen : (sch (wordOf l) t).length = t := sch_length _ t
        by_cases hte : t = 64
        · have HC : decide ((t : Int) < 64) = false := decide_eq_false (by omega); have HTE := Lib.hid hte; clear hte hlen
          go_upto_region 8 with fail
          refine Kr.seqStartW ?_
          (refine Kr.seqQ (v := ?_) (a' := ?_) (by rfl) ?_ ?_ ?_; rotate_left 2; (focus (go_simp; first | done | rfl)); (focus ((try simp only [Kr.PT]); first | done | rfl)))
          (refine Kr.seqQ (v := .bool false) (a' := ?_) (by rfl) ?_ ?_ ?_; rotate_left 1; (focus (exact Kr.valOf rfl (lssT HC))); (focus ((try simp only [Kr.PT]); first | done | rfl)))
          refine Kr.seqDoneW ?_
          rw [show sch (wordOf l) t = R by rw [HTE.out]; exact HR.out, pad64_full (show R.length = 64 by rw [← HR.out]; exact sch_length _ _)] at H
          have hl64 : (R.map w32).length = 64 := by rw [List.length_map, ← HR.out]; exact sch_length _ _
          go_upto_region 14 with fail
          refine Kr.seqStartW ?_
          (refine Kr.seqQ (v := .agg (R.map w32).toArray) (a' := ?_) (by rfl) ?_ ?_ ?_; rotate_left 1; (focus (exact Kr.valOf rfl (ldA64 (H.at 0 rfl) hl64))); (focus ((try simp only [Kr.PT]); first | done | rfl)))
          refine Kr.seqR (by rfl) (fun K hK => ?_)
          refine wp_run rfl (stA64 (H.at 1 rfl) (by rw [pad64_length (by simp)]) hl64 (oneCell_words _)) ?_
          obtain ⟨y3, hy⟩ : ∃ y, wr.setRow br (R.map w32).toArray = y := ⟨_, rfl⟩
          rw [hy]
          replace H := H.put 1 hy rfl
          dsimp only [List.set] at H
          clear hy
          (refine Kr.outS hK (a' := ?_) ?_ ?_; rotate_left; (focus ((try simp only [Kr.PT]); first | done | rfl))); clear hK K
          refine Kr.seqDoneW ?_
          go_wp2
          refine bodyPost_ret (v := .agg (R.map w32).toArray) (results_cell_row rfl _ _ br 78 _ _ _ (by rfl) (H.at 1 rfl) Tryd.underlying78 rfl (by rw [List.size_toArray, hl64]; exact infoA64)) rfl ⟨rfl, H.g⟩
        · have htl : t < 64 := by omega
          have HC : decide ((t : Int) < 64) = true := decide_eq_true (by omega)
          go_upto_region 8 with fail
          refine Kr.seqStartW ?_
          (refine Kr.seqQ (v := ?_) (a' := ?_) (by rfl) ?_ ?_ ?_; rotate_left 2; (focus (go_simp; first | done | rfl)); (focus ((try simp only [Kr.PT]); first | done | rfl)))
          (refine Kr.seqQ (v := .bool true) (a' := ?_) (by rfl) ?_ ?_ ?_; rotate_left 1; (focus (exact Kr.valOf rfl (lssT HC))); (focus ((try simp only [Kr.PT]); first | done | rfl)))
          refine Kr.seqDoneW ?_
          obtain ⟨t15, ht15⟩ : ∃ z, t - 15 = z := ⟨_, rfl⟩
          have hs15 : IntKind.i64.wrap ((t : Int) - 15) = (t15 : Int) := wrap_nat (by omega) (by omega)
          obtain ⟨x15, hx15⟩ : ∃ x, (sch (wordOf l) t).getD t15 0 = x := ⟨_, rfl⟩
          have hg15 : (pad64 (sch (wordOf l) t))[t15]? = some (w32 x15) := hx15 ▸ pad64_get (by omega)
          obtain ⟨t2, ht2⟩ : ∃ z, t - 2 = z := ⟨_, rfl⟩
          have hs2 : IntKind.i64.wrap ((t : Int) - 2) = (t2 : Int) := wrap_nat (by omega) (by omega)
          obtain ⟨x2, hx2⟩ : ∃ x, (sch (wordOf l) t).getD t2 0 = x := ⟨_, rfl⟩
          have hg2 : (pad64 (sch (wordOf l) t))[t2]? = some (w32 x2) := hx2 ▸ pad64_get (by omega)
          obtain ⟨t16, ht16⟩ : ∃ z, t - 16 = z := ⟨_, rfl⟩
          have hs16 : IntKind.i64.wrap ((t : Int) - 16) = (t16 : Int) := wrap_nat (by omega) (by omega)
          obtain ⟨x16, hx16⟩ : ∃ x, (sch (wordOf l) t).getD t16 0 = x := ⟨_, rfl⟩
          have hg16 : (pad64 (sch (wordOf l) t))[t16]? = some (w32 x16) := hx16 ▸ pad64_get (by omega)
          obtain ⟨t7, ht7⟩ : ∃ z, t - 7 = z := ⟨_, rfl⟩
          have hs7 : IntKind.i64.wrap ((t : Int) - 7) = (t7 : Int) := wrap_nat (by omega) (by omega)
          obtain ⟨x7, hx7⟩ : ∃ x, (sch (wordOf l) t).getD t7 0 = x := ⟨_, rfl⟩
          have hg7 : (pad64 (sch (wordOf l) t))[t7]? = some (w32 x7) := hx7 ▸ pad64_get (by omega)
          have hnx : nxt (sch (wordOf l) t) t = ((x16 + (rr x15 7 ^^^ rr x15 18 ^^^ x15 >>> 3)) + x7) + (rr x2 17 ^^^ rr x2 19 ^^^ x2 >>> 10) := by unfold nxt; rw [ht15, ht2, ht16, ht7, hx15, hx2, hx16, hx7]
          obtain ⟨r7, hr7⟩ : ∃ z, rr x15 7 = z := ⟨_, rfl⟩
          obtain ⟨r18, hr18⟩ : ∃ z, rr x15 18 = z := ⟨_, rfl⟩
          obtain ⟨q1, hq1⟩ : ∃ z, r7 ^^^ r18 = z := ⟨_, rfl⟩
          obtain ⟨q2, hq2⟩ : ∃ z, x15 >>> 3 = z := ⟨_, rfl⟩
          obtain ⟨S0, hS0⟩ : ∃ z, q1 ^^^ q2 = z := ⟨_, rfl⟩
          obtain ⟨r17, hr17⟩ : ∃ z, rr x2 17 = z := ⟨_, rfl⟩
          obtain ⟨r19, hr19⟩ : ∃ z, rr x2 19 = z := ⟨_, rfl⟩
          obtain ⟨q3, hq3⟩ : ∃ z, r17 ^^^ r19 = z := ⟨_, rfl⟩
          obtain ⟨q4, hq4⟩ : ∃ z, x2 >>> 10 = z := ⟨_, rfl⟩
          obtain ⟨S1, hS1⟩ : ∃ z, q3 ^^^ q4 = z := ⟨_, rfl⟩
          obtain ⟨z1, hz1⟩ : ∃ z, x16 + S0 = z := ⟨_, rfl⟩
          obtain ⟨z2, hz2⟩ : ∃ z, z1 + x7 = z := ⟨_, rfl⟩
          obtain ⟨z3, hz3⟩ : ∃ z, z2 + S1 = z := ⟨_, rfl⟩
          have hnx : nxt (sch (wordOf l) t) t = z3 := by unfold nxt; rw [ht15, ht2, ht16, ht7, hx15, hx2, hx16, hx7, hr7, hr18, hr17, hr19, hq1, hq2, hq3, hq4, hS0, hS1, hz1, hz2, hz3]
          go_upto_region 10 with fail
          refine Kr.startL (fun W' => (W'.heap[bw]? = some (.cells (pad64 (sch (wordOf l) t)).toArray 78 (0, 0))) ∧ True) [] (by kernel_rfl) ?_
          have gd : Gr wr wr.drew := (Gr.refl _).drew
          generalize wr.drew = d4 at gd ⊢
          replace H := H.grow gd
          clear gd
          (refine Kr.tPQ 0 (v := ?_) (a' := ?_) rfl (by kernel_rfl) (fun _ _ _ h => h) (by rfl) (fun _ => ⟨(H.at 0 rfl), trivial⟩) (fun wx => ?_) ?_ ?_; rotate_left 2; (focus (go_simp; first | done | rfl)); (focus ((try simp only [Kr.PT]); first | done | rfl)))
          (refine Kr.tPQ 1 (v := .int .i64 (t15 : Int)) (a' := ?_) rfl (by kernel_rfl) (fun _ _ _ h => h) (by rfl) (fun _ => ⟨(H.at 0 rfl), trivial⟩) (fun wx => ?_) ?_ ?_; rotate_left 1; (focus (exact Kr.valOf rfl (subI hs15))); (focus ((try simp only [Kr.PT]); first | done | rfl)))
          (refine Kr.tPQ 2 (v := .pointer (some ⟨bw, t15, none⟩)) (a' := ?_) rfl (by kernel_rfl) (fun _ _ _ h => h) (by rfl) (fun _ => ⟨(H.at 0 rfl), trivial⟩) (fun wx => ?_) ?_ ?_; rotate_left 1; (focus (exact Kr.valOf rfl (ixA64 (by omega)))); (focus ((try simp only [Kr.PT]); first | done | rfl)))
          (refine Kr.tSQ 3 [] (v := .int .u32 ((x15).toNat : Int)) (a' := ?_) rfl (by kernel_rfl) (fun _ _ _ h => h) (by rfl) ⟨(H.at 0 rfl), trivial⟩ (fun wx hSx => ?_) ?_ ?_; rotate_left 1; (focus (exact Kr.valOf rfl (ldE32 (rowCell hSx.1 hg15)))); (focus ((try simp only [Kr.PT]); first | done | rfl)))
          (refine Kr.tPQ 4 (v := ?_) (a' := ?_) rfl (by kernel_rfl) (fun _ _ _ h => h) (by rfl) (fun _ => ⟨(H.at 0 rfl), trivial⟩) (fun wx => ?_) ?_ ?_; rotate_left 2; (focus (go_simp; first | done | rfl)); (focus ((try simp only [Kr.PT]); first | done | rfl)))
          (refine Kr.tPQ 5 (v := .int .i64 (t2 : Int)) (a' := ?_) rfl (by kernel_rfl) (fun _ _ _ h => h) (by rfl) (fun _ => ⟨(H.at 0 rfl), trivial⟩) (fun wx => ?_) ?_ ?_; rotate_left 1; (focus (exact Kr.valOf rfl (subI hs2))); (focus ((try simp only [Kr.PT]); first | done | rfl)))
          (refine Kr.tPQ 6 (v := .pointer (some ⟨bw, t2, none⟩)) (a' := ?_) rfl (by kernel_rfl) (fun _ _ _ h => h) (by rfl) (fun _ => ⟨(H.at 0 rfl), trivial⟩) (fun wx => ?_) ?_ ?_; rotate_left 1; (focus (exact Kr.valOf rfl (ixA64 (by omega)))); (focus ((try simp only [Kr.PT]); first | done | rfl)))
          (refine Kr.tSQ 7 [] (v := .int .u32 ((x2).toNat : Int)) (a' := ?_) rfl (by kernel_rfl) (fun _ _ _ h => h) (by rfl) ⟨(H.at 0 rfl), trivial⟩ (fun wx hSx => ?_) ?_ ?_; rotate_left 1; (focus (exact Kr.valOf rfl (ldE32 (rowCell hSx.1 hg2)))); (focus ((try simp only [Kr.PT]); first | done | rfl)))
          (refine Kr.tPQ 8 (v := ?_) (a' := ?_) rfl (by kernel_rfl) (fun _ _ _ h => h) (by rfl) (fun _ => ⟨(H.at 0 rfl), trivial⟩) (fun wx => ?_) ?_ ?_; rotate_left 2; (focus (go_simp; first | done | rfl)); (focus ((try simp only [Kr.PT]); first | done | rfl)))
          (refine Kr.tPQ 9 (v := ?_) (a' := ?_) rfl (by kernel_rfl) (fun _ _ _ h => h) (by rfl) (fun _ => ⟨(H.at 0 rfl), trivial⟩) (fun wx => ?_) ?_ ?_; rotate_left 2; (focus (go_simp; first | done | rfl)); (focus ((try simp only [Kr.PT]); first | done | rfl)))
          refine Kr.doneL (by kernel_rfl) ?_ _
          go_upto_region 11 with fail
          refine Kr.seqStartW ?_
          (refine Kr.seqQ (v := ?_) (a' := ?_) (by rfl) ?_ ?_ ?_; rotate_left 2; (focus (go_simp; first | done | rfl)); (focus ((try simp only [Kr.PT]); first | done | rfl)))
          refine Kr.seqR (by rfl) (fun K hK => ?_)
          go_simp
          go_at_call 54
          have hP := turn_v (x := x15) (n := 7) (w := d4) (by decide) (by decide)
          rw [hr7] at hP
          refine (hP).mono ?_
          rintro e y5 ⟨rfl, hg⟩
          replace H := H.grow hg
          clear hg
          clear hP
          (refine Kr.outS hK (a' := ?_) ?_ ?_; rotate_left; (focus ((try simp only [Kr.PT]); first | done | rfl))); clear hK K
          (refine Kr.seqQ (v := ?_) (a' := ?_) (by rfl) ?_ ?_ ?_; rotate_left 2; (focus (go_simp; first | done | rfl)); (focus ((try simp only [Kr.PT]); first | done | rfl)))
          refine Kr.seqR (by rfl) (fun K hK => ?_)
          go_simp
          go_at_call 54
          have hP := turn_v (x := x15) (n := 18) (w := y5) (by decide) (by decide)
          rw [hr18] at hP
          refine (hP).mono ?_
          rintro e y6 ⟨rfl, hg⟩
          replace H := H.grow hg
          clear hg
          clear hP
          (refine Kr.outS hK (a' := ?_) ?_ ?_; rotate_left; (focus ((try simp only [Kr.PT]); first | done | rfl))); clear hK K
          (refine Kr.seqQ (v := .int .u32 ((q1).toNat : Int)) (a' := ?_) (by rfl) ?_ ?_ ?_; rotate_left 1; (focus (exact Kr.valOf rfl ((by rw [← hq1]; exact xorW)))); (focus ((try simp only [Kr.PT]); first | done | rfl)))
          (refine Kr.seqQ (v := ?_) (a' := ?_) (by rfl) ?_ ?_ ?_; rotate_left 2; (focus (go_simp; first | done | rfl)); (focus ((try simp only [Kr.PT]); first | done | rfl)))
          (refine Kr.seqQ (v := .int .u32 ((q2).toNat : Int)) (a' := ?_) (by rfl) ?_ ?_ ?_; rotate_left 1; (focus (exact Kr.valOf rfl ((by rw [← hq2]; exact shr3W)))); (focus ((try simp only [Kr.PT]); first | done | rfl)))
          (refine Kr.seqQ (v := .int .u32 ((S0).toNat : Int)) (a' := ?_) (by rfl) ?_ ?_ ?_; rotate_left 1; (focus (exact Kr.valOf rfl ((by rw [← hS0]; exact xorW)))); (focus ((try simp only [Kr.PT]); first | done | rfl)))
          (refine Kr.seqQ (v := ?_) (a' := ?_) (by rfl) ?_ ?_ ?_; rotate_left 2; (focus (go_simp; first | done | rfl)); (focus ((try simp only [Kr.PT]); first | done | rfl)))
          refine Kr.seqDoneW ?_
          go_upto_region 12 with fail
          refine Kr.seqStartW ?_
          (refine Kr.seqQ (v := ?_) (a' := ?_) (by rfl) ?_ ?_ ?_; rotate_left 2; (focus (go_simp; first | done | rfl)); (focus ((try simp only [Kr.PT]); first | done | rfl)))
          refine Kr.seqR (by rfl) (fun K hK => ?_)
          go_simp
          go_at_call 54
          have hP := turn_v (x := x2) (n := 17) (w := y6) (by decide) (by decide)
          rw [hr17] at hP
          refine (hP).mono ?_
          rintro e y7 ⟨rfl, hg⟩
          replace H := H.grow hg
          clear hg
          clear hP
          (refine Kr.outS hK (a' := ?_) ?_ ?_; rotate_left; (focus ((try simp only [Kr.PT]); first | done | rfl))); clear hK K
          (refine Kr.seqQ (v := ?_) (a' := ?_) (by rfl) ?_ ?_ ?_; rotate_left 2; (focus (go_simp; first | done | rfl)); (focus ((try simp only [Kr.PT]); first | done | rfl)))
          refine Kr.seqR (by rfl) (fun K hK => ?_)
          go_simp
          go_at_call 54
          have hP := turn_v (x := x2) (n := 19) (w := y7) (by decide) (by decide)
          rw [hr19] at hP
          refine (hP).mono ?_
          rintro e y8 ⟨rfl, hg⟩
          replace H := H.grow hg
          clear hg
          clear hP
          (refine Kr.outS hK (a' := ?_) ?_ ?_; rotate_left; (focus ((try simp only [Kr.PT]); first | done | rfl))); clear hK K
          (refine Kr.seqQ (v := .int .u32 ((q3).toNat : Int)) (a' := ?_) (by rfl) ?_ ?_ ?_; rotate_left 1; (focus (exact Kr.valOf rfl ((by rw [← hq3]; exact xorW)))); (focus ((try simp only [Kr.PT]); first | done | rfl)))
          (refine Kr.seqQ (v := ?_) (a' := ?_) (by rfl) ?_ ?_ ?_; rotate_left 2; (focus (go_simp; first | done | rfl)); (focus ((try simp only [Kr.PT]); first | done | rfl)))
          (refine Kr.seqQ (v := .int .u32 ((q4).toNat : Int)) (a' := ?_) (by rfl) ?_ ?_ ?_; rotate_left 1; (focus (exact Kr.valOf rfl ((by rw [← hq4]; exact shr10W)))); (focus ((try simp only [Kr.PT]); first | done | rfl)))
          (refine Kr.seqQ (v := .int .u32 ((S1).toNat : Int)) (a' := ?_) (by rfl) ?_ ?_ ?_; rotate_left 1; (focus (exact Kr.valOf rfl ((by rw [← hS1]; exact xorW)))); (focus ((try simp only [Kr.PT]); first | done | rfl)))
          (refine Kr.seqQ (v := ?_) (a' := ?_) (by rfl) ?_ ?_ ?_; rotate_left 2; (focus (go_simp; first | done | rfl)); (focus ((try simp only [Kr.PT]); first | done | rfl)))
          refine Kr.seqDoneW ?_
          obtain ⟨v0, hv0⟩ := pad64_any (l := sch (wordOf l) t) (by omega) htl
          go_upto_region 13 with fail
          refine Kr.startL (fun W' => (W'.heap[bw]? = some (.cells (pad64 (sch (wordOf l) t)).toArray 78 (0, 0))) ∧ True) [15] (by kernel_rfl) ?_
          have gd : Gr y8 y8.drew := (Gr.refl _).drew
          generalize y8.drew = d9 at gd ⊢
          replace H := H.grow gd
          clear gd
          (refine Kr.tPQ 0 (v := ?_) (a' := ?_) rfl (by kernel_rfl) (fun _ _ _ h => h) (by rfl) (fun _ => ⟨(H.at 0 rfl), trivial⟩) (fun wx => ?_) ?_ ?_; rotate_left 2; (focus (go_simp; first | done | rfl)); (focus ((try simp only [Kr.PT]); first | done | rfl)))
          (refine Kr.tPQ 1 (v := ?_) (a' := ?_) rfl (by kernel_rfl) (fun _ _ _ h => h) (by rfl) (fun _ => ⟨(H.at 0 rfl), trivial⟩) (fun wx => ?_) ?_ ?_; rotate_left 2; (focus (go_simp; first | done | rfl)); (focus ((try simp only [Kr.PT]); first | done | rfl)))
          (refine Kr.tPQ 2 (v := .int .i64 (t16 : Int)) (a' := ?_) rfl (by kernel_rfl) (fun _ _ _ h => h) (by rfl) (fun _ => ⟨(H.at 0 rfl), trivial⟩) (fun wx => ?_) ?_ ?_; rotate_left 1; (focus (exact Kr.valOf rfl (subI hs16))); (focus ((try simp only [Kr.PT]); first | done | rfl)))
          (refine Kr.tPQ 3 (v := .pointer (some ⟨bw, t16, none⟩)) (a' := ?_) rfl (by kernel_rfl) (fun _ _ _ h => h) (by rfl) (fun _ => ⟨(H.at 0 rfl), trivial⟩) (fun wx => ?_) ?_ ?_; rotate_left 1; (focus (exact Kr.valOf rfl (ixA64 (by omega)))); (focus ((try simp only [Kr.PT]); first | done | rfl)))
          (refine Kr.tSQ 4 [6, 11, 13, 14, 15] (v := .int .u32 ((x16).toNat : Int)) (a' := ?_) rfl (by kernel_rfl) (fun _ _ _ h => h) (by rfl) ⟨(H.at 0 rfl), trivial⟩ (fun wx hSx => ?_) ?_ ?_; rotate_left 1; (focus (exact Kr.valOf rfl (ldE32 (rowCell hSx.1 hg16)))); (focus ((try simp only [Kr.PT]); first | done | rfl)))
          (refine Kr.tPQ 5 (v := ?_) (a' := ?_) rfl (by kernel_rfl) (fun _ _ _ h => h) (by rfl) (fun _ => ⟨(H.at 0 rfl), trivial⟩) (fun wx => ?_) ?_ ?_; rotate_left 2; (focus (go_simp; first | done | rfl)); (focus ((try simp only [Kr.PT]); first | done | rfl)))
          (refine Kr.tPQ 6 (v := .int .u32 ((z1).toNat : Int)) (a' := ?_) rfl (by kernel_rfl) (fun _ _ _ h => h) (by rfl) (fun _ => ⟨(H.at 0 rfl), trivial⟩) (fun wx => ?_) ?_ ?_; rotate_left 1; (focus (exact Kr.valOf rfl ((by rw [← hz1]; exact addW)))); (focus ((try simp only [Kr.PT]); first | done | rfl)))
          (refine Kr.tPQ 7 (v := ?_) (a' := ?_) rfl (by kernel_rfl) (fun _ _ _ h => h) (by rfl) (fun _ => ⟨(H.at 0 rfl), trivial⟩) (fun wx => ?_) ?_ ?_; rotate_left 2; (focus (go_simp; first | done | rfl)); (focus ((try simp only [Kr.PT]); first | done | rfl)))
          (refine Kr.tPQ 8 (v := .int .i64 (t7 : Int)) (a' := ?_) rfl (by kernel_rfl) (fun _ _ _ h => h) (by rfl) (fun _ => ⟨(H.at 0 rfl), trivial⟩) (fun wx => ?_) ?_ ?_; rotate_left 1; (focus (exact Kr.valOf rfl (subI hs7))); (focus ((try simp only [Kr.PT]); first | done | rfl)))
          (refine Kr.tPQ 9 (v := .pointer (some ⟨bw, t7, none⟩)) (a' := ?_) rfl (by kernel_rfl) (fun _ _ _ h => h) (by rfl) (fun _ => ⟨(H.at 0 rfl), trivial⟩) (fun wx => ?_) ?_ ?_; rotate_left 1; (focus (exact Kr.valOf rfl (ixA64 (by omega)))); (focus ((try simp only [Kr.PT]); first | done | rfl)))
          (refine Kr.tSQ 10 [11, 13, 14, 15] (v := .int .u32 ((x7).toNat : Int)) (a' := ?_) rfl (by kernel_rfl) (fun _ _ _ h => h) (by rfl) ⟨(H.at 0 rfl), trivial⟩ (fun wx hSx => ?_) ?_ ?_; rotate_left 1; (focus (exact Kr.valOf rfl (ldE32 (rowCell hSx.1 hg7)))); (focus ((try simp only [Kr.PT]); first | done | rfl)))
          (refine Kr.tPQ 11 (v := .int .u32 ((z2).toNat : Int)) (a' := ?_) rfl (by kernel_rfl) (fun _ _ _ h => h) (by rfl) (fun _ => ⟨(H.at 0 rfl), trivial⟩) (fun wx => ?_) ?_ ?_; rotate_left 1; (focus (exact Kr.valOf rfl ((by rw [← hz2]; exact addW)))); (focus ((try simp only [Kr.PT]); first | done | rfl)))
          (refine Kr.tPQ 12 (v := ?_) (a' := ?_) rfl (by kernel_rfl) (fun _ _ _ h => h) (by rfl) (fun _ => ⟨(H.at 0 rfl), trivial⟩) (fun wx => ?_) ?_ ?_; rotate_left 2; (focus (go_simp; first | done | rfl)); (focus ((try simp only [Kr.PT]); first | done | rfl)))
          (refine Kr.tPQ 13 (v := .int .u32 ((z3).toNat : Int)) (a' := ?_) rfl (by kernel_rfl) (fun _ _ _ h => h) (by rfl) (fun _ => ⟨(H.at 0 rfl), trivial⟩) (fun wx => ?_) ?_ ?_; rotate_left 1; (focus (exact Kr.valOf rfl ((by rw [← hz3]; exact addW)))); (focus ((try simp only [Kr.PT]); first | done | rfl)))
          (refine Kr.tPQ 14 (v := .pointer (some ⟨bw, t, none⟩)) (a' := ?_) rfl (by kernel_rfl) (fun _ _ _ h => h) (by rfl) (fun _ => ⟨(H.at 0 rfl), trivial⟩) (fun wx => ?_) ?_ ?_; rotate_left 1; (focus (exact Kr.valOf rfl (ixA64 htl))); (focus ((try simp only [Kr.PT]); first | done | rfl)))
          refine Kr.readyL (rs := [15]) (by kernel_rfl) (by simp) ?_
          refine Kr.AllL.cons rfl (fun K hK => ?_) Kr.AllL.nil
          rw [if_pos (by rfl)]
          refine wp_run rfl (stE32 (H.cell 0 rfl hv0) (H.frozen 0 rfl t)) ?_
          obtain ⟨y10, hy⟩ : ∃ y, d9.setCell ⟨bw, t, none⟩ (.int .u32 ((z3).toNat : Int)) = y := ⟨_, rfl⟩
          rw [hy]
          replace H := H.set 0 (t) hy rfl
          dsimp only [List.set] at H
          clear hy
          rw [pad64_set hlen htl] at H
          (refine Kr.outL hK (a' := ?_) ?_ (Kr.noStill (by kernel_rfl)) ?_; rotate_left; (focus ((try simp only [Kr.PT]); first | done | rfl))); clear hK K
          refine Kr.doneL (by kernel_rfl) ?_ _
          have HADD : IntKind.i64.wrap ((t : Int) + 1) = ((t + 1 : Nat) : Int) := wrap_nat (by omega) (by omega)
          go_upto_region 9 with fail
          refine Kr.seqStartW ?_
          (refine Kr.seqQ (v := ?_) (a' := ?_) (by rfl) ?_ ?_ ?_; rotate_left 2; (focus (go_simp; first | done | rfl)); (focus ((try simp only [Kr.PT]); first | done | rfl)))
          (refine Kr.seqQ (v := .int .i64 ((t + 1 : Nat) : Int)) (a' := ?_) (by rfl) ?_ ?_ ?_; rotate_left 1; (focus (exact Kr.valOf rfl (addI HADD))); (focus ((try simp only [Kr.PT]); first | done | rfl)))
          (refine Kr.seqQ (v := ?_) (a' := ?_) (by rfl) ?_ ?_ ?_; rotate_left 2; (focus (go_simp; first | done | rfl)); (focus ((try simp only [Kr.PT]); first | done | rfl)))
          refine Kr.seqDoneW ?_
          go_wp2; go_roundw
          case rel => exact ⟨t + 1, by omega, by omega, rfl, Lib.hid (by rw [sch, if_neg (by omega), hnx]; exact H)⟩
          case measure => simp [intOf]; omega
    · have hjl : j < 16 := by omega
      have HC : decide ((j : Int) < 16) = true := decide_eq_true (by omega)
      go_upto_region 3 with fail
      refine Kr.seqStartW ?_
      (refine Kr.seqQ (v := .bool true) (a' := ?_) (by rfl) ?_ ?_ ?_; rotate_left 1; (focus (exact Kr.valOf rfl (lssT HC))); (focus ((try simp only [Kr.PT]); first | done | rfl)))
      refine Kr.seqDoneW ?_
      go_upto_region 4 with fail
      refine Kr.seqStartW ?_
      (refine Kr.seqQ (v := ?_) (a' := ?_) (by rfl) ?_ ?_ ?_; rotate_left 2; (focus (go_simp; first | done | rfl)); (focus ((try simp only [Kr.PT]); first | done | rfl)))
      (refine Kr.seqQ (v := ?_) (a' := ?_) (by rfl) ?_ ?_ ?_; rotate_left 2; (focus (go_simp; first | done | rfl)); (focus ((try simp only [Kr.PT]); first | done | rfl)))
      refine Kr.seqDoneW ?_
      obtain ⟨v0, hv0⟩ := pad64_any (l := sch (wordOf l) j) (j := j) (by omega) (by omega)
      go_upto_region 5 with fail
      refine Kr.seqStartW ?_
      (refine Kr.seqQ (v := ?_) (a' := ?_) (by rfl) ?_ ?_ ?_; rotate_left 2; (focus (go_simp; first | done | rfl)); (focus ((try simp only [Kr.PT]); first | done | rfl)))
      (refine Kr.seqQ (v := ?_) (a' := ?_) (by rfl) ?_ ?_ ?_; rotate_left 2; (focus (go_simp; first | done | rfl)); (focus ((try simp only [Kr.PT]); first | done | rfl)))
      (refine Kr.seqQ (v := ?_) (a' := ?_) (by rfl) ?_ ?_ ?_; rotate_left 2; (focus (go_simp; first | done | rfl)); (focus ((try simp only [Kr.PT]); first | done | rfl)))
      refine Kr.seqR (by rfl) (fun K hK => ?_)
      go_simp
      go_at_call 43
      refine (wordAt_v (l := l) (i := j) (HB.out.grow H.g) hn (by omega) hs).mono ?_
      rintro e y11 ⟨rfl, hg⟩
      replace H := H.grow hg
      clear hg
      (refine Kr.outS hK (a' := ?_) ?_ ?_; rotate_left; (focus ((try simp only [Kr.PT]); first | done | rfl))); clear hK K
      (refine Kr.seqQ (v := .pointer (some ⟨bw, j, none⟩)) (a' := ?_) (by rfl) ?_ ?_ ?_; rotate_left 1; (focus (exact Kr.valOf rfl (ixA64 (by omega)))); (focus ((try simp only [Kr.PT]); first | done | rfl)))
      refine Kr.seqR (by rfl) (fun K hK => ?_)
      refine wp_run rfl (stE32 (H.cell 0 rfl hv0) (H.frozen 0 rfl j)) ?_
      obtain ⟨y12, hy⟩ : ∃ y, y11.setCell ⟨bw, j, none⟩ (.int .u32 ((wordOf l j).toNat : Int)) = y := ⟨_, rfl⟩
      rw [hy]
      replace H := H.set 0 (j) hy rfl
      dsimp only [List.set] at H
      clear hy
      rw [pad64_set hlen (by omega)] at H
      (refine Kr.outS hK (a' := ?_) ?_ ?_; rotate_left; (focus ((try simp only [Kr.PT]); first | done | rfl))); clear hK K
      refine Kr.seqDoneW ?_
      have HADD : IntKind.i64.wrap ((j : Int) + 1) = ((j + 1 : Nat) : Int) := wrap_nat (by omega) (by omega)
      go_upto_region 6 with fail
      refine Kr.seqStartW ?_
      (refine Kr.seqQ (v := .int .i64 ((j + 1 : Nat) : Int)) (a' := ?_) (by rfl) ?_ ?_ ?_; rotate_left 1; (focus (exact Kr.valOf rfl (addI HADD))); (focus ((try simp only [Kr.PT]); first | done | rfl)))
      (refine Kr.seqQ (v := ?_) (a' := ?_) (by rfl) ?_ ?_ ?_; rotate_left 2; (focus (go_simp; first | done | rfl)); (focus ((try simp only [Kr.PT]); first | done | rfl)))
      refine Kr.seqDoneW ?_
      go_wp2; go_roundw
      case rel => exact ⟨j + 1, by omega, rfl, Lib.hid (by rw [sch, if_pos hjl]; exact H)⟩
      case measure => simp [intOf]; omega
end Go.Proofs.YtilbojcghladjaaDoor.Dg


/- absorb. -/
namespace Go.Proofs.YtilbojcghladjaaDoor.Dg
open Go Go.RowKit Go.Proofs.YtilbojcghladjaaDoor.Ne Go.Proofs.YtilbojcghladjaaDoor.Kr

set_option linter.unusedSimpArgs false in
set_option maxRecDepth 100000 in
set_option maxHeartbeats 16000000 in
theorem absorb_v {S : S8} {b off n c : Nat} {l : List (BitVec 8)} {w : World} (hB : BytesAt b off l w) (hn : l.length ≤ n) (hl : 64 ≤ l.length) (hs : n < 9223372036854775808) (hC : Con w) :
    Calls Tryd.prog 32 #[.agg (S.list.map w32).toArray, .slice (some ⟨b, off, none⟩) n c] w fun e w' => e = .returned (.agg ((comp S (wordOf l)).list.map w32).toArray) ∧ Gr w w' := by
  have HB := Lib.hid hB; have HCN := Lib.hid hC; clear hB hC
  obtain ⟨RES, hRES⟩ : ∃ R, comp S (wordOf l) = R := ⟨_, rfl⟩
  rw [hRES]; have HRES := Lib.hid hRES; clear hRES
  obtain ⟨R, hR⟩ : ∃ R, sch (wordOf l) 64 = R := ⟨_, rfl⟩
  have HR := Lib.hid hR; have hRl : R.length = 64 := (by rw [← hR]; exact sch_length _ _); clear hR
  have hR64 : (R.map w32).length = 64 := by rw [List.length_map]; exact hRl
  have H := Ow.start w
  go_enter Tryd.func32, Tryd.ntmps32
  go_upto_region 0 with fail
  refine Kr.seqStartW ?_
  refine Kr.seqR (by rfl) (fun K hK => ?_)
  refine wp_runV rfl boxA8 ?_
  obtain ⟨y1, hy⟩ : ∃ y, w.alloc (.cells (S.list.map w32).toArray 60) = y := ⟨_, rfl⟩
  obtain ⟨bs, hb⟩ : ∃ b, w.heap.size = b := ⟨_, rfl⟩
  rw [hy, hb]
  have hg : Gr w y1 := hy ▸ (Gr.refl _).alloc _
  replace H := H.alloc hy hb
  clear hy hb hg
  (refine Kr.outS hK (a' := ?_) ?_ ?_; rotate_left; (focus ((try simp only [Kr.PT]); first | done | rfl))); clear hK K
  refine Kr.seqR (by rfl) (fun K hK => ?_)
  refine wp_runV rfl newA8 ?_
  obtain ⟨y2, hy⟩ : ∃ y, y1.alloc (.cells (List.replicate 8 (Value.int .u32 0)).toArray 60) = y := ⟨_, rfl⟩
  obtain ⟨br, hb⟩ : ∃ b, y1.heap.size = b := ⟨_, rfl⟩
  rw [hy, hb]
  have hg : Gr y1 y2 := hy ▸ (Gr.refl _).alloc _
  replace H := H.alloc hy hb
  clear hy hb hg
  (refine Kr.outS hK (a' := ?_) ?_ ?_; rotate_left; (focus ((try simp only [Kr.PT]); first | done | rfl))); clear hK K
  refine Kr.seqDoneW ?_
  go_upto_region 1 with fail
  refine Kr.seqStartW ?_
  (refine Kr.seqQ (v := ?_) (a' := ?_) (by rfl) ?_ ?_ ?_; rotate_left 2; (focus (go_simp; first | done | rfl)); (focus ((try simp only [Kr.PT]); first | done | rfl)))
  refine Kr.seqR (by rfl) (fun K hK => ?_)
  go_simp
  go_at_call 53
  have hP := schedule_v (c := c) (HB.out.grow H.g) hn hl hs
  rw [HR.out] at hP
  refine (hP).mono ?_
  rintro e y3 ⟨rfl, hg⟩
  replace H := H.grow hg
  clear hg
  clear hP
  (refine Kr.outS hK (a' := ?_) ?_ ?_; rotate_left; (focus ((try simp only [Kr.PT]); first | done | rfl))); clear hK K
  refine Kr.seqR (by rfl) (fun K hK => ?_)
  refine wp_runV rfl newA64 ?_
  obtain ⟨y4, hy⟩ : ∃ y, y3.alloc (.cells (List.replicate 64 (Value.int .u32 0)).toArray 78) = y := ⟨_, rfl⟩
  obtain ⟨bw, hb⟩ : ∃ b, y3.heap.size = b := ⟨_, rfl⟩
  rw [hy, hb]
  have hg : Gr y3 y4 := hy ▸ (Gr.refl _).alloc _
  replace H := H.alloc hy hb
  clear hy hb hg
  (refine Kr.outS hK (a' := ?_) ?_ ?_; rotate_left; (focus ((try simp only [Kr.PT]); first | done | rfl))); clear hK K
  refine Kr.seqR (by rfl) (fun K hK => ?_)
  refine wp_run rfl (stA64 (H.at 0 rfl) (by simp) hR64 (oneCell_words _)) ?_
  obtain ⟨y5, hy⟩ : ∃ y, y4.setRow bw (R.map w32).toArray = y := ⟨_, rfl⟩
  rw [hy]
  replace H := H.put 0 hy rfl
  dsimp only [List.set] at H
  clear hy
  (refine Kr.outS hK (a' := ?_) ?_ ?_; rotate_left; (focus ((try simp only [Kr.PT]); first | done | rfl))); clear hK K
  refine Kr.seqDoneW ?_
  go_upto_region 2 with fail
  refine Kr.startL (fun W' => (W'.heap[bs]? = some (.cells (S.list.map w32).toArray 60 (0, 0))) ∧ True) [] (by kernel_rfl) ?_
  have gd : Gr y5 y5.drew := (Gr.refl _).drew
  generalize y5.drew = d6 at gd ⊢
  replace H := H.grow gd
  clear gd
  (refine Kr.tPQ 0 (v := ?_) (a' := ?_) rfl (by kernel_rfl) (fun _ _ _ h => h) (by rfl) (fun _ => ⟨(H.at 2 rfl), trivial⟩) (fun wx => ?_) ?_ ?_; rotate_left 2; (focus (go_simp; first | done | rfl)); (focus ((try simp only [Kr.PT]); first | done | rfl)))
  (refine Kr.tSQ 1 [] (v := .int .u32 ((S.a).toNat : Int)) (a' := ?_) rfl (by kernel_rfl) (fun _ _ _ h => h) (by rfl) ⟨(H.at 2 rfl), trivial⟩ (fun wx hSx => ?_) ?_ ?_; rotate_left 1; (focus (exact Kr.valOf rfl (ldE32 (rowCell hSx.1 rfl)))); (focus ((try simp only [Kr.PT]); first | done | rfl)))
  (refine Kr.tPQ 2 (v := ?_) (a' := ?_) rfl (by kernel_rfl) (fun _ _ _ h => h) (by rfl) (fun _ => ⟨(H.at 2 rfl), trivial⟩) (fun wx => ?_) ?_ ?_; rotate_left 2; (focus (go_simp; first | done | rfl)); (focus ((try simp only [Kr.PT]); first | done | rfl)))
  (refine Kr.tSQ 3 [] (v := .int .u32 ((S.b).toNat : Int)) (a' := ?_) rfl (by kernel_rfl) (fun _ _ _ h => h) (by rfl) ⟨(H.at 2 rfl), trivial⟩ (fun wx hSx => ?_) ?_ ?_; rotate_left 1; (focus (exact Kr.valOf rfl (ldE32 (rowCell hSx.1 rfl)))); (focus ((try simp only [Kr.PT]); first | done | rfl)))
  (refine Kr.tPQ 4 (v := ?_) (a' := ?_) rfl (by kernel_rfl) (fun _ _ _ h => h) (by rfl) (fun _ => ⟨(H.at 2 rfl), trivial⟩) (fun wx => ?_) ?_ ?_; rotate_left 2; (focus (go_simp; first | done | rfl)); (focus ((try simp only [Kr.PT]); first | done | rfl)))
  (refine Kr.tSQ 5 [] (v := .int .u32 ((S.c).toNat : Int)) (a' := ?_) rfl (by kernel_rfl) (fun _ _ _ h => h) (by rfl) ⟨(H.at 2 rfl), trivial⟩ (fun wx hSx => ?_) ?_ ?_; rotate_left 1; (focus (exact Kr.valOf rfl (ldE32 (rowCell hSx.1 rfl)))); (focus ((try simp only [Kr.PT]); first | done | rfl)))
  (refine Kr.tPQ 6 (v := ?_) (a' := ?_) rfl (by kernel_rfl) (fun _ _ _ h => h) (by rfl) (fun _ => ⟨(H.at 2 rfl), trivial⟩) (fun wx => ?_) ?_ ?_; rotate_left 2; (focus (go_simp; first | done | rfl)); (focus ((try simp only [Kr.PT]); first | done | rfl)))
  (refine Kr.tSQ 7 [] (v := .int .u32 ((S.d).toNat : Int)) (a' := ?_) rfl (by kernel_rfl) (fun _ _ _ h => h) (by rfl) ⟨(H.at 2 rfl), trivial⟩ (fun wx hSx => ?_) ?_ ?_; rotate_left 1; (focus (exact Kr.valOf rfl (ldE32 (rowCell hSx.1 rfl)))); (focus ((try simp only [Kr.PT]); first | done | rfl)))
  (refine Kr.tPQ 8 (v := ?_) (a' := ?_) rfl (by kernel_rfl) (fun _ _ _ h => h) (by rfl) (fun _ => ⟨(H.at 2 rfl), trivial⟩) (fun wx => ?_) ?_ ?_; rotate_left 2; (focus (go_simp; first | done | rfl)); (focus ((try simp only [Kr.PT]); first | done | rfl)))
  (refine Kr.tSQ 9 [] (v := .int .u32 ((S.e).toNat : Int)) (a' := ?_) rfl (by kernel_rfl) (fun _ _ _ h => h) (by rfl) ⟨(H.at 2 rfl), trivial⟩ (fun wx hSx => ?_) ?_ ?_; rotate_left 1; (focus (exact Kr.valOf rfl (ldE32 (rowCell hSx.1 rfl)))); (focus ((try simp only [Kr.PT]); first | done | rfl)))
  (refine Kr.tPQ 10 (v := ?_) (a' := ?_) rfl (by kernel_rfl) (fun _ _ _ h => h) (by rfl) (fun _ => ⟨(H.at 2 rfl), trivial⟩) (fun wx => ?_) ?_ ?_; rotate_left 2; (focus (go_simp; first | done | rfl)); (focus ((try simp only [Kr.PT]); first | done | rfl)))
  (refine Kr.tSQ 11 [] (v := .int .u32 ((S.f).toNat : Int)) (a' := ?_) rfl (by kernel_rfl) (fun _ _ _ h => h) (by rfl) ⟨(H.at 2 rfl), trivial⟩ (fun wx hSx => ?_) ?_ ?_; rotate_left 1; (focus (exact Kr.valOf rfl (ldE32 (rowCell hSx.1 rfl)))); (focus ((try simp only [Kr.PT]); first | done | rfl)))
  (refine Kr.tPQ 12 (v := ?_) (a' := ?_) rfl (by kernel_rfl) (fun _ _ _ h => h) (by rfl) (fun _ => ⟨(H.at 2 rfl), trivial⟩) (fun wx => ?_) ?_ ?_; rotate_left 2; (focus (go_simp; first | done | rfl)); (focus ((try simp only [Kr.PT]); first | done | rfl)))
  (refine Kr.tSQ 13 [] (v := .int .u32 ((S.g).toNat : Int)) (a' := ?_) rfl (by kernel_rfl) (fun _ _ _ h => h) (by rfl) ⟨(H.at 2 rfl), trivial⟩ (fun wx hSx => ?_) ?_ ?_; rotate_left 1; (focus (exact Kr.valOf rfl (ldE32 (rowCell hSx.1 rfl)))); (focus ((try simp only [Kr.PT]); first | done | rfl)))
  (refine Kr.tPQ 14 (v := ?_) (a' := ?_) rfl (by kernel_rfl) (fun _ _ _ h => h) (by rfl) (fun _ => ⟨(H.at 2 rfl), trivial⟩) (fun wx => ?_) ?_ ?_; rotate_left 2; (focus (go_simp; first | done | rfl)); (focus ((try simp only [Kr.PT]); first | done | rfl)))
  (refine Kr.tSQ 15 [] (v := .int .u32 ((S.h).toNat : Int)) (a' := ?_) rfl (by kernel_rfl) (fun _ _ _ h => h) (by rfl) ⟨(H.at 2 rfl), trivial⟩ (fun wx hSx => ?_) ?_ ?_; rotate_left 1; (focus (exact Kr.valOf rfl (ldE32 (rowCell hSx.1 rfl)))); (focus ((try simp only [Kr.PT]); first | done | rfl)))
  (refine Kr.tPQ 16 (v := ?_) (a' := ?_) rfl (by kernel_rfl) (fun _ _ _ h => h) (by rfl) (fun _ => ⟨(H.at 2 rfl), trivial⟩) (fun wx => ?_) ?_ ?_; rotate_left 2; (focus (go_simp; first | done | rfl)); (focus ((try simp only [Kr.PT]); first | done | rfl)))
  (refine Kr.tPQ 17 (v := ?_) (a' := ?_) rfl (by kernel_rfl) (fun _ _ _ h => h) (by rfl) (fun _ => ⟨(H.at 2 rfl), trivial⟩) (fun wx => ?_) ?_ ?_; rotate_left 2; (focus (go_simp; first | done | rfl)); (focus ((try simp only [Kr.PT]); first | done | rfl)))
  (refine Kr.tPQ 18 (v := ?_) (a' := ?_) rfl (by kernel_rfl) (fun _ _ _ h => h) (by rfl) (fun _ => ⟨(H.at 2 rfl), trivial⟩) (fun wx => ?_) ?_ ?_; rotate_left 2; (focus (go_simp; first | done | rfl)); (focus ((try simp only [Kr.PT]); first | done | rfl)))
  (refine Kr.tPQ 19 (v := ?_) (a' := ?_) rfl (by kernel_rfl) (fun _ _ _ h => h) (by rfl) (fun _ => ⟨(H.at 2 rfl), trivial⟩) (fun wx => ?_) ?_ ?_; rotate_left 2; (focus (go_simp; first | done | rfl)); (focus ((try simp only [Kr.PT]); first | done | rfl)))
  (refine Kr.tPQ 20 (v := ?_) (a' := ?_) rfl (by kernel_rfl) (fun _ _ _ h => h) (by rfl) (fun _ => ⟨(H.at 2 rfl), trivial⟩) (fun wx => ?_) ?_ ?_; rotate_left 2; (focus (go_simp; first | done | rfl)); (focus ((try simp only [Kr.PT]); first | done | rfl)))
  (refine Kr.tPQ 21 (v := ?_) (a' := ?_) rfl (by kernel_rfl) (fun _ _ _ h => h) (by rfl) (fun _ => ⟨(H.at 2 rfl), trivial⟩) (fun wx => ?_) ?_ ?_; rotate_left 2; (focus (go_simp; first | done | rfl)); (focus ((try simp only [Kr.PT]); first | done | rfl)))
  (refine Kr.tPQ 22 (v := ?_) (a' := ?_) rfl (by kernel_rfl) (fun _ _ _ h => h) (by rfl) (fun _ => ⟨(H.at 2 rfl), trivial⟩) (fun wx => ?_) ?_ ?_; rotate_left 2; (focus (go_simp; first | done | rfl)); (focus ((try simp only [Kr.PT]); first | done | rfl)))
  (refine Kr.tPQ 23 (v := ?_) (a' := ?_) rfl (by kernel_rfl) (fun _ _ _ h => h) (by rfl) (fun _ => ⟨(H.at 2 rfl), trivial⟩) (fun wx => ?_) ?_ ?_; rotate_left 2; (focus (go_simp; first | done | rfl)); (focus ((try simp only [Kr.PT]); first | done | rfl)))
  refine Kr.doneL (by kernel_rfl) ?_ _
  go_upto_region 3 with fail
  refine Kr.seqStartW ?_
  (refine Kr.seqQ (v := .agg (kc.map w32).toArray) (a' := ?_) (by rfl) ?_ ?_ ?_; rotate_left 1; (focus (exact Kr.valOf rfl (loadCon (HCN.out.grow H.g)))); (focus ((try simp only [Kr.PT]); first | done | rfl)))
  (refine Kr.seqQ (v := ?_) (a' := ?_) (by rfl) ?_ ?_ ?_; rotate_left 2; (focus (go_simp; first | done | rfl)); (focus ((try simp only [Kr.PT]); first | done | rfl)))
  refine Kr.seqDoneW ?_
  have H2 := Lib.hid H; clear H
  go_wp2_with fail
  go_loopw [6, 7, 8, 9, 10, 11, 12, 13, 39] (fun s6 s7 s8 s9 s10 s11 s12 s13 i wr => ∃ (t : Nat) (Z : S8), t ≤ 64 ∧ s6 = .int .u32 ((Z.a).toNat : Int) ∧ s7 = .int .u32 ((Z.b).toNat : Int) ∧ s8 = .int .u32 ((Z.c).toNat : Int) ∧ s9 = .int .u32 ((Z.d).toNat : Int) ∧ s10 = .int .u32 ((Z.e).toNat : Int) ∧ s11 = .int .u32 ((Z.f).toNat : Int) ∧ s12 = .int .u32 ((Z.g).toNat : Int) ∧ s13 = .int .u32 ((Z.h).toNat : Int) ∧ i = .int .i64 (t : Int) ∧ Hid (rnds R t S = Z) ∧ Hid (Ow w wr [(bw, 78, R.map w32), (br, 60, List.replicate 8 (Value.int .u32 0)), (bs, 60, S.list.map w32)])) (fun _ _ _ _ _ _ _ _ i _ => 64 - (intOf i).toNat)
  case atStart => exact ⟨0, S, Nat.zero_le _, rfl, rfl, rfl, rfl, rfl, rfl, rfl, rfl, rfl, Lib.hid rfl, H2⟩
  case round =>
    clear H2; obtain ⟨t, Z, ht, rfl, rfl, rfl, rfl, rfl, rfl, rfl, rfl, rfl, HZ, HH⟩ := hrel; have H := HH.out; clear HH
    by_cases hte : t = 64
    · have HC : decide ((t : Int) < 64) = false := decide_eq_false (by omega)
      have HZ2 : Hid (rnds R 64 S = Z) := Lib.hid (by rw [← hte]; exact HZ.out); clear hte HZ
      have HE : Hid (S.add Z = RES) := Lib.hid (by rw [← HRES.out, comp, HR.out, HZ2.out]); clear HZ2 ht
      go_upto_region 4 with fail
      refine Kr.seqStartW ?_
      (refine Kr.seqQ (v := .bool false) (a' := ?_) (by rfl) ?_ ?_ ?_; rotate_left 1; (focus (exact Kr.valOf rfl (lssT HC))); (focus ((try simp only [Kr.PT]); first | done | rfl)))
      refine Kr.seqDoneW ?_
      go_upto_region 10 with fail
      refine Kr.seqStartW ?_
      (refine Kr.seqQ (v := ?_) (a' := ?_) (by rfl) ?_ ?_ ?_; rotate_left 2; (focus (go_simp; first | done | rfl)); (focus ((try simp only [Kr.PT]); first | done | rfl)))
      (refine Kr.seqQ (v := ?_) (a' := ?_) (by rfl) ?_ ?_ ?_; rotate_left 2; (focus (go_simp; first | done | rfl)); (focus ((try simp only [Kr.PT]); first | done | rfl)))
      (refine Kr.seqQ (v := ?_) (a' := ?_) (by rfl) ?_ ?_ ?_; rotate_left 2; (focus (go_simp; first | done | rfl)); (focus ((try simp only [Kr.PT]); first | done | rfl)))
      (refine Kr.seqQ (v := ?_) (a' := ?_) (by rfl) ?_ ?_ ?_; rotate_left 2; (focus (go_simp; first | done | rfl)); (focus ((try simp only [Kr.PT]); first | done | rfl)))
      (refine Kr.seqQ (v := ?_) (a' := ?_) (by rfl) ?_ ?_ ?_; rotate_left 2; (focus (go_simp; first | done | rfl)); (focus ((try simp only [Kr.PT]); first | done | rfl)))
      (refine Kr.seqQ (v := ?_) (a' := ?_) (by rfl) ?_ ?_ ?_; rotate_left 2; (focus (go_simp; first | done | rfl)); (focus ((try simp only [Kr.PT]); first | done | rfl)))
      (refine Kr.seqQ (v := ?_) (a' := ?_) (by rfl) ?_ ?_ ?_; rotate_left 2; (focus (go_simp; first | done | rfl)); (focus ((try simp only [Kr.PT]); first | done | rfl)))
      (refine Kr.seqQ (v := ?_) (a' := ?_) (by rfl) ?_ ?_ ?_; rotate_left 2; (focus (go_simp; first | done | rfl)); (focus ((try simp only [Kr.PT]); first | done | rfl)))
      (refine Kr.seqQ (v := .agg (Z.list.map w32).toArray) (a' := ?_) (by rfl) ?_ ?_ ?_; rotate_left 1; (focus (go_simp; first | done | rfl)); (focus ((try simp only [Kr.PT]); first | done | rfl)))
      (refine Kr.seqQ (v := ?_) (a' := ?_) (by rfl) ?_ ?_ ?_; rotate_left 2; (focus (go_simp; first | done | rfl)); (focus ((try simp only [Kr.PT]); first | done | rfl)))
      refine Kr.seqDoneW ?_
      rw [← mix_zero S Z.list] at H
      have H2 := Lib.hid H; clear H HC
      go_wp2_with fail
      go_loopw [110] (fun iv wr => ∃ i : Nat, i ≤ 8 ∧ iv = .int .i64 (i : Int) ∧ Hid (Ow w wr [(bw, 78, R.map w32), (br, 60, List.replicate 8 (Value.int .u32 0)), (bs, 60, (mix i S.list Z.list).map w32)])) (fun iv _ => 8 - (intOf iv).toNat)
      case atStart => exact ⟨0, Nat.zero_le _, rfl, H2⟩
      case round =>
        clear H2; obtain ⟨i, hi, rfl, HH⟩ := hrel; have H := HH.out; clear HH
        by_cases hie : i = 8
        · have HC : decide ((i : Int) < 8) = false := decide_eq_false (by omega)
          rw [hie, mix_full, HE.out] at H; clear hie hi
          go_upto_region 11 with fail
          refine Kr.seqStartW ?_
          (refine Kr.seqQ (v := .bool false) (a' := ?_) (by rfl) ?_ ?_ ?_; rotate_left 1; (focus (exact Kr.valOf rfl (lssT HC))); (focus ((try simp only [Kr.PT]); first | done | rfl)))
          refine Kr.seqDoneW ?_
          go_upto_region 15 with fail
          refine Kr.seqStartW ?_
          (refine Kr.seqQ (v := .agg (RES.list.map w32).toArray) (a' := ?_) (by rfl) ?_ ?_ ?_; rotate_left 1; (focus (exact Kr.valOf rfl (ldA8 (H.at 2 rfl) rfl))); (focus ((try simp only [Kr.PT]); first | done | rfl)))
          refine Kr.seqR (by rfl) (fun K hK => ?_)
          refine wp_run rfl (stA8 (H.at 1 rfl) (by simp) rfl (oneCell_words _)) ?_
          obtain ⟨y7, hy⟩ : ∃ y, wr.setRow br (RES.list.map w32).toArray = y := ⟨_, rfl⟩
          rw [hy]
          replace H := H.put 1 hy rfl
          dsimp only [List.set] at H
          clear hy
          (refine Kr.outS hK (a' := ?_) ?_ ?_; rotate_left; (focus ((try simp only [Kr.PT]); first | done | rfl))); clear hK K
          refine Kr.seqDoneW ?_
          go_wp2
          refine bodyPost_ret (v := .agg (RES.list.map w32).toArray) (results_cell_row rfl _ _ br 60 _ _ _ (by rfl) (H.at 1 rfl) Tryd.underlying60 rfl (by rw [List.size_toArray, (show (RES.list.map w32).length = 8 from rfl)]; exact infoA8)) rfl ⟨rfl, H.g⟩
        · have hil : i < 8 := by omega
          have HC : decide ((i : Int) < 8) = true := decide_eq_true (by omega)
          obtain ⟨x0, hx0⟩ : ∃ x, Z.list.getD i 0 = x := ⟨_, rfl⟩
          obtain ⟨y0, hy0⟩ : ∃ x, S.list.getD i 0 = x := ⟨_, rfl⟩
          have hgx : Z.list[i]? = some x0 := hx0 ▸ getD_of hil
          have hgy : (mix i S.list Z.list)[i]? = some y0 := hy0 ▸ mix_get hil
          obtain ⟨z0, hz0⟩ : ∃ z, y0 + x0 = z := ⟨_, rfl⟩
          have hset : ((mix i S.list Z.list).map w32).set i (.int .u32 (z0.toNat : Int)) = (mix (i + 1) S.list Z.list).map w32 := by rw [map_set32, ← hz0, ← hx0, ← hy0, mix_set hil]
          go_upto_region 11 with fail
          refine Kr.seqStartW ?_
          (refine Kr.seqQ (v := .bool true) (a' := ?_) (by rfl) ?_ ?_ ?_; rotate_left 1; (focus (exact Kr.valOf rfl (lssT HC))); (focus ((try simp only [Kr.PT]); first | done | rfl)))
          refine Kr.seqDoneW ?_
          go_upto_region 12 with fail
          refine Kr.seqStartW ?_
          (refine Kr.seqQ (v := ?_) (a' := ?_) (by rfl) ?_ ?_ ?_; rotate_left 2; (focus (go_simp; first | done | rfl)); (focus ((try simp only [Kr.PT]); first | done | rfl)))
          (refine Kr.seqQ (v := .int .u32 ((x0).toNat : Int)) (a' := ?_) (by rfl) ?_ ?_ ?_; rotate_left 1; (focus (exact Kr.valOf rfl (atA8 (l := Z.list.map w32) rfl (map_get32 hgx)))); (focus ((try simp only [Kr.PT]); first | done | rfl)))
          (refine Kr.seqQ (v := ?_) (a' := ?_) (by rfl) ?_ ?_ ?_; rotate_left 2; (focus (go_simp; first | done | rfl)); (focus ((try simp only [Kr.PT]); first | done | rfl)))
          (refine Kr.seqQ (v := ?_) (a' := ?_) (by rfl) ?_ ?_ ?_; rotate_left 2; (focus (go_simp; first | done | rfl)); (focus ((try simp only [Kr.PT]); first | done | rfl)))
          refine Kr.seqDoneW ?_
          go_upto_region 13 with fail
          refine Kr.seqStartW ?_
          (refine Kr.seqQ (v := ?_) (a' := ?_) (by rfl) ?_ ?_ ?_; rotate_left 2; (focus (go_simp; first | done | rfl)); (focus ((try simp only [Kr.PT]); first | done | rfl)))
          (refine Kr.seqQ (v := .pointer (some ⟨bs, i, none⟩)) (a' := ?_) (by rfl) ?_ ?_ ?_; rotate_left 1; (focus (exact Kr.valOf rfl (ixA8 hil))); (focus ((try simp only [Kr.PT]); first | done | rfl)))
          (refine Kr.seqQ (v := .int .u32 ((y0).toNat : Int)) (a' := ?_) (by rfl) ?_ ?_ ?_; rotate_left 1; (focus (exact Kr.valOf rfl (ldE32 (rowCell (H.at 2 rfl) (map_get32 hgy))))); (focus ((try simp only [Kr.PT]); first | done | rfl)))
          (refine Kr.seqQ (v := ?_) (a' := ?_) (by rfl) ?_ ?_ ?_; rotate_left 2; (focus (go_simp; first | done | rfl)); (focus ((try simp only [Kr.PT]); first | done | rfl)))
          (refine Kr.seqQ (v := .int .u32 ((z0).toNat : Int)) (a' := ?_) (by rfl) ?_ ?_ ?_; rotate_left 1; (focus (exact Kr.valOf rfl ((by rw [← hz0]; exact addW)))); (focus ((try simp only [Kr.PT]); first | done | rfl)))
          (refine Kr.seqQ (v := .pointer (some ⟨bs, i, none⟩)) (a' := ?_) (by rfl) ?_ ?_ ?_; rotate_left 1; (focus (exact Kr.valOf rfl (ixA8 hil))); (focus ((try simp only [Kr.PT]); first | done | rfl)))
          refine Kr.seqR (by rfl) (fun K hK => ?_)
          refine wp_run rfl (stE32 (H.cell 2 rfl (map_get32 hgy)) (H.frozen 2 rfl i)) ?_
          obtain ⟨y8, hy⟩ : ∃ y, wr.setCell ⟨bs, i, none⟩ (.int .u32 ((z0).toNat : Int)) = y := ⟨_, rfl⟩
          rw [hy]
          replace H := H.set 2 (i) hy rfl
          dsimp only [List.set] at H
          clear hy
          rw [hset] at H
          (refine Kr.outS hK (a' := ?_) ?_ ?_; rotate_left; (focus ((try simp only [Kr.PT]); first | done | rfl))); clear hK K
          refine Kr.seqDoneW ?_
          have HADD : IntKind.i64.wrap ((i : Int) + 1) = ((i + 1 : Nat) : Int) := wrap_nat (by omega) (by omega)
          go_upto_region 14 with fail
          refine Kr.seqStartW ?_
          (refine Kr.seqQ (v := .int .i64 ((i + 1 : Nat) : Int)) (a' := ?_) (by rfl) ?_ ?_ ?_; rotate_left 1; (focus (exact Kr.valOf rfl (addI HADD))); (focus ((try simp only [Kr.PT]); first | done | rfl)))
          (refine Kr.seqQ (v := ?_) (a' := ?_) (by rfl) ?_ ?_ ?_; rotate_left 2; (focus (go_simp; first | done | rfl)); (focus ((try simp only [Kr.PT]); first | done | rfl)))
          refine Kr.seqDoneW ?_
          go_wp2; go_roundw
          case rel => exact ⟨i + 1, by omega, rfl, Lib.hid H⟩
          case measure => simp [intOf]; omega
    · have htl : t < 64 := by omega
      have HC : decide ((t : Int) < 64) = true := decide_eq_true (by omega)
      obtain ⟨k0, hk0⟩ : ∃ x, kc.getD t 0 = x := ⟨_, rfl⟩
      have hgk : kc[t]? = some k0 := hk0 ▸ getD_of (show t < kc.length from htl)
      obtain ⟨x0, hx0⟩ : ∃ x, R.getD t 0 = x := ⟨_, rfl⟩
      have hgx : R[t]? = some x0 := hx0 ▸ getD_of (by rw [hRl]; exact htl)
      go_upto_region 4 with fail
      refine Kr.seqStartW ?_
      (refine Kr.seqQ (v := .bool true) (a' := ?_) (by rfl) ?_ ?_ ?_; rotate_left 1; (focus (exact Kr.valOf rfl (lssT HC))); (focus ((try simp only [Kr.PT]); first | done | rfl)))
      refine Kr.seqDoneW ?_
      go_upto_region 5 with fail
      refine Kr.seqStartW ?_
      (refine Kr.seqQ (v := ?_) (a' := ?_) (by rfl) ?_ ?_ ?_; rotate_left 2; (focus (go_simp; first | done | rfl)); (focus ((try simp only [Kr.PT]); first | done | rfl)))
      (refine Kr.seqQ (v := .int .u32 ((k0).toNat : Int)) (a' := ?_) (by rfl) ?_ ?_ ?_; rotate_left 1; (focus (exact Kr.valOf rfl (atA64 (l := kc.map w32) rfl (map_get32 hgk)))); (focus ((try simp only [Kr.PT]); first | done | rfl)))
      (refine Kr.seqQ (v := ?_) (a' := ?_) (by rfl) ?_ ?_ ?_; rotate_left 2; (focus (go_simp; first | done | rfl)); (focus ((try simp only [Kr.PT]); first | done | rfl)))
      (refine Kr.seqQ (v := ?_) (a' := ?_) (by rfl) ?_ ?_ ?_; rotate_left 2; (focus (go_simp; first | done | rfl)); (focus ((try simp only [Kr.PT]); first | done | rfl)))
      refine Kr.seqDoneW ?_
      obtain ⟨r6, hr6⟩ : ∃ z, rr Z.e 6 = z := ⟨_, rfl⟩
      obtain ⟨r11, hr11⟩ : ∃ z, rr Z.e 11 = z := ⟨_, rfl⟩
      obtain ⟨p1, hp1⟩ : ∃ z, r6 ^^^ r11 = z := ⟨_, rfl⟩
      obtain ⟨r25, hr25⟩ : ∃ z, rr Z.e 25 = z := ⟨_, rfl⟩
      obtain ⟨p2, hp2⟩ : ∃ z, p1 ^^^ r25 = z := ⟨_, rfl⟩
      obtain ⟨p3, hp3⟩ : ∃ z, Z.h + p2 = z := ⟨_, rfl⟩
      obtain ⟨m1, hm1⟩ : ∃ z, Z.e &&& Z.f = z := ⟨_, rfl⟩
      obtain ⟨n1, hn1⟩ : ∃ z, ~~~Z.e = z := ⟨_, rfl⟩
      obtain ⟨m2, hm2⟩ : ∃ z, n1 &&& Z.g = z := ⟨_, rfl⟩
      obtain ⟨m3, hm3⟩ : ∃ z, m1 ^^^ m2 = z := ⟨_, rfl⟩
      obtain ⟨p4, hp4⟩ : ∃ z, p3 + m3 = z := ⟨_, rfl⟩
      obtain ⟨p5, hp5⟩ : ∃ z, p4 + k0 = z := ⟨_, rfl⟩
      obtain ⟨p6, hp6⟩ : ∃ z, p5 + x0 = z := ⟨_, rfl⟩
      obtain ⟨r2, hr2⟩ : ∃ z, rr Z.a 2 = z := ⟨_, rfl⟩
      obtain ⟨r13, hr13⟩ : ∃ z, rr Z.a 13 = z := ⟨_, rfl⟩
      obtain ⟨q1, hq1⟩ : ∃ z, r2 ^^^ r13 = z := ⟨_, rfl⟩
      obtain ⟨r22, hr22⟩ : ∃ z, rr Z.a 22 = z := ⟨_, rfl⟩
      obtain ⟨q2, hq2⟩ : ∃ z, q1 ^^^ r22 = z := ⟨_, rfl⟩
      obtain ⟨n2, hn2⟩ : ∃ z, Z.a &&& Z.b = z := ⟨_, rfl⟩
      obtain ⟨n3, hn3⟩ : ∃ z, Z.a &&& Z.c = z := ⟨_, rfl⟩
      obtain ⟨n4, hn4⟩ : ∃ z, n2 ^^^ n3 = z := ⟨_, rfl⟩
      obtain ⟨n5, hn5⟩ : ∃ z, Z.b &&& Z.c = z := ⟨_, rfl⟩
      obtain ⟨n6, hn6⟩ : ∃ z, n4 ^^^ n5 = z := ⟨_, rfl⟩
      obtain ⟨U, hU⟩ : ∃ z, q2 + n6 = z := ⟨_, rfl⟩
      obtain ⟨e1, he1⟩ : ∃ z, Z.d + p6 = z := ⟨_, rfl⟩
      obtain ⟨a1, ha1⟩ : ∃ z, p6 + U = z := ⟨_, rfl⟩
      have hT1 : T1 Z k0 x0 = p6 := by unfold T1; rw [hr6, hr11, hr25, hp1, hp2, hp3, hm1, hn1, hm2, hm3, hp4, hp5, hp6]
      have hT2 : T2 Z = U := by unfold T2; rw [hr2, hr13, hr22, hq1, hq2, hn2, hn3, hn4, hn5, hn6, hU]
      have HN : Hid (rnds R (t + 1) S = ⟨a1, Z.a, Z.b, Z.c, e1, Z.e, Z.f, Z.g⟩) := Lib.hid (by rw [rnds, HZ.out, hk0, hx0, rnd, hT1, hT2, ha1, he1])
      go_upto_region 6 with fail
      refine Kr.startL (fun W' => (W'.heap[bw]? = some (.cells (R.map w32).toArray 78 (0, 0))) ∧ True) [] (by kernel_rfl) ?_
      have gd : Gr wr wr.drew := (Gr.refl _).drew
      generalize wr.drew = d9 at gd ⊢
      replace H := H.grow gd
      clear gd
      (refine Kr.tPQ 0 (v := ?_) (a' := ?_) rfl (by kernel_rfl) (fun _ _ _ h => h) (by rfl) (fun _ => ⟨(H.at 0 rfl), trivial⟩) (fun wx => ?_) ?_ ?_; rotate_left 2; (focus (go_simp; first | done | rfl)); (focus ((try simp only [Kr.PT]); first | done | rfl)))
      (refine Kr.tPQ 1 (v := ?_) (a' := ?_) rfl (by kernel_rfl) (fun _ _ _ h => h) (by rfl) (fun _ => ⟨(H.at 0 rfl), trivial⟩) (fun wx => ?_) ?_ ?_; rotate_left 2; (focus (go_simp; first | done | rfl)); (focus ((try simp only [Kr.PT]); first | done | rfl)))
      (refine Kr.tPQ 3 (v := ?_) (a' := ?_) rfl (by kernel_rfl) (fun _ _ _ h => h) (by rfl) (fun _ => ⟨(H.at 0 rfl), trivial⟩) (fun wx => ?_) ?_ ?_; rotate_left 2; (focus (go_simp; first | done | rfl)); (focus ((try simp only [Kr.PT]); first | done | rfl)))
      (refine Kr.tPQ 6 (v := ?_) (a' := ?_) rfl (by kernel_rfl) (fun _ _ _ h => h) (by rfl) (fun _ => ⟨(H.at 0 rfl), trivial⟩) (fun wx => ?_) ?_ ?_; rotate_left 2; (focus (go_simp; first | done | rfl)); (focus ((try simp only [Kr.PT]); first | done | rfl)))
      (refine Kr.tPQ 10 (v := ?_) (a' := ?_) rfl (by kernel_rfl) (fun _ _ _ h => h) (by rfl) (fun _ => ⟨(H.at 0 rfl), trivial⟩) (fun wx => ?_) ?_ ?_; rotate_left 2; (focus (go_simp; first | done | rfl)); (focus ((try simp only [Kr.PT]); first | done | rfl)))
      (refine Kr.tPQ 11 (v := ?_) (a' := ?_) rfl (by kernel_rfl) (fun _ _ _ h => h) (by rfl) (fun _ => ⟨(H.at 0 rfl), trivial⟩) (fun wx => ?_) ?_ ?_; rotate_left 2; (focus (go_simp; first | done | rfl)); (focus ((try simp only [Kr.PT]); first | done | rfl)))
      (refine Kr.tPQ 12 (v := .int .u32 ((m1).toNat : Int)) (a' := ?_) rfl (by kernel_rfl) (fun _ _ _ h => h) (by rfl) (fun _ => ⟨(H.at 0 rfl), trivial⟩) (fun wx => ?_) ?_ ?_; rotate_left 1; (focus (exact Kr.valOf rfl ((by rw [← hm1]; exact andW)))); (focus ((try simp only [Kr.PT]); first | done | rfl)))
      (refine Kr.tPQ 13 (v := ?_) (a' := ?_) rfl (by kernel_rfl) (fun _ _ _ h => h) (by rfl) (fun _ => ⟨(H.at 0 rfl), trivial⟩) (fun wx => ?_) ?_ ?_; rotate_left 2; (focus (go_simp; first | done | rfl)); (focus ((try simp only [Kr.PT]); first | done | rfl)))
      (refine Kr.tPQ 14 (v := .int .u32 ((n1).toNat : Int)) (a' := ?_) rfl (by kernel_rfl) (fun _ _ _ h => h) (by rfl) (fun _ => ⟨(H.at 0 rfl), trivial⟩) (fun wx => ?_) ?_ ?_; rotate_left 1; (focus (exact Kr.valOf rfl ((by rw [← hn1]; exact notW)))); (focus ((try simp only [Kr.PT]); first | done | rfl)))
      (refine Kr.tPQ 15 (v := ?_) (a' := ?_) rfl (by kernel_rfl) (fun _ _ _ h => h) (by rfl) (fun _ => ⟨(H.at 0 rfl), trivial⟩) (fun wx => ?_) ?_ ?_; rotate_left 2; (focus (go_simp; first | done | rfl)); (focus ((try simp only [Kr.PT]); first | done | rfl)))
      (refine Kr.tPQ 16 (v := .int .u32 ((m2).toNat : Int)) (a' := ?_) rfl (by kernel_rfl) (fun _ _ _ h => h) (by rfl) (fun _ => ⟨(H.at 0 rfl), trivial⟩) (fun wx => ?_) ?_ ?_; rotate_left 1; (focus (exact Kr.valOf rfl ((by rw [← hm2]; exact andW)))); (focus ((try simp only [Kr.PT]); first | done | rfl)))
      (refine Kr.tPQ 17 (v := .int .u32 ((m3).toNat : Int)) (a' := ?_) rfl (by kernel_rfl) (fun _ _ _ h => h) (by rfl) (fun _ => ⟨(H.at 0 rfl), trivial⟩) (fun wx => ?_) ?_ ?_; rotate_left 1; (focus (exact Kr.valOf rfl ((by rw [← hm3]; exact xorW)))); (focus ((try simp only [Kr.PT]); first | done | rfl)))
      (refine Kr.tPQ 19 (v := ?_) (a' := ?_) rfl (by kernel_rfl) (fun _ _ _ h => h) (by rfl) (fun _ => ⟨(H.at 0 rfl), trivial⟩) (fun wx => ?_) ?_ ?_; rotate_left 2; (focus (go_simp; first | done | rfl)); (focus ((try simp only [Kr.PT]); first | done | rfl)))
      (refine Kr.tPQ 21 (v := ?_) (a' := ?_) rfl (by kernel_rfl) (fun _ _ _ h => h) (by rfl) (fun _ => ⟨(H.at 0 rfl), trivial⟩) (fun wx => ?_) ?_ ?_; rotate_left 2; (focus (go_simp; first | done | rfl)); (focus ((try simp only [Kr.PT]); first | done | rfl)))
      (refine Kr.tPQ 22 (v := .pointer (some ⟨bw, t, none⟩)) (a' := ?_) rfl (by kernel_rfl) (fun _ _ _ h => h) (by rfl) (fun _ => ⟨(H.at 0 rfl), trivial⟩) (fun wx => ?_) ?_ ?_; rotate_left 1; (focus (exact Kr.valOf rfl (ixA64 htl))); (focus ((try simp only [Kr.PT]); first | done | rfl)))
      (refine Kr.tSQ 23 [] (v := .int .u32 ((x0).toNat : Int)) (a' := ?_) rfl (by kernel_rfl) (fun _ _ _ h => h) (by rfl) ⟨(H.at 0 rfl), trivial⟩ (fun wx hSx => ?_) ?_ ?_; rotate_left 1; (focus (exact Kr.valOf rfl (ldE32 (rowCell hSx.1 (map_get32 hgx))))); (focus ((try simp only [Kr.PT]); first | done | rfl)))
      refine Kr.readyL (rs := [2]) (by kernel_rfl) (by simp) ?_
      refine Kr.AllL.cons rfl (fun K hK => ?_) Kr.AllL.nil
      go_simp
      go_at_call 54
      have hP := turn_v (x := Z.e) (n := 6) (w := d9) (by decide) (by decide)
      rw [hr6] at hP
      refine (hP).mono ?_
      rintro e y10 ⟨rfl, hg⟩
      replace H := H.grow hg
      clear hg
      clear hP
      (refine Kr.outL hK (a' := ?_) ?_ (fun _ => ⟨(H.at 0 rfl), trivial⟩) ?_; rotate_left; (focus ((try simp only [Kr.PT]); first | done | rfl))); clear hK K
      refine Kr.readyL (rs := [4]) (by kernel_rfl) (by simp) ?_
      refine Kr.AllL.cons rfl (fun K hK => ?_) Kr.AllL.nil
      go_simp
      go_at_call 54
      have hP := turn_v (x := Z.e) (n := 11) (w := y10) (by decide) (by decide)
      rw [hr11] at hP
      refine (hP).mono ?_
      rintro e y11 ⟨rfl, hg⟩
      replace H := H.grow hg
      clear hg
      clear hP
      (refine Kr.outL hK (a' := ?_) ?_ (fun _ => ⟨(H.at 0 rfl), trivial⟩) ?_; rotate_left; (focus ((try simp only [Kr.PT]); first | done | rfl))); clear hK K
      (refine Kr.tPQ 5 (v := .int .u32 ((p1).toNat : Int)) (a' := ?_) rfl (by kernel_rfl) (fun _ _ _ h => h) (by rfl) (fun _ => ⟨(H.at 0 rfl), trivial⟩) (fun wx => ?_) ?_ ?_; rotate_left 1; (focus (exact Kr.valOf rfl ((by rw [← hp1]; exact xorW)))); (focus ((try simp only [Kr.PT]); first | done | rfl)))
      refine Kr.readyL (rs := [7]) (by kernel_rfl) (by simp) ?_
      refine Kr.AllL.cons rfl (fun K hK => ?_) Kr.AllL.nil
      go_simp
      go_at_call 54
      have hP := turn_v (x := Z.e) (n := 25) (w := y11) (by decide) (by decide)
      rw [hr25] at hP
      refine (hP).mono ?_
      rintro e y12 ⟨rfl, hg⟩
      replace H := H.grow hg
      clear hg
      clear hP
      (refine Kr.outL hK (a' := ?_) ?_ (fun _ => ⟨(H.at 0 rfl), trivial⟩) ?_; rotate_left; (focus ((try simp only [Kr.PT]); first | done | rfl))); clear hK K
      (refine Kr.tPQ 8 (v := .int .u32 ((p2).toNat : Int)) (a' := ?_) rfl (by kernel_rfl) (fun _ _ _ h => h) (by rfl) (fun _ => ⟨(H.at 0 rfl), trivial⟩) (fun wx => ?_) ?_ ?_; rotate_left 1; (focus (exact Kr.valOf rfl ((by rw [← hp2]; exact xorW)))); (focus ((try simp only [Kr.PT]); first | done | rfl)))
      (refine Kr.tPQ 9 (v := .int .u32 ((p3).toNat : Int)) (a' := ?_) rfl (by kernel_rfl) (fun _ _ _ h => h) (by rfl) (fun _ => ⟨(H.at 0 rfl), trivial⟩) (fun wx => ?_) ?_ ?_; rotate_left 1; (focus (exact Kr.valOf rfl ((by rw [← hp3]; exact addW)))); (focus ((try simp only [Kr.PT]); first | done | rfl)))
      (refine Kr.tPQ 18 (v := .int .u32 ((p4).toNat : Int)) (a' := ?_) rfl (by kernel_rfl) (fun _ _ _ h => h) (by rfl) (fun _ => ⟨(H.at 0 rfl), trivial⟩) (fun wx => ?_) ?_ ?_; rotate_left 1; (focus (exact Kr.valOf rfl ((by rw [← hp4]; exact addW)))); (focus ((try simp only [Kr.PT]); first | done | rfl)))
      (refine Kr.tPQ 20 (v := .int .u32 ((p5).toNat : Int)) (a' := ?_) rfl (by kernel_rfl) (fun _ _ _ h => h) (by rfl) (fun _ => ⟨(H.at 0 rfl), trivial⟩) (fun wx => ?_) ?_ ?_; rotate_left 1; (focus (exact Kr.valOf rfl ((by rw [← hp5]; exact addW)))); (focus ((try simp only [Kr.PT]); first | done | rfl)))
      (refine Kr.tPQ 24 (v := .int .u32 ((p6).toNat : Int)) (a' := ?_) rfl (by kernel_rfl) (fun _ _ _ h => h) (by rfl) (fun _ => ⟨(H.at 0 rfl), trivial⟩) (fun wx => ?_) ?_ ?_; rotate_left 1; (focus (exact Kr.valOf rfl ((by rw [← hp6]; exact addW)))); (focus ((try simp only [Kr.PT]); first | done | rfl)))
      (refine Kr.tPQ 25 (v := ?_) (a' := ?_) rfl (by kernel_rfl) (fun _ _ _ h => h) (by rfl) (fun _ => ⟨(H.at 0 rfl), trivial⟩) (fun wx => ?_) ?_ ?_; rotate_left 2; (focus (go_simp; first | done | rfl)); (focus ((try simp only [Kr.PT]); first | done | rfl)))
      refine Kr.doneL (by kernel_rfl) ?_ _
      go_upto_region 7 with fail
      refine Kr.seqStartW ?_
      (refine Kr.seqQ (v := ?_) (a' := ?_) (by rfl) ?_ ?_ ?_; rotate_left 2; (focus (go_simp; first | done | rfl)); (focus ((try simp only [Kr.PT]); first | done | rfl)))
      refine Kr.seqR (by rfl) (fun K hK => ?_)
      go_simp
      go_at_call 54
      have hP := turn_v (x := Z.a) (n := 2) (w := y12) (by decide) (by decide)
      rw [hr2] at hP
      refine (hP).mono ?_
      rintro e y13 ⟨rfl, hg⟩
      replace H := H.grow hg
      clear hg
      clear hP
      (refine Kr.outS hK (a' := ?_) ?_ ?_; rotate_left; (focus ((try simp only [Kr.PT]); first | done | rfl))); clear hK K
      (refine Kr.seqQ (v := ?_) (a' := ?_) (by rfl) ?_ ?_ ?_; rotate_left 2; (focus (go_simp; first | done | rfl)); (focus ((try simp only [Kr.PT]); first | done | rfl)))
      refine Kr.seqR (by rfl) (fun K hK => ?_)
      go_simp
      go_at_call 54
      have hP := turn_v (x := Z.a) (n := 13) (w := y13) (by decide) (by decide)
      rw [hr13] at hP
      refine (hP).mono ?_
      rintro e y14 ⟨rfl, hg⟩
      replace H := H.grow hg
      clear hg
      clear hP
      (refine Kr.outS hK (a' := ?_) ?_ ?_; rotate_left; (focus ((try simp only [Kr.PT]); first | done | rfl))); clear hK K
      (refine Kr.seqQ (v := .int .u32 ((q1).toNat : Int)) (a' := ?_) (by rfl) ?_ ?_ ?_; rotate_left 1; (focus (exact Kr.valOf rfl ((by rw [← hq1]; exact xorW)))); (focus ((try simp only [Kr.PT]); first | done | rfl)))
      (refine Kr.seqQ (v := ?_) (a' := ?_) (by rfl) ?_ ?_ ?_; rotate_left 2; (focus (go_simp; first | done | rfl)); (focus ((try simp only [Kr.PT]); first | done | rfl)))
      refine Kr.seqR (by rfl) (fun K hK => ?_)
      go_simp
      go_at_call 54
      have hP := turn_v (x := Z.a) (n := 22) (w := y14) (by decide) (by decide)
      rw [hr22] at hP
      refine (hP).mono ?_
      rintro e y15 ⟨rfl, hg⟩
      replace H := H.grow hg
      clear hg
      clear hP
      (refine Kr.outS hK (a' := ?_) ?_ ?_; rotate_left; (focus ((try simp only [Kr.PT]); first | done | rfl))); clear hK K
      (refine Kr.seqQ (v := .int .u32 ((q2).toNat : Int)) (a' := ?_) (by rfl) ?_ ?_ ?_; rotate_left 1; (focus (exact Kr.valOf rfl ((by rw [← hq2]; exact xorW)))); (focus ((try simp only [Kr.PT]); first | done | rfl)))
      (refine Kr.seqQ (v := ?_) (a' := ?_) (by rfl) ?_ ?_ ?_; rotate_left 2; (focus (go_simp; first | done | rfl)); (focus ((try simp only [Kr.PT]); first | done | rfl)))
      (refine Kr.seqQ (v := ?_) (a' := ?_) (by rfl) ?_ ?_ ?_; rotate_left 2; (focus (go_simp; first | done | rfl)); (focus ((try simp only [Kr.PT]); first | done | rfl)))
      (refine Kr.seqQ (v := .int .u32 ((n2).toNat : Int)) (a' := ?_) (by rfl) ?_ ?_ ?_; rotate_left 1; (focus (exact Kr.valOf rfl ((by rw [← hn2]; exact andW)))); (focus ((try simp only [Kr.PT]); first | done | rfl)))
      (refine Kr.seqQ (v := ?_) (a' := ?_) (by rfl) ?_ ?_ ?_; rotate_left 2; (focus (go_simp; first | done | rfl)); (focus ((try simp only [Kr.PT]); first | done | rfl)))
      (refine Kr.seqQ (v := ?_) (a' := ?_) (by rfl) ?_ ?_ ?_; rotate_left 2; (focus (go_simp; first | done | rfl)); (focus ((try simp only [Kr.PT]); first | done | rfl)))
      (refine Kr.seqQ (v := .int .u32 ((n3).toNat : Int)) (a' := ?_) (by rfl) ?_ ?_ ?_; rotate_left 1; (focus (exact Kr.valOf rfl ((by rw [← hn3]; exact andW)))); (focus ((try simp only [Kr.PT]); first | done | rfl)))
      (refine Kr.seqQ (v := .int .u32 ((n4).toNat : Int)) (a' := ?_) (by rfl) ?_ ?_ ?_; rotate_left 1; (focus (exact Kr.valOf rfl ((by rw [← hn4]; exact xorW)))); (focus ((try simp only [Kr.PT]); first | done | rfl)))
      (refine Kr.seqQ (v := ?_) (a' := ?_) (by rfl) ?_ ?_ ?_; rotate_left 2; (focus (go_simp; first | done | rfl)); (focus ((try simp only [Kr.PT]); first | done | rfl)))
      (refine Kr.seqQ (v := ?_) (a' := ?_) (by rfl) ?_ ?_ ?_; rotate_left 2; (focus (go_simp; first | done | rfl)); (focus ((try simp only [Kr.PT]); first | done | rfl)))
      (refine Kr.seqQ (v := .int .u32 ((n5).toNat : Int)) (a' := ?_) (by rfl) ?_ ?_ ?_; rotate_left 1; (focus (exact Kr.valOf rfl ((by rw [← hn5]; exact andW)))); (focus ((try simp only [Kr.PT]); first | done | rfl)))
      (refine Kr.seqQ (v := .int .u32 ((n6).toNat : Int)) (a' := ?_) (by rfl) ?_ ?_ ?_; rotate_left 1; (focus (exact Kr.valOf rfl ((by rw [← hn6]; exact xorW)))); (focus ((try simp only [Kr.PT]); first | done | rfl)))
      (refine Kr.seqQ (v := .int .u32 ((U).toNat : Int)) (a' := ?_) (by rfl) ?_ ?_ ?_; rotate_left 1; (focus (exact Kr.valOf rfl ((by rw [← hU]; exact addW)))); (focus ((try simp only [Kr.PT]); first | done | rfl)))
      (refine Kr.seqQ (v := ?_) (a' := ?_) (by rfl) ?_ ?_ ?_; rotate_left 2; (focus (go_simp; first | done | rfl)); (focus ((try simp only [Kr.PT]); first | done | rfl)))
      refine Kr.seqDoneW ?_
      go_upto_region 8 with fail
      refine Kr.seqStartW ?_
      (refine Kr.seqQ (v := ?_) (a' := ?_) (by rfl) ?_ ?_ ?_; rotate_left 2; (focus (go_simp; first | done | rfl)); (focus ((try simp only [Kr.PT]); first | done | rfl)))
      (refine Kr.seqQ (v := ?_) (a' := ?_) (by rfl) ?_ ?_ ?_; rotate_left 2; (focus (go_simp; first | done | rfl)); (focus ((try simp only [Kr.PT]); first | done | rfl)))
      (refine Kr.seqQ (v := ?_) (a' := ?_) (by rfl) ?_ ?_ ?_; rotate_left 2; (focus (go_simp; first | done | rfl)); (focus ((try simp only [Kr.PT]); first | done | rfl)))
      (refine Kr.seqQ (v := ?_) (a' := ?_) (by rfl) ?_ ?_ ?_; rotate_left 2; (focus (go_simp; first | done | rfl)); (focus ((try simp only [Kr.PT]); first | done | rfl)))
      (refine Kr.seqQ (v := ?_) (a' := ?_) (by rfl) ?_ ?_ ?_; rotate_left 2; (focus (go_simp; first | done | rfl)); (focus ((try simp only [Kr.PT]); first | done | rfl)))
      (refine Kr.seqQ (v := .int .u32 ((e1).toNat : Int)) (a' := ?_) (by rfl) ?_ ?_ ?_; rotate_left 1; (focus (exact Kr.valOf rfl ((by rw [← he1]; exact addW)))); (focus ((try simp only [Kr.PT]); first | done | rfl)))
      (refine Kr.seqQ (v := ?_) (a' := ?_) (by rfl) ?_ ?_ ?_; rotate_left 2; (focus (go_simp; first | done | rfl)); (focus ((try simp only [Kr.PT]); first | done | rfl)))
      (refine Kr.seqQ (v := ?_) (a' := ?_) (by rfl) ?_ ?_ ?_; rotate_left 2; (focus (go_simp; first | done | rfl)); (focus ((try simp only [Kr.PT]); first | done | rfl)))
      (refine Kr.seqQ (v := ?_) (a' := ?_) (by rfl) ?_ ?_ ?_; rotate_left 2; (focus (go_simp; first | done | rfl)); (focus ((try simp only [Kr.PT]); first | done | rfl)))
      (refine Kr.seqQ (v := ?_) (a' := ?_) (by rfl) ?_ ?_ ?_; rotate_left 2; (focus (go_simp; first | done | rfl)); (focus ((try simp only [Kr.PT]); first | done | rfl)))
      (refine Kr.seqQ (v := ?_) (a' := ?_) (by rfl) ?_ ?_ ?_; rotate_left 2; (focus (go_simp; first | done | rfl)); (focus ((try simp only [Kr.PT]); first | done | rfl)))
      (refine Kr.seqQ (v := .int .u32 ((a1).toNat : Int)) (a' := ?_) (by rfl) ?_ ?_ ?_; rotate_left 1; (focus (exact Kr.valOf rfl ((by rw [← ha1]; exact addW)))); (focus ((try simp only [Kr.PT]); first | done | rfl)))
      (refine Kr.seqQ (v := ?_) (a' := ?_) (by rfl) ?_ ?_ ?_; rotate_left 2; (focus (go_simp; first | done | rfl)); (focus ((try simp only [Kr.PT]); first | done | rfl)))
      (refine Kr.seqQ (v := ?_) (a' := ?_) (by rfl) ?_ ?_ ?_; rotate_left 2; (focus (go_simp; first | done | rfl)); (focus ((try simp only [Kr.PT]); first | done | rfl)))
      (refine Kr.seqQ (v := ?_) (a' := ?_) (by rfl) ?_ ?_ ?_; rotate_left 2; (focus (go_simp; first | done | rfl)); (focus ((try simp only [Kr.PT]); first | done | rfl)))
      (refine Kr.seqQ (v := ?_) (a' := ?_) (by rfl) ?_ ?_ ?_; rotate_left 2; (focus (go_simp; first | done | rfl)); (focus ((try simp only [Kr.PT]); first | done | rfl)))
      (refine Kr.seqQ (v := ?_) (a' := ?_) (by rfl) ?_ ?_ ?_; rotate_left 2; (focus (go_simp; first | done | rfl)); (focus ((try simp only [Kr.PT]); first | done | rfl)))
      (refine Kr.seqQ (v := ?_) (a' := ?_) (by rfl) ?_ ?_ ?_; rotate_left 2; (focus (go_simp; first | done | rfl)); (focus ((try simp only [Kr.PT]); first | done | rfl)))
      (refine Kr.seqQ (v := ?_) (a' := ?_) (by rfl) ?_ ?_ ?_; rotate_left 2; (focus (go_simp; first | done | rfl)); (focus ((try simp only [Kr.PT]); first | done | rfl)))
      (refine Kr.seqQ (v := ?_) (a' := ?_) (by rfl) ?_ ?_ ?_; rotate_left 2; (focus (go_simp; first | done | rfl)); (focus ((try simp only [Kr.PT]); first | done | rfl)))
      refine Kr.seqDoneW ?_
      have HADD : IntKind.i64.wrap ((t : Int) + 1) = ((t + 1 : Nat) : Int) := wrap_nat (by omega) (by omega)
      go_upto_region 9 with fail
      refine Kr.seqStartW ?_
      (refine Kr.seqQ (v := .int .i64 ((t + 1 : Nat) : Int)) (a' := ?_) (by rfl) ?_ ?_ ?_; rotate_left 1; (focus (exact Kr.valOf rfl (addI HADD))); (focus ((try simp only [Kr.PT]); first | done | rfl)))
      (refine Kr.seqQ (v := ?_) (a' := ?_) (by rfl) ?_ ?_ ?_; rotate_left 2; (focus (go_simp; first | done | rfl)); (focus ((try simp only [Kr.PT]); first | done | rfl)))
      refine Kr.seqDoneW ?_
      go_wp2; go_roundw
      case rel => exact ⟨t + 1, ⟨a1, Z.a, Z.b, Z.c, e1, Z.e, Z.f, Z.g⟩, by omega, rfl, rfl, rfl, rfl, rfl, rfl, rfl, rfl, rfl, HN, Lib.hid H⟩
      case measure => simp [intOf]; omega
end Go.Proofs.YtilbojcghladjaaDoor.Dg


/- Eight bytes of a number. -/
namespace Go.Proofs.YtilbojcghladjaaDoor.Dg
open Go Go.RowKit Go.Proofs.YtilbojcghladjaaDoor.Ne Go.Proofs.YtilbojcghladjaaDoor.Kr

theorem ixB0 {w : World} {b n c j : Nat} (h : j < n) : (Instr.indexAt 22 (.slice (some ⟨b, 0, none⟩) n c) (.int .i64 (j : Int))).run Tryd.prog w = .ok (.pointer (some ⟨b, j, none⟩)) w := by
  rw [ixB h, Nat.zero_add]
theorem info8 : (Tryd.prog.info? 5).map (fun i => (i.zero, i.size, i.bytes)) = some (some (.int .u8 0), 1, 1) := by kernel_rfl
theorem size8 : (Tryd.prog.info? 5).map (·.size) = some 1 := by kernel_rfl
theorem info_parts {P : Program} {T : TypeId} {z : Value} {a b : Nat} (h : (P.info? T).map (fun i => (i.zero, i.size, i.bytes)) = some (some z, a, b)) : ∃ i, P.info? T = some i ∧ i.zero = some z ∧ i.size = a ∧ i.bytes = b := by
  cases hq : P.info? T with
  | none => rw [hq] at h; cases h
  | some i =>
    rw [hq] at h
    simp only [Option.map_some, Option.some.injEq, Prod.mk.injEq] at h
    exact ⟨i, rfl, h.1, h.2.1, h.2.2⟩
/-- Bytes in a row of N that is not full. -/
def padN (N : Nat) (l : List (BitVec 8)) : List Value := l.map w8 ++ List.replicate (N - l.length) (.int .u8 0)
theorem padN_nil (N : Nat) : padN N [] = List.replicate N (.int .u8 0) := rfl
theorem padN_length {N : Nat} {l : List (BitVec 8)} (h : l.length ≤ N) : (padN N l).length = N := by
  unfold padN; rw [List.length_append, List.length_map, List.length_replicate]; omega
theorem padN_full {N : Nat} {l : List (BitVec 8)} (h : l.length = N) : padN N l = l.map w8 := by
  unfold padN; rw [h]; simp
theorem padN_any {N : Nat} {l : List (BitVec 8)} {j : Nat} (hl : l.length ≤ N) (h : j < N) : ∃ v, (padN N l)[j]? = some v := ⟨_, List.getElem?_eq_getElem (by rw [padN_length hl]; exact h)⟩
theorem padN_set {N : Nat} {l : List (BitVec 8)} {t : Nat} (h : l.length = t) (ht : t < N) (x : BitVec 8) : (padN N l).set t (.int .u8 (x.toNat : Int)) = padN N (l ++ [x]) := by
  subst h
  unfold padN
  rw [List.set_append_right _ _ (by rw [List.length_map]; exact Nat.le_refl _), List.length_map, Nat.sub_self, List.map_append, List.append_assoc, List.length_append]
  congr 1
  obtain ⟨k, hk⟩ : ∃ k, N - l.length = k + 1 := ⟨N - l.length - 1, by omega⟩
  rw [hk, show N - (l.length + [x].length) = k by show N - (l.length + 1) = k; omega]
  rfl
theorem map_get8 {l : List (BitVec 8)} {i : Nat} {x : BitVec 8} (h : l[i]? = some x) : (l.map w8)[i]? = some (.int .u8 (x.toNat : Int)) := by
  rw [List.getElem?_map, h]; rfl
theorem oneCell_bytes (l : List (BitVec 8)) : ∀ v ∈ l.map w8, v.oneCell' = true := by
  intro v hv
  obtain ⟨x, _, rfl⟩ := List.mem_map.1 hv
  rfl
theorem bytesAt_row {W : World} {b : Nat} {T : TypeId} {l : List (BitVec 8)} {fr : Nat × Nat} (h : W.heap[b]? = some (.cells (l.map w8).toArray T fr)) : BytesAt b 0 l W := fun j x e => by
  rw [Nat.zero_add, cell_of_row W b j _ _ _ h]
  have h2 : (l.map w8)[j]? = some (w8 x) := map_get8 e
  simpa using h2
/-- A number in eight bytes. -/
def byteOf (n i : Nat) : BitVec 8 := BitVec.ofNat 8 (n / 2 ^ (8 * (7 - i)))
def be8 (n : Nat) : List (BitVec 8) := (List.range 8).map (byteOf n)
theorem be8_length (n : Nat) : (be8 n).length = 8 := by simp [be8]
theorem be8_take (n : Nat) {i : Nat} (h : i < 8) : (be8 n).take (i + 1) = (be8 n).take i ++ [byteOf n i] := by
  rw [List.take_add_one]
  congr 1
  simp [be8, h]
theorem mk8 {w : World} {n : Nat} (hn : n ≤ 1000000) : (Instr.makeSlice 22 (.int .i64 (n : Int)) (.int .i64 (n : Int))).run Tryd.prog w = .ok (.slice (some ⟨w.heap.size, 0, none⟩) n n) (w.alloc (.cells (List.replicate n (Value.int .u8 0)).toArray 5)) := by
  obtain ⟨i0, hi, hz0, hz1, hz2⟩ := info_parts info8
  have hr := run_make (P := Tryd.prog) w 22 5 i0 (.int .u8 0) Tryd.underlying22 hi hz0 .i64 .i64 n n (by omega) (by omega) (by rw [hz2]; omega) (by omega)
  have hm : madeCells (Value.cells (.int .u8 0)) (n * 1) = (List.replicate n (Value.int .u8 0)).toArray := by
    apply Array.ext
    · simp [madeCells]
    · intro i h1 h2
      simp [madeCells, Value.cells, Nat.mod_one]
  rw [hz1, Int.toNat_natCast, hm] at hr
  exact hr
theorem shrI {w : World} {x k q : Nat} (hk : k < 64) (hq : x / 2 ^ k = q) : (binOp .shr 3 (.int .i64 (x : Int)) (.int .i64 (k : Int))).run Tryd.prog w = .ok (.int .i64 (q : Int)) w := by
  have h1 : (x : Int) / 2 ^ k = (q : Int) := by rw [← hq]; simp
  have h2 : (x : Int) / (2 ^ k : Nat) = (q : Int) := by rw [← hq]; simp
  have hk0 : ¬ (k : Int) < 0 := by omega
  have hk1 : ¬ 64 ≤ k := by omega
  clear hq hk
  go_simp
  first | done | assumption
theorem convI8 {w : World} {q : Nat} {z : BitVec 8} (h : BitVec.ofNat 8 q = z) : (convert 3 5 (.int .i64 (q : Int))).run Tryd.prog w = .ok (.int .u8 (z.toNat : Int)) w := by
  have e : IntKind.u8.wrap (q : Int) = (z.toNat : Int) := by
    rw [IntKind.wrap_u8', ← h, BitVec.toNat_ofNat]; simp
  clear h
  go_simp
  first | done | exact e
set_option linter.unusedSimpArgs false in
set_option maxRecDepth 100000 in
set_option maxHeartbeats 16000000 in
theorem eight_v {n : Nat} {w : World} :
    Calls Tryd.prog 40 #[.int .i64 (n : Int)] w fun e w' => ∃ b, e = .returned (.slice (some ⟨b, 0, none⟩) 8 8) ∧ BytesAt b 0 (be8 n) w' ∧ Gr w w' := by
  obtain ⟨R, hR⟩ : ∃ R, be8 n = R := ⟨_, rfl⟩
  rw [hR]; have HR := Lib.hid hR; clear hR
  have H := Ow.start w
  go_enter Tryd.func40, Tryd.ntmps40
  go_upto_region 0 with fail
  refine Kr.seqStartW ?_
  (refine Kr.seqQ (v := ?_) (a' := ?_) (by rfl) ?_ ?_ ?_; rotate_left 2; (focus (go_simp; first | done | rfl)); (focus ((try simp only [Kr.PT]); first | done | rfl)))
  refine Kr.seqDoneW ?_
  go_upto_region 1 with fail
  refine Kr.seqStartW ?_
  refine Kr.seqR (by rfl) (fun K hK => ?_)
  refine wp_runV rfl (mk8 (n := 8) (by decide)) ?_
  obtain ⟨y1, hy⟩ : ∃ y, w.alloc (.cells (List.replicate 8 (Value.int .u8 0)).toArray 5) = y := ⟨_, rfl⟩
  obtain ⟨be, hb⟩ : ∃ b, w.heap.size = b := ⟨_, rfl⟩
  rw [hy, hb]
  replace H := H.alloc hy hb; clear hy hb
  (refine Kr.outS hK (a' := ?_) ?_ ?_; rotate_left; (focus ((try simp only [Kr.PT]); first | done | rfl))); clear hK K
  (refine Kr.seqQ (v := ?_) (a' := ?_) (by rfl) ?_ ?_ ?_; rotate_left 2; (focus (go_simp; first | done | rfl)); (focus ((try simp only [Kr.PT]); first | done | rfl)))
  refine Kr.seqDoneW ?_
  go_upto_region 2 with fail
  refine Kr.seqStartW ?_
  (refine Kr.seqQ (v := ?_) (a' := ?_) (by rfl) ?_ ?_ ?_; rotate_left 2; (focus (go_simp; first | done | rfl)); (focus ((try simp only [Kr.PT]); first | done | rfl)))
  (refine Kr.seqQ (v := ?_) (a' := ?_) (by rfl) ?_ ?_ ?_; rotate_left 2; (focus (go_simp; first | done | rfl)); (focus ((try simp only [Kr.PT]); first | done | rfl)))
  (refine Kr.seqQ (v := ?_) (a' := ?_) (by rfl) ?_ ?_ ?_; rotate_left 2; (focus (go_simp; first | done | rfl)); (focus ((try simp only [Kr.PT]); first | done | rfl)))
  refine Kr.seqDoneW ?_
  rw [← padN_nil] at H
  have H2 := Lib.hid H; clear H
  go_wp2_with fail
  go_loopw [8] (fun iv wr => ∃ i : Nat, i ≤ 8 ∧ iv = .int .i64 (i : Int) ∧ Hid (Ow w wr [(be, 5, padN 8 (R.take i))])) (fun iv _ => 8 - (intOf iv).toNat)
  case atStart => exact ⟨0, Nat.zero_le _, rfl, H2⟩
  case round =>
    clear H2; obtain ⟨i, hi, rfl, HH⟩ := hrel; have H := HH.out; clear HH
    have hRl : R.length = 8 := by rw [← HR.out]; exact be8_length _
    have hlen : (R.take i).length = i := by rw [List.length_take, hRl]; omega
    by_cases hie : i = 8
    · have HC : decide ((i : Int) < 8) = false := decide_eq_false (by omega)
      rw [show R.take i = R from List.take_of_length_le (by omega), padN_full hRl] at H; clear hlen hie
      go_upto_region 3 with fail
      refine Kr.seqStartW ?_
      (refine Kr.seqQ (v := .bool false) (a' := ?_) (by rfl) ?_ ?_ ?_; rotate_left 1; (focus (exact Kr.valOf rfl (lssT HC))); (focus ((try simp only [Kr.PT]); first | done | rfl)))
      refine Kr.seqDoneW ?_
      go_upto_region 7 with fail
      refine Kr.seqStartW ?_
      (refine Kr.seqQ (v := ?_) (a' := ?_) (by rfl) ?_ ?_ ?_; rotate_left 2; (focus (go_simp; first | done | rfl)); (focus ((try simp only [Kr.PT]); first | done | rfl)))
      (refine Kr.seqQ (v := ?_) (a' := ?_) (by rfl) ?_ ?_ ?_; rotate_left 2; (focus (go_simp; first | done | rfl)); (focus ((try simp only [Kr.PT]); first | done | rfl)))
      refine Kr.seqDoneW ?_
      have hk := trivial
      go_wp2
      refine bodyPost_ret (v := .slice (some ⟨be, 0, none⟩) 8 8) (by simp [results, Tryd.results40, go_sem, hk]) rfl ⟨be, rfl, bytesAt_row (H.at 0 rfl), H.g⟩
    · have hil : i < 8 := by omega
      have HC : decide ((i : Int) < 8) = true := decide_eq_true (by omega)
      obtain ⟨j, hj⟩ : ∃ j, 7 - i = j := ⟨_, rfl⟩
      obtain ⟨k, hk⟩ : ∃ k, 8 * j = k := ⟨_, rfl⟩
      obtain ⟨q, hq⟩ : ∃ q, n / 2 ^ k = q := ⟨_, rfl⟩
      obtain ⟨z, hz⟩ : ∃ z, BitVec.ofNat 8 q = z := ⟨_, rfl⟩
      have hzb : byteOf n i = z := by unfold byteOf; rw [hj, hk, hq, hz]
      have htk : R.take (i + 1) = R.take i ++ [z] := by rw [← HR.out, be8_take n hil, hzb]
      have hsub : IntKind.i64.wrap ((7 : Int) - (i : Int)) = (j : Int) := wrap_nat (by omega) (by omega)
      have hmul : IntKind.i64.wrap ((8 : Int) * (j : Int)) = (k : Int) := wrap_nat (by omega) (by omega)
      obtain ⟨v0, hv0⟩ := padN_any (N := 8) (l := R.take i) (j := i) (by omega) (by omega)
      go_upto_region 3 with fail
      refine Kr.seqStartW ?_
      (refine Kr.seqQ (v := .bool true) (a' := ?_) (by rfl) ?_ ?_ ?_; rotate_left 1; (focus (exact Kr.valOf rfl (lssT HC))); (focus ((try simp only [Kr.PT]); first | done | rfl)))
      refine Kr.seqDoneW ?_
      go_upto_region 4 with fail
      refine Kr.seqStartW ?_
      (refine Kr.seqQ (v := ?_) (a' := ?_) (by rfl) ?_ ?_ ?_; rotate_left 2; (focus (go_simp; first | done | rfl)); (focus ((try simp only [Kr.PT]); first | done | rfl)))
      (refine Kr.seqQ (v := ?_) (a' := ?_) (by rfl) ?_ ?_ ?_; rotate_left 2; (focus (go_simp; first | done | rfl)); (focus ((try simp only [Kr.PT]); first | done | rfl)))
      refine Kr.seqDoneW ?_
      go_upto_region 5 with fail
      refine Kr.seqStartW ?_
      (refine Kr.seqQ (v := ?_) (a' := ?_) (by rfl) ?_ ?_ ?_; rotate_left 2; (focus (go_simp; first | done | rfl)); (focus ((try simp only [Kr.PT]); first | done | rfl)))
      (refine Kr.seqQ (v := ?_) (a' := ?_) (by rfl) ?_ ?_ ?_; rotate_left 2; (focus (go_simp; first | done | rfl)); (focus ((try simp only [Kr.PT]); first | done | rfl)))
      (refine Kr.seqQ (v := ?_) (a' := ?_) (by rfl) ?_ ?_ ?_; rotate_left 2; (focus (go_simp; first | done | rfl)); (focus ((try simp only [Kr.PT]); first | done | rfl)))
      (refine Kr.seqQ (v := ?_) (a' := ?_) (by rfl) ?_ ?_ ?_; rotate_left 2; (focus (go_simp; first | done | rfl)); (focus ((try simp only [Kr.PT]); first | done | rfl)))
      (refine Kr.seqQ (v := .int .i64 (j : Int)) (a' := ?_) (by rfl) ?_ ?_ ?_; rotate_left 1; (focus (exact Kr.valOf rfl (subI hsub))); (focus ((try simp only [Kr.PT]); first | done | rfl)))
      (refine Kr.seqQ (v := .int .i64 (k : Int)) (a' := ?_) (by rfl) ?_ ?_ ?_; rotate_left 1; (focus (exact Kr.valOf rfl (mulI hmul))); (focus ((try simp only [Kr.PT]); first | done | rfl)))
      (refine Kr.seqQ (v := .int .i64 (q : Int)) (a' := ?_) (by rfl) ?_ ?_ ?_; rotate_left 1; (focus (exact Kr.valOf rfl (shrI (by omega) hq))); (focus ((try simp only [Kr.PT]); first | done | rfl)))
      (refine Kr.seqQ (v := .int .u8 ((z).toNat : Int)) (a' := ?_) (by rfl) ?_ ?_ ?_; rotate_left 1; (focus (exact Kr.valOf rfl (convI8 hz))); (focus ((try simp only [Kr.PT]); first | done | rfl)))
      (refine Kr.seqQ (v := .pointer (some ⟨be, i, none⟩)) (a' := ?_) (by rfl) ?_ ?_ ?_; rotate_left 1; (focus (exact Kr.valOf rfl (ixB0 (by omega)))); (focus ((try simp only [Kr.PT]); first | done | rfl)))
      refine Kr.seqR (by rfl) (fun K hK => ?_)
      refine wp_run rfl (stE8 (H.cell 0 rfl hv0) (H.frozen 0 rfl i)) ?_
      obtain ⟨y2, hy⟩ : ∃ y, wr.setCell ⟨be, i, none⟩ (.int .u8 ((z).toNat : Int)) = y := ⟨_, rfl⟩
      rw [hy]
      replace H := H.set 0 (i) hy rfl
      dsimp only [List.set] at H
      clear hy
      rw [padN_set hlen hil, ← htk] at H
      (refine Kr.outS hK (a' := ?_) ?_ ?_; rotate_left; (focus ((try simp only [Kr.PT]); first | done | rfl))); clear hK K
      refine Kr.seqDoneW ?_
      have HADD : IntKind.i64.wrap ((i : Int) + 1) = ((i + 1 : Nat) : Int) := wrap_nat (by omega) (by omega)
      go_upto_region 6 with fail
      refine Kr.seqStartW ?_
      (refine Kr.seqQ (v := .int .i64 ((i + 1 : Nat) : Int)) (a' := ?_) (by rfl) ?_ ?_ ?_; rotate_left 1; (focus (exact Kr.valOf rfl (addI HADD))); (focus ((try simp only [Kr.PT]); first | done | rfl)))
      (refine Kr.seqQ (v := ?_) (a' := ?_) (by rfl) ?_ ?_ ?_; rotate_left 2; (focus (go_simp; first | done | rfl)); (focus ((try simp only [Kr.PT]); first | done | rfl)))
      refine Kr.seqDoneW ?_
      go_wp2; go_roundw
      case rel => exact ⟨i + 1, by omega, rfl, Lib.hid H⟩
      case measure => simp [intOf]; omega
end Go.Proofs.YtilbojcghladjaaDoor.Dg


/- The end of the padded form. -/
namespace Go.Proofs.YtilbojcghladjaaDoor.Dg
open Go Go.RowKit Go.Proofs.YtilbojcghladjaaDoor.Ne Go.Proofs.YtilbojcghladjaaDoor.Kr

/-- The slice's address, where it has any byte. -/
def SrcB (p : Option Addr) (l : List (BitVec 8)) (W : World) : Prop := l = [] ∨ ∃ b off, p = some ⟨b, off, none⟩ ∧ BytesAt b off l W
theorem SrcB.grow {p : Option Addr} {l : List (BitVec 8)} {W W' : World} (h : SrcB p l W) (g : Gr W W') : SrcB p l W' :=
  h.imp id fun ⟨b, off, e, h⟩ => ⟨b, off, e, h.grow g⟩
theorem addr_add (b off j : Nat) : (⟨b, off, none⟩ : Addr).add j = ⟨b, off + j, none⟩ := by unfold Addr.add; split <;> simp_all
/-- copy into a row of one's own. -/
theorem wp_cp {o : Oper} {a : Act} {W : World} {K : Act → World → Prop} {Q : Exit → Act → World → Prop} (d s : Operand) (ho : o.op = .call { callee := .builtin .copy, args := #[d, s], argTypes := #[22, 22] })
    {b off dl dc k c : Nat} {sp : Option Addr} {cur : List Value} {l : List (BitVec 8)} (hd : a.eval d = .slice (some ⟨b, off, none⟩) dl dc) (hs : a.eval s = .slice sp k c) (hl : l.length = k) (hk : k ≤ dl) (hsrc : SrcB sp l W)
    (hg : W.heap[b]? = some (.cells cur.toArray 5 (0, 0))) (hfit : off + k ≤ cur.length)
    (h : K (a.put o.dst (goInt k)) (W.setRow b (cur.take off ++ l.map w8 ++ cur.drop (off + k)).toArray)) : o.wp Tryd.prog a W K Q := by
  rcases hsrc with h0 | ⟨sb, so, rfl, hb⟩
  · subst h0
    obtain rfl : k = 0 := hl.symm
    have hrun := run_copy_none (P := Tryd.prog) W 22 22 o.type 5 (some ⟨b, off, none⟩) sp dl dc 0 c Tryd.underlying22 size8 (Nat.zero_min _)
    have e : W.setRow b (cur.take off ++ ([] : List (BitVec 8)).map w8 ++ cur.drop (off + 0)).toArray = W := by
      rw [List.map_nil, List.append_nil, Nat.add_zero, List.take_append_drop]
      exact setRow_self W b cur.toArray _ _ hg
    rw [e] at h
    unfold Oper.wp
    simp [execOp, ho, resolve, invoke, builtin, hd, hs, hrun, Result.andThen]
    exact h
  · have hrun := run_copy_row (P := Tryd.prog) W 22 22 o.type 5 b off dl dc ⟨sb, so, none⟩ k c cur.toArray 5 (l.map w8) Tryd.underlying22 size8 hg (by rw [List.length_map, hl]; exact (Nat.min_eq_left hk).symm)
      (fun j u hu => by
        rw [List.getElem?_map] at hu
        cases hx : l[j]? with
        | none => rw [hx] at hu; cases hu
        | some x =>
          rw [hx] at hu
          cases hu
          rw [addr_add]
          exact hb j x hx)
      (by simp [hl]; exact hfit) (oneCell_bytes l)
    rw [List.length_map, hl] at hrun
    unfold Oper.wp
    simp [execOp, ho, resolve, invoke, builtin, hd, hs, hrun, Result.andThen]
    rw [List.append_assoc] at h
    exact h
/-- The end of the padded form: N bytes. -/
def padEnd (N : Nat) (l : List (BitVec 8)) (m : Nat) : List (BitVec 8) := (l ++ [128]) ++ (List.replicate (N - 8 - (l.length + 1)) 0 ++ be8 m)
theorem padEnd_length {N m : Nat} {l : List (BitVec 8)} (h : l.length + 9 ≤ N) : (padEnd N l m).length = N := by
  simp [padEnd, be8_length]; omega
theorem padN_copy {N k : Nat} {l : List (BitVec 8)} (h : l.length = k) : (padN N []).take 0 ++ l.map w8 ++ (padN N []).drop (0 + k) = padN N l := by
  unfold padN
  rw [List.map_nil, List.nil_append, List.take_zero, List.nil_append, List.drop_replicate, Nat.zero_add, h]; rfl
theorem padN_128 {N t : Nat} {l : List (BitVec 8)} (h : l.length = t) (ht : t < N) : (padN N l).set t (.int .u8 128) = padN N (l ++ [128]) := padN_set h ht 128
theorem padN_end {N m : Nat} {l : List (BitVec 8)} (h : l.length + 9 ≤ N) : (padN N (l ++ [128])).take (N - 8) ++ (be8 m).map w8 ++ (padN N (l ++ [128])).drop (N - 8 + 8) = (padEnd N l m).map w8 := by
  have e1 : (padN N (l ++ [128])).drop (N - 8 + 8) = [] := List.drop_of_length_le (by rw [padN_length (by simp; omega)]; omega)
  rw [e1, List.append_nil]
  unfold padN padEnd
  rw [List.take_append, List.map_append (l₁ := l ++ [128]), List.map_append (l₂ := be8 m), List.append_assoc]
  congr 1
  · exact List.take_of_length_le (by simp; omega)
  · congr 1
    rw [List.take_replicate, List.map_replicate, List.length_map, List.length_append]
    congr 1
    simp; omega
theorem slE128 {w : World} {b : Nat} : (Instr.sliceAt 22 (.slice (some ⟨b, 0, none⟩) 128 128) (some (.int .i64 120)) none none).run Tryd.prog w = .ok (.slice (some ⟨b, 120, none⟩) 8 8) w := by
  go_simp
theorem slE64 {w : World} {b : Nat} : (Instr.sliceAt 22 (.slice (some ⟨b, 0, none⟩) 64 64) (some (.int .i64 56)) none none).run Tryd.prog w = .ok (.slice (some ⟨b, 56, none⟩) 8 8) w := by
  go_simp
set_option linter.unusedSimpArgs false in
set_option maxRecDepth 100000 in
set_option maxHeartbeats 16000000 in
theorem pad_v {p : Option Addr} {k c n : Nat} {l : List (BitVec 8)} {w : World} (hS : SrcB p l w) (hl : l.length = k) (hk : k < 64) (hn : n < 1099511627776) :
    Calls Tryd.prog 33 #[.slice p k c, .int .i64 (n : Int)] w fun e w' => ∃ b N, e = .returned (.slice (some ⟨b, 0, none⟩) N N) ∧ BytesAt b 0 (padEnd N l (8 * n)) w' ∧ (if k + 9 > 64 then 128 else 64) = N ∧ Gr w w' := by
  have HS := Lib.hid hS; clear hS
  obtain ⟨m, hm⟩ : ∃ m, 8 * n = m := ⟨_, rfl⟩
  have hmul : IntKind.i64.wrap ((8 : Int) * (n : Int)) = (m : Int) := wrap_nat (by omega) (by omega)
  rw [hm]
  obtain ⟨k1, hk1⟩ : ∃ z, k + 1 = z := ⟨_, rfl⟩
  obtain ⟨k9, hk9⟩ : ∃ z, k1 + 8 = z := ⟨_, rfl⟩
  have ha1 : IntKind.i64.wrap ((k : Int) + 1) = (k1 : Int) := wrap_nat (by omega) (by omega)
  have ha9 : IntKind.i64.wrap ((k1 : Int) + 8) = (k9 : Int) := wrap_nat (by omega) (by omega)
  have H := Ow.start w
  go_enter Tryd.func33, Tryd.ntmps33
  go_upto_region 0 with fail
  refine Kr.seqStartW ?_
  (refine Kr.seqQ (v := ?_) (a' := ?_) (by rfl) ?_ ?_ ?_; rotate_left 2; (focus (go_simp; first | done | rfl)); (focus ((try simp only [Kr.PT]); first | done | rfl)))
  refine Kr.seqDoneW ?_
  go_upto_region 1 with fail
  refine Kr.seqStartW ?_
  (refine Kr.seqQ (v := ?_) (a' := ?_) (by rfl) ?_ ?_ ?_; rotate_left 2; (focus (go_simp; first | done | rfl)); (focus ((try simp only [Kr.PT]); first | done | rfl)))
  refine Kr.seqDoneW ?_
  by_cases hb : 64 < k9
  · have HC : decide ((64 : Int) < (k9 : Int)) = true := decide_eq_true (by omega)
    go_upto_region 2 with fail
    refine Kr.seqStartW ?_
    (refine Kr.seqQ (v := ?_) (a' := ?_) (by rfl) ?_ ?_ ?_; rotate_left 2; (focus (go_simp; first | done | rfl)); (focus ((try simp only [Kr.PT]); first | done | rfl)))
    (refine Kr.seqQ (v := ?_) (a' := ?_) (by rfl) ?_ ?_ ?_; rotate_left 2; (focus (go_simp; first | done | rfl)); (focus ((try simp only [Kr.PT]); first | done | rfl)))
    (refine Kr.seqQ (v := .int .i64 (k1 : Int)) (a' := ?_) (by rfl) ?_ ?_ ?_; rotate_left 1; (focus (exact Kr.valOf rfl (addI ha1))); (focus ((try simp only [Kr.PT]); first | done | rfl)))
    (refine Kr.seqQ (v := .int .i64 (k9 : Int)) (a' := ?_) (by rfl) ?_ ?_ ?_; rotate_left 1; (focus (exact Kr.valOf rfl (addI ha9))); (focus ((try simp only [Kr.PT]); first | done | rfl)))
    (refine Kr.seqQ (v := ?_) (a' := ?_) (by rfl) ?_ ?_ ?_; rotate_left 2; (focus (go_simp; first | done | rfl)); (focus ((try simp only [Kr.PT]); first | done | rfl)))
    (refine Kr.seqQ (v := .bool true) (a' := ?_) (by rfl) ?_ ?_ ?_; rotate_left 1; (focus (exact Kr.valOf rfl (gtrI HC))); (focus ((try simp only [Kr.PT]); first | done | rfl)))
    refine Kr.seqDoneW ?_
    go_upto_region 3 with fail
    refine Kr.seqStartW ?_
    (refine Kr.seqQ (v := ?_) (a' := ?_) (by rfl) ?_ ?_ ?_; rotate_left 2; (focus (go_simp; first | done | rfl)); (focus ((try simp only [Kr.PT]); first | done | rfl)))
    (refine Kr.seqQ (v := ?_) (a' := ?_) (by rfl) ?_ ?_ ?_; rotate_left 2; (focus (go_simp; first | done | rfl)); (focus ((try simp only [Kr.PT]); first | done | rfl)))
    (refine Kr.seqQ (v := ?_) (a' := ?_) (by rfl) ?_ ?_ ?_; rotate_left 2; (focus (go_simp; first | done | rfl)); (focus ((try simp only [Kr.PT]); first | done | rfl)))
    refine Kr.seqDoneW ?_
    go_upto_region 4 with fail
    refine Kr.seqStartW ?_
    (refine Kr.seqQ (v := ?_) (a' := ?_) (by rfl) ?_ ?_ ?_; rotate_left 2; (focus (go_simp; first | done | rfl)); (focus ((try simp only [Kr.PT]); first | done | rfl)))
    refine Kr.seqR (by rfl) (fun K hK => ?_)
    refine wp_runV rfl (mk8 (n := 128) (by decide)) ?_
    obtain ⟨y1, hy⟩ : ∃ y, w.alloc (.cells (List.replicate 128 (Value.int .u8 0)).toArray 5) = y := ⟨_, rfl⟩
    obtain ⟨be, hb2⟩ : ∃ b, w.heap.size = b := ⟨_, rfl⟩
    rw [hy, hb2]
    replace H := H.alloc hy hb2; clear hy hb2
    rw [← padN_nil] at H
    (refine Kr.outS hK (a' := ?_) ?_ ?_; rotate_left; (focus ((try simp only [Kr.PT]); first | done | rfl))); clear hK K
    (refine Kr.seqQ (v := ?_) (a' := ?_) (by rfl) ?_ ?_ ?_; rotate_left 2; (focus (go_simp; first | done | rfl)); (focus ((try simp only [Kr.PT]); first | done | rfl)))
    refine Kr.seqDoneW ?_
    go_upto_region 5 with fail
    refine Kr.seqStartW ?_
    (refine Kr.seqQ (v := ?_) (a' := ?_) (by rfl) ?_ ?_ ?_; rotate_left 2; (focus (go_simp; first | done | rfl)); (focus ((try simp only [Kr.PT]); first | done | rfl)))
    (refine Kr.seqQ (v := ?_) (a' := ?_) (by rfl) ?_ ?_ ?_; rotate_left 2; (focus (go_simp; first | done | rfl)); (focus ((try simp only [Kr.PT]); first | done | rfl)))
    refine Kr.seqR (by rfl) (fun K hK => ?_)
    refine wp_cp (.tmp 17) (.tmp 18) rfl (cur := padN 128 []) (l := l) (off := 0) rfl rfl hl (by omega) (HS.out.grow H.g) (H.at 0 rfl) (by rw [padN_length (by simp)]; omega) ?_
    rw [padN_copy hl]
    obtain ⟨y2, hy⟩ : ∃ y, y1.setRow be (padN 128 l).toArray = y := ⟨_, rfl⟩
    rw [hy]
    replace H := H.put 0 hy rfl
    dsimp only [List.set] at H
    clear hy
    (refine Kr.outS hK (a' := ?_) ?_ ?_; rotate_left; (focus ((try simp only [Kr.PT]); first | done | rfl))); clear hK K
    refine Kr.seqDoneW ?_
    obtain ⟨v0, hv0⟩ := padN_any (N := 128) (l := l) (j := k) (by omega) (by omega)
    go_upto_region 6 with fail
    refine Kr.seqStartW ?_
    (refine Kr.seqQ (v := ?_) (a' := ?_) (by rfl) ?_ ?_ ?_; rotate_left 2; (focus (go_simp; first | done | rfl)); (focus ((try simp only [Kr.PT]); first | done | rfl)))
    (refine Kr.seqQ (v := ?_) (a' := ?_) (by rfl) ?_ ?_ ?_; rotate_left 2; (focus (go_simp; first | done | rfl)); (focus ((try simp only [Kr.PT]); first | done | rfl)))
    (refine Kr.seqQ (v := ?_) (a' := ?_) (by rfl) ?_ ?_ ?_; rotate_left 2; (focus (go_simp; first | done | rfl)); (focus ((try simp only [Kr.PT]); first | done | rfl)))
    (refine Kr.seqQ (v := .pointer (some ⟨be, k, none⟩)) (a' := ?_) (by rfl) ?_ ?_ ?_; rotate_left 1; (focus (exact Kr.valOf rfl (ixB0 (by omega)))); (focus ((try simp only [Kr.PT]); first | done | rfl)))
    refine Kr.seqR (by rfl) (fun K hK => ?_)
    refine wp_run rfl (stE8 (H.cell 0 rfl hv0) (H.frozen 0 rfl k)) ?_
    obtain ⟨y3, hy⟩ : ∃ y, y2.setCell ⟨be, k, none⟩ (.int .u8 128) = y := ⟨_, rfl⟩
    rw [hy]
    replace H := H.set 0 (k) hy rfl
    dsimp only [List.set] at H
    clear hy
    rw [padN_128 hl (by omega)] at H
    (refine Kr.outS hK (a' := ?_) ?_ ?_; rotate_left; (focus ((try simp only [Kr.PT]); first | done | rfl))); clear hK K
    refine Kr.seqDoneW ?_
    go_upto_region 7 with fail
    refine Kr.startL (fun W' => True) [] (by kernel_rfl) ?_
    have gd : Gr y3 y3.drew := (Gr.refl _).drew
    generalize y3.drew = d4 at gd ⊢
    replace H := H.grow gd
    clear gd
    (refine Kr.tPQ 0 (v := ?_) (a' := ?_) rfl (by kernel_rfl) (fun _ _ _ h => h) (by rfl) (fun _ => trivial) (fun wx => ?_) ?_ ?_; rotate_left 2; (focus (go_simp; first | done | rfl)); (focus ((try simp only [Kr.PT]); first | done | rfl)))
    (refine Kr.tPQ 1 (v := ?_) (a' := ?_) rfl (by kernel_rfl) (fun _ _ _ h => h) (by rfl) (fun _ => trivial) (fun wx => ?_) ?_ ?_; rotate_left 2; (focus (go_simp; first | done | rfl)); (focus ((try simp only [Kr.PT]); first | done | rfl)))
    (refine Kr.tPQ 2 (v := .int .i64 120) (a' := ?_) rfl (by kernel_rfl) (fun _ _ _ h => h) (by rfl) (fun _ => trivial) (fun wx => ?_) ?_ ?_; rotate_left 1; (focus (exact Kr.valOf rfl (subI (z := 120) (by rfl)))); (focus ((try simp only [Kr.PT]); first | done | rfl)))
    (refine Kr.tPQ 3 (v := .slice (some ⟨be, 120, none⟩) 8 8) (a' := ?_) rfl (by kernel_rfl) (fun _ _ _ h => h) (by rfl) (fun _ => trivial) (fun wx => ?_) ?_ ?_; rotate_left 1; (focus (exact Kr.valOf rfl (slE128))); (focus ((try simp only [Kr.PT]); first | done | rfl)))
    (refine Kr.tPQ 4 (v := ?_) (a' := ?_) rfl (by kernel_rfl) (fun _ _ _ h => h) (by rfl) (fun _ => trivial) (fun wx => ?_) ?_ ?_; rotate_left 2; (focus (go_simp; first | done | rfl)); (focus ((try simp only [Kr.PT]); first | done | rfl)))
    (refine Kr.tPQ 5 (v := .int .i64 (m : Int)) (a' := ?_) rfl (by kernel_rfl) (fun _ _ _ h => h) (by rfl) (fun _ => trivial) (fun wx => ?_) ?_ ?_; rotate_left 1; (focus (exact Kr.valOf rfl (mulI hmul))); (focus ((try simp only [Kr.PT]); first | done | rfl)))
    refine Kr.readyL (rs := [6]) (by kernel_rfl) (by simp) ?_
    refine Kr.AllL.cons rfl (fun K hK => ?_) Kr.AllL.nil
    go_simp
    go_at_call 40
    refine (eight_v (n := m)).mono ?_
    rintro e y5 ⟨b8, rfl, hb8, hg⟩
    have HB8 := Lib.hid hb8; clear hb8
    replace H := H.grow hg
    clear hg
    (refine Kr.outL hK (a' := ?_) ?_ (fun _ => trivial) ?_; rotate_left; (focus ((try simp only [Kr.PT]); first | done | rfl))); clear hK K
    refine Kr.readyL (rs := [7]) (by kernel_rfl) (by simp) ?_
    refine Kr.AllL.cons rfl (fun K hK => ?_) Kr.AllL.nil
    rw [if_pos (by rfl)]
    refine wp_cp (.tmp 27) (.tmp 30) rfl (cur := padN 128 (l ++ [128])) (l := be8 m) (off := 120) rfl rfl (be8_length m) (Nat.le_refl _) (.inr ⟨b8, 0, rfl, HB8.out⟩) (H.at 0 rfl) (by rw [padN_length (by simp; omega)]; omega) ?_
    rw [show (padN 128 (l ++ [128])).take 120 ++ (be8 m).map w8 ++ (padN 128 (l ++ [128])).drop (120 + 8) = (padEnd 128 l m).map w8 from padN_end (N := 128) (by omega)]
    obtain ⟨y6, hy⟩ : ∃ y, y5.setRow be ((padEnd 128 l m).map w8).toArray = y := ⟨_, rfl⟩
    rw [hy]
    replace H := H.put 0 hy rfl
    dsimp only [List.set] at H
    clear hy
    (refine Kr.outL hK (a' := ?_) ?_ (fun _ => trivial) ?_; rotate_left; (focus ((try simp only [Kr.PT]); first | done | rfl))); clear hK K
    refine Kr.doneL (by kernel_rfl) ?_ _
    go_upto_region 8 with fail
    refine Kr.seqStartW ?_
    (refine Kr.seqQ (v := ?_) (a' := ?_) (by rfl) ?_ ?_ ?_; rotate_left 2; (focus (go_simp; first | done | rfl)); (focus ((try simp only [Kr.PT]); first | done | rfl)))
    (refine Kr.seqQ (v := ?_) (a' := ?_) (by rfl) ?_ ?_ ?_; rotate_left 2; (focus (go_simp; first | done | rfl)); (focus ((try simp only [Kr.PT]); first | done | rfl)))
    refine Kr.seqDoneW ?_
    have hk := trivial
    go_wp2
    refine bodyPost_ret (v := .slice (some ⟨be, 0, none⟩) 128 128) (by simp [results, Tryd.results33, go_sem, hk]) rfl ⟨be, 128, rfl, bytesAt_row (H.at 0 rfl), (by first | rfl | exact if_pos (by omega)), H.g⟩
  · have HC : decide ((64 : Int) < (k9 : Int)) = false := decide_eq_false (by omega)
    go_upto_region 2 with fail
    refine Kr.seqStartW ?_
    (refine Kr.seqQ (v := ?_) (a' := ?_) (by rfl) ?_ ?_ ?_; rotate_left 2; (focus (go_simp; first | done | rfl)); (focus ((try simp only [Kr.PT]); first | done | rfl)))
    (refine Kr.seqQ (v := ?_) (a' := ?_) (by rfl) ?_ ?_ ?_; rotate_left 2; (focus (go_simp; first | done | rfl)); (focus ((try simp only [Kr.PT]); first | done | rfl)))
    (refine Kr.seqQ (v := .int .i64 (k1 : Int)) (a' := ?_) (by rfl) ?_ ?_ ?_; rotate_left 1; (focus (exact Kr.valOf rfl (addI ha1))); (focus ((try simp only [Kr.PT]); first | done | rfl)))
    (refine Kr.seqQ (v := .int .i64 (k9 : Int)) (a' := ?_) (by rfl) ?_ ?_ ?_; rotate_left 1; (focus (exact Kr.valOf rfl (addI ha9))); (focus ((try simp only [Kr.PT]); first | done | rfl)))
    (refine Kr.seqQ (v := ?_) (a' := ?_) (by rfl) ?_ ?_ ?_; rotate_left 2; (focus (go_simp; first | done | rfl)); (focus ((try simp only [Kr.PT]); first | done | rfl)))
    (refine Kr.seqQ (v := .bool false) (a' := ?_) (by rfl) ?_ ?_ ?_; rotate_left 1; (focus (exact Kr.valOf rfl (gtrI HC))); (focus ((try simp only [Kr.PT]); first | done | rfl)))
    refine Kr.seqDoneW ?_
    go_upto_region 4 with fail
    refine Kr.seqStartW ?_
    (refine Kr.seqQ (v := ?_) (a' := ?_) (by rfl) ?_ ?_ ?_; rotate_left 2; (focus (go_simp; first | done | rfl)); (focus ((try simp only [Kr.PT]); first | done | rfl)))
    refine Kr.seqR (by rfl) (fun K hK => ?_)
    refine wp_runV rfl (mk8 (n := 64) (by decide)) ?_
    obtain ⟨y7, hy⟩ : ∃ y, w.alloc (.cells (List.replicate 64 (Value.int .u8 0)).toArray 5) = y := ⟨_, rfl⟩
    obtain ⟨be, hb2⟩ : ∃ b, w.heap.size = b := ⟨_, rfl⟩
    rw [hy, hb2]
    replace H := H.alloc hy hb2; clear hy hb2
    rw [← padN_nil] at H
    (refine Kr.outS hK (a' := ?_) ?_ ?_; rotate_left; (focus ((try simp only [Kr.PT]); first | done | rfl))); clear hK K
    (refine Kr.seqQ (v := ?_) (a' := ?_) (by rfl) ?_ ?_ ?_; rotate_left 2; (focus (go_simp; first | done | rfl)); (focus ((try simp only [Kr.PT]); first | done | rfl)))
    refine Kr.seqDoneW ?_
    go_upto_region 5 with fail
    refine Kr.seqStartW ?_
    (refine Kr.seqQ (v := ?_) (a' := ?_) (by rfl) ?_ ?_ ?_; rotate_left 2; (focus (go_simp; first | done | rfl)); (focus ((try simp only [Kr.PT]); first | done | rfl)))
    (refine Kr.seqQ (v := ?_) (a' := ?_) (by rfl) ?_ ?_ ?_; rotate_left 2; (focus (go_simp; first | done | rfl)); (focus ((try simp only [Kr.PT]); first | done | rfl)))
    refine Kr.seqR (by rfl) (fun K hK => ?_)
    refine wp_cp (.tmp 17) (.tmp 18) rfl (cur := padN 64 []) (l := l) (off := 0) rfl rfl hl (by omega) (HS.out.grow H.g) (H.at 0 rfl) (by rw [padN_length (by simp)]; omega) ?_
    rw [padN_copy hl]
    obtain ⟨y8, hy⟩ : ∃ y, y7.setRow be (padN 64 l).toArray = y := ⟨_, rfl⟩
    rw [hy]
    replace H := H.put 0 hy rfl
    dsimp only [List.set] at H
    clear hy
    (refine Kr.outS hK (a' := ?_) ?_ ?_; rotate_left; (focus ((try simp only [Kr.PT]); first | done | rfl))); clear hK K
    refine Kr.seqDoneW ?_
    obtain ⟨v0, hv0⟩ := padN_any (N := 64) (l := l) (j := k) (by omega) (by omega)
    go_upto_region 6 with fail
    refine Kr.seqStartW ?_
    (refine Kr.seqQ (v := ?_) (a' := ?_) (by rfl) ?_ ?_ ?_; rotate_left 2; (focus (go_simp; first | done | rfl)); (focus ((try simp only [Kr.PT]); first | done | rfl)))
    (refine Kr.seqQ (v := ?_) (a' := ?_) (by rfl) ?_ ?_ ?_; rotate_left 2; (focus (go_simp; first | done | rfl)); (focus ((try simp only [Kr.PT]); first | done | rfl)))
    (refine Kr.seqQ (v := ?_) (a' := ?_) (by rfl) ?_ ?_ ?_; rotate_left 2; (focus (go_simp; first | done | rfl)); (focus ((try simp only [Kr.PT]); first | done | rfl)))
    (refine Kr.seqQ (v := .pointer (some ⟨be, k, none⟩)) (a' := ?_) (by rfl) ?_ ?_ ?_; rotate_left 1; (focus (exact Kr.valOf rfl (ixB0 (by omega)))); (focus ((try simp only [Kr.PT]); first | done | rfl)))
    refine Kr.seqR (by rfl) (fun K hK => ?_)
    refine wp_run rfl (stE8 (H.cell 0 rfl hv0) (H.frozen 0 rfl k)) ?_
    obtain ⟨y9, hy⟩ : ∃ y, y8.setCell ⟨be, k, none⟩ (.int .u8 128) = y := ⟨_, rfl⟩
    rw [hy]
    replace H := H.set 0 (k) hy rfl
    dsimp only [List.set] at H
    clear hy
    rw [padN_128 hl (by omega)] at H
    (refine Kr.outS hK (a' := ?_) ?_ ?_; rotate_left; (focus ((try simp only [Kr.PT]); first | done | rfl))); clear hK K
    refine Kr.seqDoneW ?_
    go_upto_region 7 with fail
    refine Kr.startL (fun W' => True) [] (by kernel_rfl) ?_
    have gd : Gr y9 y9.drew := (Gr.refl _).drew
    generalize y9.drew = d10 at gd ⊢
    replace H := H.grow gd
    clear gd
    (refine Kr.tPQ 0 (v := ?_) (a' := ?_) rfl (by kernel_rfl) (fun _ _ _ h => h) (by rfl) (fun _ => trivial) (fun wx => ?_) ?_ ?_; rotate_left 2; (focus (go_simp; first | done | rfl)); (focus ((try simp only [Kr.PT]); first | done | rfl)))
    (refine Kr.tPQ 1 (v := ?_) (a' := ?_) rfl (by kernel_rfl) (fun _ _ _ h => h) (by rfl) (fun _ => trivial) (fun wx => ?_) ?_ ?_; rotate_left 2; (focus (go_simp; first | done | rfl)); (focus ((try simp only [Kr.PT]); first | done | rfl)))
    (refine Kr.tPQ 2 (v := .int .i64 56) (a' := ?_) rfl (by kernel_rfl) (fun _ _ _ h => h) (by rfl) (fun _ => trivial) (fun wx => ?_) ?_ ?_; rotate_left 1; (focus (exact Kr.valOf rfl (subI (z := 56) (by rfl)))); (focus ((try simp only [Kr.PT]); first | done | rfl)))
    (refine Kr.tPQ 3 (v := .slice (some ⟨be, 56, none⟩) 8 8) (a' := ?_) rfl (by kernel_rfl) (fun _ _ _ h => h) (by rfl) (fun _ => trivial) (fun wx => ?_) ?_ ?_; rotate_left 1; (focus (exact Kr.valOf rfl (slE64))); (focus ((try simp only [Kr.PT]); first | done | rfl)))
    (refine Kr.tPQ 4 (v := ?_) (a' := ?_) rfl (by kernel_rfl) (fun _ _ _ h => h) (by rfl) (fun _ => trivial) (fun wx => ?_) ?_ ?_; rotate_left 2; (focus (go_simp; first | done | rfl)); (focus ((try simp only [Kr.PT]); first | done | rfl)))
    (refine Kr.tPQ 5 (v := .int .i64 (m : Int)) (a' := ?_) rfl (by kernel_rfl) (fun _ _ _ h => h) (by rfl) (fun _ => trivial) (fun wx => ?_) ?_ ?_; rotate_left 1; (focus (exact Kr.valOf rfl (mulI hmul))); (focus ((try simp only [Kr.PT]); first | done | rfl)))
    refine Kr.readyL (rs := [6]) (by kernel_rfl) (by simp) ?_
    refine Kr.AllL.cons rfl (fun K hK => ?_) Kr.AllL.nil
    go_simp
    go_at_call 40
    refine (eight_v (n := m)).mono ?_
    rintro e y11 ⟨b8, rfl, hb8, hg⟩
    have HB8 := Lib.hid hb8; clear hb8
    replace H := H.grow hg
    clear hg
    (refine Kr.outL hK (a' := ?_) ?_ (fun _ => trivial) ?_; rotate_left; (focus ((try simp only [Kr.PT]); first | done | rfl))); clear hK K
    refine Kr.readyL (rs := [7]) (by kernel_rfl) (by simp) ?_
    refine Kr.AllL.cons rfl (fun K hK => ?_) Kr.AllL.nil
    rw [if_pos (by rfl)]
    refine wp_cp (.tmp 27) (.tmp 30) rfl (cur := padN 64 (l ++ [128])) (l := be8 m) (off := 56) rfl rfl (be8_length m) (Nat.le_refl _) (.inr ⟨b8, 0, rfl, HB8.out⟩) (H.at 0 rfl) (by rw [padN_length (by simp; omega)]; omega) ?_
    rw [show (padN 64 (l ++ [128])).take 56 ++ (be8 m).map w8 ++ (padN 64 (l ++ [128])).drop (56 + 8) = (padEnd 64 l m).map w8 from padN_end (N := 64) (by omega)]
    obtain ⟨y12, hy⟩ : ∃ y, y11.setRow be ((padEnd 64 l m).map w8).toArray = y := ⟨_, rfl⟩
    rw [hy]
    replace H := H.put 0 hy rfl
    dsimp only [List.set] at H
    clear hy
    (refine Kr.outL hK (a' := ?_) ?_ (fun _ => trivial) ?_; rotate_left; (focus ((try simp only [Kr.PT]); first | done | rfl))); clear hK K
    refine Kr.doneL (by kernel_rfl) ?_ _
    go_upto_region 8 with fail
    refine Kr.seqStartW ?_
    (refine Kr.seqQ (v := ?_) (a' := ?_) (by rfl) ?_ ?_ ?_; rotate_left 2; (focus (go_simp; first | done | rfl)); (focus ((try simp only [Kr.PT]); first | done | rfl)))
    (refine Kr.seqQ (v := ?_) (a' := ?_) (by rfl) ?_ ?_ ?_; rotate_left 2; (focus (go_simp; first | done | rfl)); (focus ((try simp only [Kr.PT]); first | done | rfl)))
    refine Kr.seqDoneW ?_
    have hk := trivial
    go_wp2
    refine bodyPost_ret (v := .slice (some ⟨be, 0, none⟩) 64 64) (by simp [results, Tryd.results33, go_sem, hk]) rfl ⟨be, 64, rfl, bytesAt_row (H.at 0 rfl), (by first | rfl | exact if_neg (by omega)), H.g⟩
end Go.Proofs.YtilbojcghladjaaDoor.Dg


/- Blocks taken in; SHA-256 as a function. -/
namespace Go.Proofs.YtilbojcghladjaaDoor.Dg
open Go Go.RowKit Go.Proofs.YtilbojcghladjaaDoor.Ne Go.Proofs.YtilbojcghladjaaDoor.Kr

/-- All whole blocks are taken in; what is left. -/
def absB (S : S8) (l : List (BitVec 8)) : S8 × List (BitVec 8) :=
  if 64 ≤ l.length then absB (comp S (wordOf l)) (l.drop 64) else (S, l)
termination_by l.length
decreasing_by
  rename_i h
  rw [List.length_drop]; omega
theorem absB_yes {S : S8} {l : List (BitVec 8)} (h : 64 ≤ l.length) : absB S l = absB (comp S (wordOf l)) (l.drop 64) := by
  rw [absB, if_pos h]
theorem absB_no {S : S8} {l : List (BitVec 8)} (h : l.length < 64) : absB S l = (S, l) := by
  rw [absB, if_neg (by omega)]
/-- How long the end of the padded form is. -/
def endLen (k : Nat) : Nat := if k + 9 > 64 then 128 else 64
theorem endLen_ge {k : Nat} (h : k < 64) : k + 9 ≤ endLen k := by unfold endLen; split <;> omega
theorem endLen_mod (k : Nat) : endLen k % 64 = 0 := by unfold endLen; split <;> rfl
theorem endLen_le (k : Nat) : endLen k ≤ 128 := by unfold endLen; split <;> decide
/-- The bytes of words. -/
def four (x : BitVec 32) : List (BitVec 8) := [(x >>> 24).setWidth 8, (x >>> 16).setWidth 8, (x >>> 8).setWidth 8, x.setWidth 8]
def outs (l : List (BitVec 32)) : List (BitVec 8) := l.flatMap four
theorem outs_length : ∀ l : List (BitVec 32), (outs l).length = 4 * l.length
  | [] => rfl
  | x :: r => by
    have := outs_length r
    unfold outs at this ⊢
    rw [List.flatMap_cons, List.length_append, this]
    show 4 + 4 * r.length = 4 * (r.length + 1)
    omega
theorem outs_snoc (l : List (BitVec 32)) (x : BitVec 32) : outs (l ++ [x]) = outs l ++ four x := by
  unfold outs
  rw [List.flatMap_append]; simp
/-- SHA-256. -/
def shaS (l : List (BitVec 8)) : S8 := (absB (absB s0 l).1 (padEnd (endLen (absB s0 l).2.length) (absB s0 l).2 (8 * l.length))).1
def sha (l : List (BitVec 8)) : List (BitVec 8) := outs (shaS l).list
theorem sha_length (l : List (BitVec 8)) : (sha l).length = 32 := outs_length _
def cut64 (b off c : Nat) : Addr := if c = 64 then ⟨b, off, none⟩ else ⟨b, off + 64, none⟩
theorem sl64 {w : World} {b off k c : Nat} (h1 : 64 ≤ k) (h2 : k ≤ c) : (Instr.sliceAt 22 (.slice (some ⟨b, off, none⟩) k c) (some (.int .i64 64)) none none).run Tryd.prog w = .ok (.slice (some (cut64 b off c)) (k - 64) (c - 64)) w := by
  have h3 : ¬ k < 64 := by omega
  have h4 : ¬ c < 64 := by omega
  have h5 : ¬ c < k := by omega
  by_cases h : c = 64
  · have e : cut64 b off c = ⟨b, off, none⟩ := if_pos h
    rw [e]
    go_simp
    first | done | omega
  · have e : cut64 b off c = ⟨b, off + 64, none⟩ := if_neg h
    rw [e]
    go_simp
    first | done | omega
theorem src_cut {p : Option Addr} {b off k c : Nat} {l : List (BitVec 8)} {W : World} (h : BytesAt b off l W) (hl : l.length = k) (hk : k ≤ c) (hp : p = some (cut64 b off c)) : SrcB p (l.drop 64) W := by
  rcases Nat.lt_or_ge 64 k with h1 | h1
  · refine .inr ⟨b, off + 64, by rw [hp]; unfold cut64; rw [if_neg (by omega)], fun j x hx => ?_⟩
    rw [List.getElem?_drop] at hx
    have := h _ _ hx
    rwa [show off + 64 + j = off + (64 + j) by omega]
  · exact .inl (List.drop_of_length_le (by omega))
theorem src_some {p : Option Addr} {l : List (BitVec 8)} {W : World} (h : SrcB p l W) (hl : 0 < l.length) : ∃ b off, p = some ⟨b, off, none⟩ ∧ BytesAt b off l W := by
  rcases h with h | h
  · subst h; exact absurd hl (Nat.lt_irrefl _)
  · exact h
end Go.Proofs.YtilbojcghladjaaDoor.Dg


/- Sum. -/
namespace Go.Proofs.YtilbojcghladjaaDoor.Dg
open Go Go.RowKit Go.Proofs.YtilbojcghladjaaDoor.Ne Go.Proofs.YtilbojcghladjaaDoor.Kr

theorem src_put {p : Option Addr} {l : List (BitVec 8)} {W : World} {b : Nat} {ws : List (BitVec 32)} {T : TypeId} {fr : Nat × Nat} {cs : Array Value} (h : SrcB p l W) (hb : W.heap[b]? = some (.cells (ws.map w32).toArray T fr)) : SrcB p l (W.setRow b cs) := by
  refine h.imp id fun ⟨b2, off, e, h⟩ => ⟨b2, off, e, fun j x hx => ?_⟩
  have h1 := h j x hx
  have hne : b2 ≠ b := by
    rintro rfl
    rw [cell_of_row W b2 (off + j) _ _ _ hb] at h1
    have h2 : (ws.map w32)[off + j]? = some (w8 x) := by simpa using h1
    rw [List.getElem?_map] at h2
    cases hw : ws[off + j]? with
    | none => rw [hw] at h2; cases h2
    | some y => rw [hw] at h2; cases h2
  rw [← h1]
  exact World.cell?_of_block (a := ⟨b2, off + j, none⟩) (setRow_other W b b2 cs hne)
set_option linter.unusedSimpArgs false in
set_option maxRecDepth 100000 in
set_option maxHeartbeats 16000000 in
theorem Sum_v {p : Option Addr} {n c : Nat} {l : List (BitVec 8)} {w : World} (hS : SrcB p l w) (hl : l.length = n) (hc : n ≤ c) (hn : n < 1099511627776) (hC : Con w) (hT : Sta0 w) :
    Calls Tryd.prog 12 #[.slice p n c] w fun e w' => e = .returned (.agg ((sha l).map w8).toArray) ∧ Gr w w' := by
  have HS := Lib.hid hS; have HCN := Lib.hid hC; have HT0 := Lib.hid hT; clear hS hC hT
  obtain ⟨A, hA⟩ : ∃ A, absB s0 l = A := ⟨_, rfl⟩
  obtain ⟨RES, hRES⟩ : ∃ R, shaS l = R := ⟨_, rfl⟩
  have HRES : Hid ((absB A.1 (padEnd (endLen A.2.length) A.2 (8 * n))).1 = RES) := Lib.hid (by rw [← hRES, shaS, hA, hl])
  have HA := Lib.hid hA
  have hres : sha l = outs RES.list := by rw [sha, hRES]
  rw [hres]; clear hres hRES hA
  have HL := Lib.hid hl; clear hl
  have H := Ow.start w
  go_enter Tryd.func12, Tryd.ntmps12
  go_upto_region 0 with fail
  refine Kr.seqStartW ?_
  refine Kr.seqR (by rfl) (fun K hK => ?_)
  refine wp_runV rfl newH ?_
  obtain ⟨y1, hy⟩ : ∃ y, w.alloc (.cells (List.replicate 32 (Value.int .u8 0)).toArray 25) = y := ⟨_, rfl⟩
  obtain ⟨br, hb⟩ : ∃ b, w.heap.size = b := ⟨_, rfl⟩
  rw [hy, hb]
  have hg : Gr w y1 := hy ▸ (Gr.refl _).alloc _
  replace H := H.alloc hy hb
  clear hy hb hg
  (refine Kr.outS hK (a' := ?_) ?_ ?_; rotate_left; (focus ((try simp only [Kr.PT]); first | done | rfl))); clear hK K
  refine Kr.seqDoneW ?_
  go_upto_region 1 with fail
  refine Kr.seqStartW ?_
  (refine Kr.seqQ (v := .agg (s0.list.map w32).toArray) (a' := ?_) (by rfl) ?_ ?_ ?_; rotate_left 1; (focus (exact Kr.valOf rfl (loadSta (HT0.out.grow H.g)))); (focus ((try simp only [Kr.PT]); first | done | rfl)))
  refine Kr.seqR (by rfl) (fun K hK => ?_)
  refine wp_runV rfl newA8 ?_
  obtain ⟨y2, hy⟩ : ∃ y, y1.alloc (.cells (List.replicate 8 (Value.int .u32 0)).toArray 60) = y := ⟨_, rfl⟩
  obtain ⟨bs, hb⟩ : ∃ b, y1.heap.size = b := ⟨_, rfl⟩
  rw [hy, hb]
  have hg : Gr y1 y2 := hy ▸ (Gr.refl _).alloc _
  replace H := H.alloc hy hb
  clear hy hb hg
  (refine Kr.outS hK (a' := ?_) ?_ ?_; rotate_left; (focus ((try simp only [Kr.PT]); first | done | rfl))); clear hK K
  refine Kr.seqR (by rfl) (fun K hK => ?_)
  refine wp_run rfl (stA8 (H.at 0 rfl) (by simp) rfl (oneCell_words _)) ?_
  obtain ⟨y3, hy⟩ : ∃ y, y2.setRow bs (s0.list.map w32).toArray = y := ⟨_, rfl⟩
  rw [hy]
  replace H := H.put 0 hy rfl
  dsimp only [List.set] at H
  clear hy
  (refine Kr.outS hK (a' := ?_) ?_ ?_; rotate_left; (focus ((try simp only [Kr.PT]); first | done | rfl))); clear hK K
  refine Kr.seqDoneW ?_
  go_upto_region 2 with fail
  refine Kr.seqStartW ?_
  (refine Kr.seqQ (v := ?_) (a' := ?_) (by rfl) ?_ ?_ ?_; rotate_left 2; (focus (go_simp; first | done | rfl)); (focus ((try simp only [Kr.PT]); first | done | rfl)))
  (refine Kr.seqQ (v := ?_) (a' := ?_) (by rfl) ?_ ?_ ?_; rotate_left 2; (focus (go_simp; first | done | rfl)); (focus ((try simp only [Kr.PT]); first | done | rfl)))
  refine Kr.seqDoneW ?_
  have H2 := Lib.hid H; clear H
  go_wp2_with fail
  go_loopw [4] (fun rv wr => ∃ (pr : Option Addr) (k cr : Nat) (lr : List (BitVec 8)) (S : S8), rv = .slice pr k cr ∧ k ≤ cr ∧ k ≤ n ∧ Hid (lr.length = k) ∧ Hid (SrcB pr lr w) ∧ Hid (absB S lr = A) ∧ Hid (Ow w wr [(bs, 60, S.list.map w32), (br, 25, List.replicate 32 (Value.int .u8 0))])) (fun rv _ => match rv with | .slice _ k _ => k | _ => 0)
  case atStart => exact ⟨p, n, c, l, s0, rfl, hc, Nat.le_refl _, HL, HS, HA, H2⟩
  case round =>
    clear H2; obtain ⟨pr, k, cr, lr, S, rfl, hkc, hkn, HLR, HSR, HAB, HH⟩ := hrel; have H := HH.out; clear HH
    by_cases hk : 64 ≤ k
    · have HC : decide ((64 : Int) ≤ (k : Int)) = true := decide_eq_true (by omega)
      obtain ⟨b, off, rfl, hb⟩ := src_some HSR.out (by rw [HLR.out]; omega)
      have HB := Lib.hid hb; clear hb
      obtain ⟨pc, hpc⟩ : ∃ q, cut64 b off cr = q := ⟨_, rfl⟩
      obtain ⟨k2, hk2⟩ : ∃ z, k - 64 = z := ⟨_, rfl⟩
      obtain ⟨c2, hc2⟩ : ∃ z, cr - 64 = z := ⟨_, rfl⟩
      have hsl : ∀ w : World, (Instr.sliceAt 22 (.slice (some ⟨b, off, none⟩) k cr) (some (.int .i64 64)) none none).run Tryd.prog w = .ok (.slice (some pc) k2 c2) w := fun w => by rw [sl64 hk hkc, hpc, hk2, hc2]
      obtain ⟨S2, hS2⟩ : ∃ z, comp S (wordOf lr) = z := ⟨_, rfl⟩
      have HAB2 : Hid (absB S2 (lr.drop 64) = A) := Lib.hid (by rw [← hS2, ← absB_yes (by rw [HLR.out]; exact hk)]; exact HAB.out)
      have HSR2 : Hid (SrcB (some pc) (lr.drop 64) w) := Lib.hid (src_cut HB.out HLR.out hkc (by rw [hpc]))
      have HLR2 : Hid ((lr.drop 64).length = k2) := Lib.hid (by rw [List.length_drop, HLR.out]; exact hk2)
      go_upto_region 3 with fail
      refine Kr.seqStartW ?_
      (refine Kr.seqQ (v := ?_) (a' := ?_) (by rfl) ?_ ?_ ?_; rotate_left 2; (focus (go_simp; first | done | rfl)); (focus ((try simp only [Kr.PT]); first | done | rfl)))
      (refine Kr.seqQ (v := ?_) (a' := ?_) (by rfl) ?_ ?_ ?_; rotate_left 2; (focus (go_simp; first | done | rfl)); (focus ((try simp only [Kr.PT]); first | done | rfl)))
      (refine Kr.seqQ (v := .bool true) (a' := ?_) (by rfl) ?_ ?_ ?_; rotate_left 1; (focus (exact Kr.valOf rfl (geqI HC))); (focus ((try simp only [Kr.PT]); first | done | rfl)))
      refine Kr.seqDoneW ?_
      go_upto_region 5 with fail
      refine Kr.seqStartW ?_
      (refine Kr.seqQ (v := .agg (S.list.map w32).toArray) (a' := ?_) (by rfl) ?_ ?_ ?_; rotate_left 1; (focus (exact Kr.valOf rfl (ldA8 (H.at 0 rfl) rfl))); (focus ((try simp only [Kr.PT]); first | done | rfl)))
      (refine Kr.seqQ (v := ?_) (a' := ?_) (by rfl) ?_ ?_ ?_; rotate_left 2; (focus (go_simp; first | done | rfl)); (focus ((try simp only [Kr.PT]); first | done | rfl)))
      refine Kr.seqR (by rfl) (fun K hK => ?_)
      go_simp
      go_at_call 32
      have hP := absorb_v (S := S) (c := cr) (HB.out.grow H.g) (Nat.le_of_eq HLR.out) (by rw [HLR.out]; exact hk) (by omega) (HCN.out.grow H.g)
      rw [hS2] at hP
      refine (hP).mono ?_
      rintro e y4 ⟨rfl, hg⟩
      replace H := H.grow hg
      clear hg
      clear hP
      (refine Kr.outS hK (a' := ?_) ?_ ?_; rotate_left; (focus ((try simp only [Kr.PT]); first | done | rfl))); clear hK K
      refine Kr.seqR (by rfl) (fun K hK => ?_)
      refine wp_run rfl (stA8 (H.at 0 rfl) rfl rfl (oneCell_words _)) ?_
      obtain ⟨y5, hy⟩ : ∃ y, y4.setRow bs (S2.list.map w32).toArray = y := ⟨_, rfl⟩
      rw [hy]
      replace H := H.put 0 hy rfl
      dsimp only [List.set] at H
      clear hy
      (refine Kr.outS hK (a' := ?_) ?_ ?_; rotate_left; (focus ((try simp only [Kr.PT]); first | done | rfl))); clear hK K
      refine Kr.seqDoneW ?_
      go_upto_region 4 with fail
      refine Kr.seqStartW ?_
      (refine Kr.seqQ (v := ?_) (a' := ?_) (by rfl) ?_ ?_ ?_; rotate_left 2; (focus (go_simp; first | done | rfl)); (focus ((try simp only [Kr.PT]); first | done | rfl)))
      (refine Kr.seqQ (v := .slice (some pc) k2 c2) (a' := ?_) (by rfl) ?_ ?_ ?_; rotate_left 1; (focus (exact Kr.valOf rfl (hsl _))); (focus ((try simp only [Kr.PT]); first | done | rfl)))
      (refine Kr.seqQ (v := ?_) (a' := ?_) (by rfl) ?_ ?_ ?_; rotate_left 2; (focus (go_simp; first | done | rfl)); (focus ((try simp only [Kr.PT]); first | done | rfl)))
      refine Kr.seqDoneW ?_
      go_wp2; go_roundw
      case rel => exact ⟨some pc, k2, c2, lr.drop 64, S2, rfl, by omega, by omega, HLR2, HSR2, HAB2, Lib.hid H⟩
      case measure => simp; omega
    · have HC : decide ((64 : Int) ≤ (k : Int)) = false := decide_eq_false (by omega)
      have hAS : A = (S, lr) := by rw [← HAB.out, absB_no (by rw [HLR.out]; omega)]
      have HRES2 : Hid ((absB S (padEnd (endLen k) lr (8 * n))).1 = RES) := Lib.hid (by have h := HRES.out; rw [hAS] at h; rw [← HLR.out]; exact h)
      clear hAS HAB HRES HA
      go_upto_region 3 with fail
      refine Kr.seqStartW ?_
      (refine Kr.seqQ (v := ?_) (a' := ?_) (by rfl) ?_ ?_ ?_; rotate_left 2; (focus (go_simp; first | done | rfl)); (focus ((try simp only [Kr.PT]); first | done | rfl)))
      (refine Kr.seqQ (v := ?_) (a' := ?_) (by rfl) ?_ ?_ ?_; rotate_left 2; (focus (go_simp; first | done | rfl)); (focus ((try simp only [Kr.PT]); first | done | rfl)))
      (refine Kr.seqQ (v := .bool false) (a' := ?_) (by rfl) ?_ ?_ ?_; rotate_left 1; (focus (exact Kr.valOf rfl (geqI HC))); (focus ((try simp only [Kr.PT]); first | done | rfl)))
      refine Kr.seqDoneW ?_
      go_upto_region 6 with fail
      refine Kr.seqStartW ?_
      (refine Kr.seqQ (v := ?_) (a' := ?_) (by rfl) ?_ ?_ ?_; rotate_left 2; (focus (go_simp; first | done | rfl)); (focus ((try simp only [Kr.PT]); first | done | rfl)))
      (refine Kr.seqQ (v := ?_) (a' := ?_) (by rfl) ?_ ?_ ?_; rotate_left 2; (focus (go_simp; first | done | rfl)); (focus ((try simp only [Kr.PT]); first | done | rfl)))
      (refine Kr.seqQ (v := ?_) (a' := ?_) (by rfl) ?_ ?_ ?_; rotate_left 2; (focus (go_simp; first | done | rfl)); (focus ((try simp only [Kr.PT]); first | done | rfl)))
      refine Kr.seqR (by rfl) (fun K hK => ?_)
      go_simp
      go_at_call 33
      refine (pad_v (c := cr) (HSR.out.grow H.g) HLR.out (by omega) (n := n) hn).mono ?_
      rintro e y6 ⟨be, N, rfl, hb, hN, hg⟩
      have hNe : endLen k = N := hN
      have HPE : Hid (SrcB (some ⟨be, 0, none⟩) (padEnd N lr (8 * n)) y6) := Lib.hid (.inr ⟨be, 0, rfl, hb⟩)
      have HR3 : Hid ((absB S (padEnd N lr (8 * n))).1 = RES) := Lib.hid (hNe ▸ HRES2.out)
      have HPL : Hid ((padEnd N lr (8 * n)).length = N) := Lib.hid (padEnd_length (by rw [HLR.out, ← hNe]; exact endLen_ge (by omega)))
      have hNm : N % 64 = 0 := hNe ▸ endLen_mod k; have hN128 : N ≤ 128 := hNe ▸ endLen_le k
      replace H := H.grow hg
      clear hb hN hNe HRES2
      have HGP : Hid (Gr y6 y6) := Lib.hid (Gr.refl _)
      clear hg
      have hwy : w.heap.size ≤ y6.heap.size := H.g.size
      (refine Kr.outS hK (a' := ?_) ?_ ?_; rotate_left; (focus ((try simp only [Kr.PT]); first | done | rfl))); clear hK K
      (refine Kr.seqQ (v := ?_) (a' := ?_) (by rfl) ?_ ?_ ?_; rotate_left 2; (focus (go_simp; first | done | rfl)); (focus ((try simp only [Kr.PT]); first | done | rfl)))
      refine Kr.seqDoneW ?_
      have H2 := Lib.hid H; have HPE0 := HPE; have HPL0 := HPL; have HR0 := HR3; clear H HPE HGP hwy HPL HR3
      go_wp2_with fail
      go_loopw [5] (fun rv wr => ∃ (pe : Option Addr) (ke ce : Nat) (le : List (BitVec 8)) (Z : S8), rv = .slice pe ke ce ∧ ke ≤ ce ∧ ke ≤ 128 ∧ ke % 64 = 0 ∧ Hid (le.length = ke) ∧ Hid (SrcB pe le wr) ∧ Hid ((absB Z le).1 = RES) ∧ Hid (Ow w wr [(bs, 60, Z.list.map w32), (br, 25, List.replicate 32 (Value.int .u8 0))])) (fun rv _ => match rv with | .slice _ k _ => k | _ => 0)
      case atStart => exact ⟨some ⟨be, 0, none⟩, N, N, _, S, rfl, Nat.le_refl _, hN128, hNm, HPL0, HPE0, HR0, H2⟩
      case round =>
        clear H2 HPL0 HPE0 HR0; obtain ⟨pe, ke, ce, le, Z, rfl, hkce, hke, hkm, HLE, HPE, HAB, HH⟩ := hrel; have H := HH.out; clear HH
        by_cases hk0 : 0 < ke
        · have HC : decide ((0 : Int) < (ke : Int)) = true := decide_eq_true (by omega)
          have hk64 : 64 ≤ ke := by omega
          obtain ⟨b, off, rfl, hb⟩ := src_some HPE.out (by rw [HLE.out]; omega)
          have HB := Lib.hid hb; clear hb
          obtain ⟨pc, hpc⟩ : ∃ q, cut64 b off ce = q := ⟨_, rfl⟩
          obtain ⟨k2, hk2⟩ : ∃ z, ke - 64 = z := ⟨_, rfl⟩
          obtain ⟨c2, hc2⟩ : ∃ z, ce - 64 = z := ⟨_, rfl⟩
          have hsl : ∀ w : World, (Instr.sliceAt 22 (.slice (some ⟨b, off, none⟩) ke ce) (some (.int .i64 64)) none none).run Tryd.prog w = .ok (.slice (some pc) k2 c2) w := fun w => by rw [sl64 hk64 hkce, hpc, hk2, hc2]
          obtain ⟨Z2, hZ2⟩ : ∃ z, comp Z (wordOf le) = z := ⟨_, rfl⟩
          have HAB2 : Hid ((absB Z2 (le.drop 64)).1 = RES) := Lib.hid (by rw [← hZ2, ← absB_yes (by rw [HLE.out]; exact hk64)]; exact HAB.out)
          have HPE2 : Hid (SrcB (some pc) (le.drop 64) wr) := Lib.hid (src_cut HB.out HLE.out hkce (by rw [hpc]))
          have HLE2 : Hid ((le.drop 64).length = k2) := Lib.hid (by rw [List.length_drop, HLE.out]; exact hk2)
          clear HPE
          go_upto_region 7 with fail
          refine Kr.seqStartW ?_
          (refine Kr.seqQ (v := ?_) (a' := ?_) (by rfl) ?_ ?_ ?_; rotate_left 2; (focus (go_simp; first | done | rfl)); (focus ((try simp only [Kr.PT]); first | done | rfl)))
          (refine Kr.seqQ (v := ?_) (a' := ?_) (by rfl) ?_ ?_ ?_; rotate_left 2; (focus (go_simp; first | done | rfl)); (focus ((try simp only [Kr.PT]); first | done | rfl)))
          (refine Kr.seqQ (v := .bool true) (a' := ?_) (by rfl) ?_ ?_ ?_; rotate_left 1; (focus (exact Kr.valOf rfl (gtrI HC))); (focus ((try simp only [Kr.PT]); first | done | rfl)))
          refine Kr.seqDoneW ?_
          go_upto_region 9 with fail
          refine Kr.seqStartW ?_
          (refine Kr.seqQ (v := .agg (Z.list.map w32).toArray) (a' := ?_) (by rfl) ?_ ?_ ?_; rotate_left 1; (focus (exact Kr.valOf rfl (ldA8 (H.at 0 rfl) rfl))); (focus ((try simp only [Kr.PT]); first | done | rfl)))
          (refine Kr.seqQ (v := ?_) (a' := ?_) (by rfl) ?_ ?_ ?_; rotate_left 2; (focus (go_simp; first | done | rfl)); (focus ((try simp only [Kr.PT]); first | done | rfl)))
          refine Kr.seqR (by rfl) (fun K hK => ?_)
          go_simp
          go_at_call 32
          have hP := absorb_v (S := Z) (c := ce) HB.out (Nat.le_of_eq HLE.out) (by rw [HLE.out]; exact hk64) (by omega) (HCN.out.grow H.g)
          rw [hZ2] at hP
          refine (hP).mono ?_
          rintro e y7 ⟨rfl, hg⟩
          replace H := H.grow hg
          replace HPE2 := Lib.hid (HPE2.out.grow hg)
          clear hg
          clear hP
          (refine Kr.outS hK (a' := ?_) ?_ ?_; rotate_left; (focus ((try simp only [Kr.PT]); first | done | rfl))); clear hK K
          refine Kr.seqR (by rfl) (fun K hK => ?_)
          refine wp_run rfl (stA8 (H.at 0 rfl) rfl rfl (oneCell_words _)) ?_
          have HPE2p := src_put (cs := (Z2.list.map w32).toArray) HPE2.out (H.at 0 rfl)
          obtain ⟨y8, hy⟩ : ∃ y, y7.setRow bs (Z2.list.map w32).toArray = y := ⟨_, rfl⟩
          rw [hy]
          rw [hy] at HPE2p
          replace HPE2 := Lib.hid HPE2p; clear HPE2p
          replace H := H.put 0 hy rfl
          dsimp only [List.set] at H
          clear hy
          (refine Kr.outS hK (a' := ?_) ?_ ?_; rotate_left; (focus ((try simp only [Kr.PT]); first | done | rfl))); clear hK K
          refine Kr.seqDoneW ?_
          go_upto_region 8 with fail
          refine Kr.seqStartW ?_
          (refine Kr.seqQ (v := ?_) (a' := ?_) (by rfl) ?_ ?_ ?_; rotate_left 2; (focus (go_simp; first | done | rfl)); (focus ((try simp only [Kr.PT]); first | done | rfl)))
          (refine Kr.seqQ (v := .slice (some pc) k2 c2) (a' := ?_) (by rfl) ?_ ?_ ?_; rotate_left 1; (focus (exact Kr.valOf rfl (hsl _))); (focus ((try simp only [Kr.PT]); first | done | rfl)))
          (refine Kr.seqQ (v := ?_) (a' := ?_) (by rfl) ?_ ?_ ?_; rotate_left 2; (focus (go_simp; first | done | rfl)); (focus ((try simp only [Kr.PT]); first | done | rfl)))
          refine Kr.seqDoneW ?_
          go_wp2; go_roundw
          case rel => exact ⟨some pc, k2, c2, le.drop 64, Z2, rfl, by omega, by omega, by omega, HLE2, HPE2, HAB2, Lib.hid H⟩
          case measure => simp; omega
        · have HC : decide ((0 : Int) < (ke : Int)) = false := decide_eq_false (by omega)
          have hle : le = [] := List.eq_nil_of_length_eq_zero (by rw [HLE.out]; omega)
          have hZR : Z = RES := by have h := HAB.out; rw [hle, absB_no (by decide)] at h; exact h
          subst hZR; clear HAB HPE HLE
          go_upto_region 7 with fail
          refine Kr.seqStartW ?_
          (refine Kr.seqQ (v := ?_) (a' := ?_) (by rfl) ?_ ?_ ?_; rotate_left 2; (focus (go_simp; first | done | rfl)); (focus ((try simp only [Kr.PT]); first | done | rfl)))
          (refine Kr.seqQ (v := ?_) (a' := ?_) (by rfl) ?_ ?_ ?_; rotate_left 2; (focus (go_simp; first | done | rfl)); (focus ((try simp only [Kr.PT]); first | done | rfl)))
          (refine Kr.seqQ (v := .bool false) (a' := ?_) (by rfl) ?_ ?_ ?_; rotate_left 1; (focus (exact Kr.valOf rfl (gtrI HC))); (focus ((try simp only [Kr.PT]); first | done | rfl)))
          refine Kr.seqDoneW ?_
          go_upto_region 10 with fail
          refine Kr.seqStartW ?_
          refine Kr.seqR (by rfl) (fun K hK => ?_)
          refine wp_runV rfl newH ?_
          obtain ⟨y9, hy⟩ : ∃ y, wr.alloc (.cells (List.replicate 32 (Value.int .u8 0)).toArray 25) = y := ⟨_, rfl⟩
          obtain ⟨bh, hb⟩ : ∃ b, wr.heap.size = b := ⟨_, rfl⟩
          rw [hy, hb]
          have hg : Gr wr y9 := hy ▸ (Gr.refl _).alloc _
          replace H := H.alloc hy hb
          clear hy hb hg
          (refine Kr.outS hK (a' := ?_) ?_ ?_; rotate_left; (focus ((try simp only [Kr.PT]); first | done | rfl))); clear hK K
          refine Kr.seqDoneW ?_
          go_upto_region 11 with fail
          refine Kr.seqStartW ?_
          (refine Kr.seqQ (v := .agg (Z.list.map w32).toArray) (a' := ?_) (by rfl) ?_ ?_ ?_; rotate_left 1; (focus (exact Kr.valOf rfl (ldA8 (H.at 1 rfl) rfl))); (focus ((try simp only [Kr.PT]); first | done | rfl)))
          (refine Kr.seqQ (v := ?_) (a' := ?_) (by rfl) ?_ ?_ ?_; rotate_left 2; (focus (go_simp; first | done | rfl)); (focus ((try simp only [Kr.PT]); first | done | rfl)))
          refine Kr.seqDoneW ?_
          rw [show List.replicate 32 (Value.int .u8 0) = padN 32 (outs (Z.list.take 0)) from rfl] at H
          have H2 := Lib.hid H; clear H HC
          go_wp2_with fail
          go_loopw [32] (fun iv wr => ∃ i : Nat, i ≤ 8 ∧ iv = .int .i64 (i : Int) ∧ Hid (Ow w wr [(bh, 25, padN 32 (outs (Z.list.take i))), (bs, 60, Z.list.map w32), (br, 25, padN 32 (outs (Z.list.take 0)))])) (fun iv _ => 8 - (intOf iv).toNat)
          case atStart => exact ⟨0, Nat.zero_le _, rfl, H2⟩
          case round =>
            clear H2; obtain ⟨i, hi, rfl, HH⟩ := hrel; have H := HH.out; clear HH
            have hol : (outs (Z.list.take i)).length = 4 * i := by rw [outs_length, List.length_take]; show 4 * min i 8 = _; omega
            by_cases hie : i = 8
            · have HC : decide ((i : Int) < 8) = false := decide_eq_false (by omega)
              rw [show Z.list.take i = Z.list from List.take_of_length_le (by rw [hie]; exact Nat.le_refl _), padN_full (show (outs Z.list).length = 32 from outs_length _)] at H; clear hie hol
              have h32 : ((outs Z.list).map w8).length = 32 := by rw [List.length_map]; exact outs_length _
              go_upto_region 12 with fail
              refine Kr.seqStartW ?_
              (refine Kr.seqQ (v := .bool false) (a' := ?_) (by rfl) ?_ ?_ ?_; rotate_left 1; (focus (exact Kr.valOf rfl (lssT HC))); (focus ((try simp only [Kr.PT]); first | done | rfl)))
              refine Kr.seqDoneW ?_
              go_upto_region 16 with fail
              refine Kr.seqStartW ?_
              (refine Kr.seqQ (v := .agg ((outs Z.list).map w8).toArray) (a' := ?_) (by rfl) ?_ ?_ ?_; rotate_left 1; (focus (exact Kr.valOf rfl (ldH (H.at 0 rfl) h32))); (focus ((try simp only [Kr.PT]); first | done | rfl)))
              refine Kr.seqR (by rfl) (fun K hK => ?_)
              refine wp_run rfl (stH (H.at 2 rfl) (padN_length (show (outs (Z.list.take 0)).length ≤ 32 from Nat.zero_le _)) h32 (oneCell_bytes _)) ?_
              obtain ⟨y10, hy⟩ : ∃ y, wr.setRow br ((outs Z.list).map w8).toArray = y := ⟨_, rfl⟩
              rw [hy]
              replace H := H.put 2 hy rfl
              dsimp only [List.set] at H
              clear hy
              (refine Kr.outS hK (a' := ?_) ?_ ?_; rotate_left; (focus ((try simp only [Kr.PT]); first | done | rfl))); clear hK K
              refine Kr.seqDoneW ?_
              go_wp2
              refine bodyPost_ret (v := .agg ((outs Z.list).map w8).toArray) (results_cell_row rfl _ _ br 25 _ _ _ (by rfl) (H.at 2 rfl) Tryd.underlying25 rfl (by rw [List.size_toArray, h32]; exact infoH)) rfl ⟨rfl, H.g⟩
            · have hil : i < 8 := by omega
              have HC : decide ((i : Int) < 8) = true := decide_eq_true (by omega)
              obtain ⟨x0, hx0⟩ : ∃ x, Z.list.getD i 0 = x := ⟨_, rfl⟩
              have hgx : Z.list[i]? = some x0 := hx0 ▸ getD_of hil
              have htk : outs (Z.list.take (i + 1)) = outs (Z.list.take i) ++ four x0 := by rw [List.take_add_one, hgx]; exact outs_snoc _ _
              obtain ⟨j0, hj0⟩ : ∃ j, 4 * i = j := ⟨_, rfl⟩
              obtain ⟨j1, hj1⟩ : ∃ j, j0 + 1 = j := ⟨_, rfl⟩
              obtain ⟨j2, hj2⟩ : ∃ j, j0 + 2 = j := ⟨_, rfl⟩
              obtain ⟨j3, hj3⟩ : ∃ j, j0 + 3 = j := ⟨_, rfl⟩
              have h4 : IntKind.i64.wrap ((4 : Int) * (i : Int)) = (j0 : Int) := wrap_nat (by omega) (by omega)
              have ha1 : IntKind.i64.wrap ((j0 : Int) + 1) = (j1 : Int) := wrap_nat (by omega) (by omega)
              have ha2 : IntKind.i64.wrap ((j0 : Int) + 2) = (j2 : Int) := wrap_nat (by omega) (by omega)
              have ha3 : IntKind.i64.wrap ((j0 : Int) + 3) = (j3 : Int) := wrap_nat (by omega) (by omega)
              obtain ⟨y0, hy0⟩ : ∃ y, x0 >>> 24 = y := ⟨_, rfl⟩
              obtain ⟨y1, hy1⟩ : ∃ y, x0 >>> 16 = y := ⟨_, rfl⟩
              obtain ⟨y2, hy2⟩ : ∃ y, x0 >>> 8 = y := ⟨_, rfl⟩
              obtain ⟨z0, hz0⟩ : ∃ y, (y0).setWidth 8 = y := ⟨_, rfl⟩
              obtain ⟨z1, hz1⟩ : ∃ y, (y1).setWidth 8 = y := ⟨_, rfl⟩
              obtain ⟨z2, hz2⟩ : ∃ y, (y2).setWidth 8 = y := ⟨_, rfl⟩
              obtain ⟨z3, hz3⟩ : ∃ y, (x0).setWidth 8 = y := ⟨_, rfl⟩
              have hf : four x0 = [z0, z1, z2, z3] := by unfold four; rw [hy0, hy1, hy2, hz0, hz1, hz2, hz3]
              go_upto_region 12 with fail
              refine Kr.seqStartW ?_
              (refine Kr.seqQ (v := .bool true) (a' := ?_) (by rfl) ?_ ?_ ?_; rotate_left 1; (focus (exact Kr.valOf rfl (lssT HC))); (focus ((try simp only [Kr.PT]); first | done | rfl)))
              refine Kr.seqDoneW ?_
              go_upto_region 13 with fail
              refine Kr.seqStartW ?_
              (refine Kr.seqQ (v := ?_) (a' := ?_) (by rfl) ?_ ?_ ?_; rotate_left 2; (focus (go_simp; first | done | rfl)); (focus ((try simp only [Kr.PT]); first | done | rfl)))
              (refine Kr.seqQ (v := .int .u32 ((x0).toNat : Int)) (a' := ?_) (by rfl) ?_ ?_ ?_; rotate_left 1; (focus (exact Kr.valOf rfl (atA8 (l := Z.list.map w32) rfl (map_get32 hgx)))); (focus ((try simp only [Kr.PT]); first | done | rfl)))
              (refine Kr.seqQ (v := ?_) (a' := ?_) (by rfl) ?_ ?_ ?_; rotate_left 2; (focus (go_simp; first | done | rfl)); (focus ((try simp only [Kr.PT]); first | done | rfl)))
              (refine Kr.seqQ (v := ?_) (a' := ?_) (by rfl) ?_ ?_ ?_; rotate_left 2; (focus (go_simp; first | done | rfl)); (focus ((try simp only [Kr.PT]); first | done | rfl)))
              refine Kr.seqDoneW ?_
              go_upto_region 14 with fail
              refine Kr.seqStartW ?_
              (refine Kr.seqQ (v := ?_) (a' := ?_) (by rfl) ?_ ?_ ?_; rotate_left 2; (focus (go_simp; first | done | rfl)); (focus ((try simp only [Kr.PT]); first | done | rfl)))
              (refine Kr.seqQ (v := .int .i64 (j0 : Int)) (a' := ?_) (by rfl) ?_ ?_ ?_; rotate_left 1; (focus (exact Kr.valOf rfl (mulI h4))); (focus ((try simp only [Kr.PT]); first | done | rfl)))
              (refine Kr.seqQ (v := ?_) (a' := ?_) (by rfl) ?_ ?_ ?_; rotate_left 2; (focus (go_simp; first | done | rfl)); (focus ((try simp only [Kr.PT]); first | done | rfl)))
              (refine Kr.seqQ (v := .int .i64 (j0 : Int)) (a' := ?_) (by rfl) ?_ ?_ ?_; rotate_left 1; (focus (exact Kr.valOf rfl (mulI h4))); (focus ((try simp only [Kr.PT]); first | done | rfl)))
              (refine Kr.seqQ (v := .int .i64 (j1 : Int)) (a' := ?_) (by rfl) ?_ ?_ ?_; rotate_left 1; (focus (exact Kr.valOf rfl (addI ha1))); (focus ((try simp only [Kr.PT]); first | done | rfl)))
              (refine Kr.seqQ (v := ?_) (a' := ?_) (by rfl) ?_ ?_ ?_; rotate_left 2; (focus (go_simp; first | done | rfl)); (focus ((try simp only [Kr.PT]); first | done | rfl)))
              (refine Kr.seqQ (v := .int .i64 (j0 : Int)) (a' := ?_) (by rfl) ?_ ?_ ?_; rotate_left 1; (focus (exact Kr.valOf rfl (mulI h4))); (focus ((try simp only [Kr.PT]); first | done | rfl)))
              (refine Kr.seqQ (v := .int .i64 (j2 : Int)) (a' := ?_) (by rfl) ?_ ?_ ?_; rotate_left 1; (focus (exact Kr.valOf rfl (addI ha2))); (focus ((try simp only [Kr.PT]); first | done | rfl)))
              (refine Kr.seqQ (v := ?_) (a' := ?_) (by rfl) ?_ ?_ ?_; rotate_left 2; (focus (go_simp; first | done | rfl)); (focus ((try simp only [Kr.PT]); first | done | rfl)))
              (refine Kr.seqQ (v := .int .i64 (j0 : Int)) (a' := ?_) (by rfl) ?_ ?_ ?_; rotate_left 1; (focus (exact Kr.valOf rfl (mulI h4))); (focus ((try simp only [Kr.PT]); first | done | rfl)))
              (refine Kr.seqQ (v := .int .i64 (j3 : Int)) (a' := ?_) (by rfl) ?_ ?_ ?_; rotate_left 1; (focus (exact Kr.valOf rfl (addI ha3))); (focus ((try simp only [Kr.PT]); first | done | rfl)))
              (refine Kr.seqQ (v := ?_) (a' := ?_) (by rfl) ?_ ?_ ?_; rotate_left 2; (focus (go_simp; first | done | rfl)); (focus ((try simp only [Kr.PT]); first | done | rfl)))
              (refine Kr.seqQ (v := .int .u32 ((y0).toNat : Int)) (a' := ?_) (by rfl) ?_ ?_ ?_; rotate_left 1; (focus (exact Kr.valOf rfl ((by rw [← hy0]; exact shr24W)))); (focus ((try simp only [Kr.PT]); first | done | rfl)))
              (refine Kr.seqQ (v := .int .u8 ((z0).toNat : Int)) (a' := ?_) (by rfl) ?_ ?_ ?_; rotate_left 1; (focus (exact Kr.valOf rfl ((by rw [← hz0]; exact conv32B)))); (focus ((try simp only [Kr.PT]); first | done | rfl)))
              (refine Kr.seqQ (v := ?_) (a' := ?_) (by rfl) ?_ ?_ ?_; rotate_left 2; (focus (go_simp; first | done | rfl)); (focus ((try simp only [Kr.PT]); first | done | rfl)))
              (refine Kr.seqQ (v := .int .u32 ((y1).toNat : Int)) (a' := ?_) (by rfl) ?_ ?_ ?_; rotate_left 1; (focus (exact Kr.valOf rfl ((by rw [← hy1]; exact shr16W)))); (focus ((try simp only [Kr.PT]); first | done | rfl)))
              (refine Kr.seqQ (v := .int .u8 ((z1).toNat : Int)) (a' := ?_) (by rfl) ?_ ?_ ?_; rotate_left 1; (focus (exact Kr.valOf rfl ((by rw [← hz1]; exact conv32B)))); (focus ((try simp only [Kr.PT]); first | done | rfl)))
              (refine Kr.seqQ (v := ?_) (a' := ?_) (by rfl) ?_ ?_ ?_; rotate_left 2; (focus (go_simp; first | done | rfl)); (focus ((try simp only [Kr.PT]); first | done | rfl)))
              (refine Kr.seqQ (v := .int .u32 ((y2).toNat : Int)) (a' := ?_) (by rfl) ?_ ?_ ?_; rotate_left 1; (focus (exact Kr.valOf rfl ((by rw [← hy2]; exact shr8W)))); (focus ((try simp only [Kr.PT]); first | done | rfl)))
              (refine Kr.seqQ (v := .int .u8 ((z2).toNat : Int)) (a' := ?_) (by rfl) ?_ ?_ ?_; rotate_left 1; (focus (exact Kr.valOf rfl ((by rw [← hz2]; exact conv32B)))); (focus ((try simp only [Kr.PT]); first | done | rfl)))
              (refine Kr.seqQ (v := ?_) (a' := ?_) (by rfl) ?_ ?_ ?_; rotate_left 2; (focus (go_simp; first | done | rfl)); (focus ((try simp only [Kr.PT]); first | done | rfl)))
              (refine Kr.seqQ (v := .int .u8 ((z3).toNat : Int)) (a' := ?_) (by rfl) ?_ ?_ ?_; rotate_left 1; (focus (exact Kr.valOf rfl ((by rw [← hz3]; exact conv32B)))); (focus ((try simp only [Kr.PT]); first | done | rfl)))
              (refine Kr.seqQ (v := .pointer (some ⟨bh, j0, none⟩)) (a' := ?_) (by rfl) ?_ ?_ ?_; rotate_left 1; (focus (exact Kr.valOf rfl (ixH (by omega)))); (focus ((try simp only [Kr.PT]); first | done | rfl)))
              refine Kr.seqR (by rfl) (fun K hK => ?_)
              obtain ⟨v0, hv0⟩ := padN_any (N := 32) (l := outs (Z.list.take i)) (j := j0) (by first | omega | (simp; omega)) (by omega)
              refine wp_run rfl (stE8 (H.cell 0 rfl hv0) (H.frozen 0 rfl j0)) ?_
              obtain ⟨y11, hy⟩ : ∃ y, wr.setCell ⟨bh, j0, none⟩ (.int .u8 ((z0).toNat : Int)) = y := ⟨_, rfl⟩
              rw [hy]
              replace H := H.set 0 (j0) hy rfl
              dsimp only [List.set] at H
              clear hy
              rw [padN_set (by first | omega | (simp; omega)) (by omega)] at H
              (refine Kr.outS hK (a' := ?_) ?_ ?_; rotate_left; (focus ((try simp only [Kr.PT]); first | done | rfl))); clear hK K
              (refine Kr.seqQ (v := .pointer (some ⟨bh, j1, none⟩)) (a' := ?_) (by rfl) ?_ ?_ ?_; rotate_left 1; (focus (exact Kr.valOf rfl (ixH (by omega)))); (focus ((try simp only [Kr.PT]); first | done | rfl)))
              refine Kr.seqR (by rfl) (fun K hK => ?_)
              obtain ⟨v1, hv1⟩ := padN_any (N := 32) (l := outs (Z.list.take i) ++ [z0]) (j := j1) (by first | omega | (simp; omega)) (by omega)
              refine wp_run rfl (stE8 (H.cell 0 rfl hv1) (H.frozen 0 rfl j1)) ?_
              obtain ⟨y12, hy⟩ : ∃ y, y11.setCell ⟨bh, j1, none⟩ (.int .u8 ((z1).toNat : Int)) = y := ⟨_, rfl⟩
              rw [hy]
              replace H := H.set 0 (j1) hy rfl
              dsimp only [List.set] at H
              clear hy
              rw [padN_set (by first | omega | (simp; omega)) (by omega)] at H
              (refine Kr.outS hK (a' := ?_) ?_ ?_; rotate_left; (focus ((try simp only [Kr.PT]); first | done | rfl))); clear hK K
              (refine Kr.seqQ (v := .pointer (some ⟨bh, j2, none⟩)) (a' := ?_) (by rfl) ?_ ?_ ?_; rotate_left 1; (focus (exact Kr.valOf rfl (ixH (by omega)))); (focus ((try simp only [Kr.PT]); first | done | rfl)))
              refine Kr.seqR (by rfl) (fun K hK => ?_)
              obtain ⟨v2, hv2⟩ := padN_any (N := 32) (l := outs (Z.list.take i) ++ [z0] ++ [z1]) (j := j2) (by first | omega | (simp; omega)) (by omega)
              refine wp_run rfl (stE8 (H.cell 0 rfl hv2) (H.frozen 0 rfl j2)) ?_
              obtain ⟨y13, hy⟩ : ∃ y, y12.setCell ⟨bh, j2, none⟩ (.int .u8 ((z2).toNat : Int)) = y := ⟨_, rfl⟩
              rw [hy]
              replace H := H.set 0 (j2) hy rfl
              dsimp only [List.set] at H
              clear hy
              rw [padN_set (by first | omega | (simp; omega)) (by omega)] at H
              (refine Kr.outS hK (a' := ?_) ?_ ?_; rotate_left; (focus ((try simp only [Kr.PT]); first | done | rfl))); clear hK K
              (refine Kr.seqQ (v := .pointer (some ⟨bh, j3, none⟩)) (a' := ?_) (by rfl) ?_ ?_ ?_; rotate_left 1; (focus (exact Kr.valOf rfl (ixH (by omega)))); (focus ((try simp only [Kr.PT]); first | done | rfl)))
              refine Kr.seqR (by rfl) (fun K hK => ?_)
              obtain ⟨v3, hv3⟩ := padN_any (N := 32) (l := outs (Z.list.take i) ++ [z0] ++ [z1] ++ [z2]) (j := j3) (by first | omega | (simp; omega)) (by omega)
              refine wp_run rfl (stE8 (H.cell 0 rfl hv3) (H.frozen 0 rfl j3)) ?_
              obtain ⟨y14, hy⟩ : ∃ y, y13.setCell ⟨bh, j3, none⟩ (.int .u8 ((z3).toNat : Int)) = y := ⟨_, rfl⟩
              rw [hy]
              replace H := H.set 0 (j3) hy rfl
              dsimp only [List.set] at H
              clear hy
              rw [padN_set (by first | omega | (simp; omega)) (by omega)] at H
              (refine Kr.outS hK (a' := ?_) ?_ ?_; rotate_left; (focus ((try simp only [Kr.PT]); first | done | rfl))); clear hK K
              refine Kr.seqDoneW ?_
              rw [show outs (Z.list.take i) ++ [z0] ++ [z1] ++ [z2] ++ [z3] = outs (Z.list.take (i + 1)) by rw [htk, hf]; simp] at H
              have HADD : IntKind.i64.wrap ((i : Int) + 1) = ((i + 1 : Nat) : Int) := wrap_nat (by omega) (by omega)
              go_upto_region 15 with fail
              refine Kr.seqStartW ?_
              (refine Kr.seqQ (v := .int .i64 ((i + 1 : Nat) : Int)) (a' := ?_) (by rfl) ?_ ?_ ?_; rotate_left 1; (focus (exact Kr.valOf rfl (addI HADD))); (focus ((try simp only [Kr.PT]); first | done | rfl)))
              (refine Kr.seqQ (v := ?_) (a' := ?_) (by rfl) ?_ ?_ ?_; rotate_left 2; (focus (go_simp; first | done | rfl)); (focus ((try simp only [Kr.PT]); first | done | rfl)))
              refine Kr.seqDoneW ?_
              go_wp2; go_roundw
              case rel => exact ⟨i + 1, by omega, rfl, Lib.hid H⟩
              case measure => simp [intOf]; omega
end Go.Proofs.YtilbojcghladjaaDoor.Dg


/- Texts of bytes; rows of bytes that grow. -/
namespace Go.Proofs.YtilbojcghladjaaDoor.Dg
open Go Go.RowKit Go.Proofs.YtilbojcghladjaaDoor.Ne Go.Proofs.YtilbojcghladjaaDoor.Kr

/-- A text as bytes. -/
def strB (l : List (BitVec 8)) : ByteArray := ⟨(l.map UInt8.ofBitVec).toArray⟩
theorem strB_inj {l m : List (BitVec 8)} (h : strB l = strB m) : l = m := by
  have h1 : l.map UInt8.ofBitVec = m.map UInt8.ofBitVec := by
    have h2 := congrArg (fun s : ByteArray => s.data.toList) h
    simpa [strB] using h2
  have h3 := congrArg (List.map UInt8.toBitVec) h1
  simpa [List.map_map, Function.comp_def] using h3
/-- The digits. -/
def hexs : List (BitVec 8) := [48, 49, 50, 51, 52, 53, 54, 55, 56, 57, 97, 98, 99, 100, 101, 102]
def dig (q : Nat) : BitVec 8 := hexs.getD q 0
def two (x : BitVec 8) : List (BitVec 8) := [dig (x.toNat / 16), dig (x.toNat % 16)]
/-- The text of bytes. -/
def hexL (l : List (BitVec 8)) : List (BitVec 8) := l.flatMap two
theorem hexL_snoc (l : List (BitVec 8)) (x : BitVec 8) : hexL (l ++ [x]) = hexL l ++ two x := by
  unfold hexL; rw [List.flatMap_append]; simp
theorem hexL_length : ∀ l : List (BitVec 8), (hexL l).length = 2 * l.length
  | [] => rfl
  | x :: r => by
    have := hexL_length r
    unfold hexL at this ⊢
    rw [List.flatMap_cons, List.length_append, this]
    show 2 + 2 * r.length = 2 * (r.length + 1)
    omega
theorem atHex : ∀ (q : Nat), q < 16 → ∀ w : World, (Instr.index 9 (.string ⟨#[48, 49, 50, 51, 52, 53, 54, 55, 56, 57, 97, 98, 99, 100, 101, 102]⟩) (.int .u8 (q : Int))).run Tryd.prog w = .ok (.int .u8 ((dig q).toNat : Int)) w
  | 0, _, _ => by kernel_rfl
  | 1, _, _ => by kernel_rfl
  | 2, _, _ => by kernel_rfl
  | 3, _, _ => by kernel_rfl
  | 4, _, _ => by kernel_rfl
  | 5, _, _ => by kernel_rfl
  | 6, _, _ => by kernel_rfl
  | 7, _, _ => by kernel_rfl
  | 8, _, _ => by kernel_rfl
  | 9, _, _ => by kernel_rfl
  | 10, _, _ => by kernel_rfl
  | 11, _, _ => by kernel_rfl
  | 12, _, _ => by kernel_rfl
  | 13, _, _ => by kernel_rfl
  | 14, _, _ => by kernel_rfl
  | 15, _, _ => by kernel_rfl
  | _ + 16, h, _ => absurd h (by omega)
theorem shr4B {w : World} {x : BitVec 8} {q : Nat} (h : x.toNat / 16 = q) : (binOp .shr 5 (.int .u8 (x.toNat : Int)) (.int .u64 4)).run Tryd.prog w = .ok (.int .u8 (q : Int)) w := by
  have e : (x.toNat : Int) / 16 = (q : Int) := by omega
  clear h
  go_simp
  first | done | exact e
theorem and15 (n : Nat) : n &&& 15 = n % 16 := Nat.and_two_pow_sub_one_eq_mod n 4
theorem and15B {w : World} {x : BitVec 8} {q : Nat} (h : x.toNat % 16 = q) : (binOp .and 5 (.int .u8 (x.toNat : Int)) (.int .u8 15)).run Tryd.prog w = .ok (.int .u8 (q : Int)) w := by
  have e : bits BinOp.and IntKind.u8 (x.toNat : Int) 15 = (q : Int) := by
    rw [show (15 : Int) = ((15 : Nat) : Int) from rfl, u8_and_nat _ _ x.isLt (by decide), and15, h]
  clear h
  go_simp
  first | done | exact e
theorem boxH {w : World} {l : List Value} : (Instr.box 25 (.agg l.toArray)).run Tryd.prog w = .ok (.pointer (some ⟨w.heap.size, 0, none⟩)) (w.alloc (.cells l.toArray 25)) := by
  go_simp
/-- The slice v is the call's own and holds these bytes. -/
def RowB (B : Nat) (v : Value) (r : List (BitVec 8)) (W : World) : Prop := W.ownsRow B 5 1 v r.length (r.map w8)
theorem RowB.start (B : Nat) (W : World) : RowB B (.slice none 0 0) [] W := ⟨by simp, .inl ⟨rfl, rfl⟩⟩
theorem RowB.grow {B : Nat} {v : Value} {r : List (BitVec 8)} {W W' : World} (h : RowB B v r W) (g : Gr W W') : RowB B v r W' := Nr2.ownsRow_below h g
theorem RowB.lt {B : Nat} {v : Value} {r : List (BitVec 8)} {W : World} (h : RowB B v r W) : ∀ k, v.ownBlock = some k → B ≤ k ∧ k < W.heap.size := World.ownsRow.lt h
theorem RowB.src {B : Nat} {v : Value} {r : List (BitVec 8)} {W : World} (h : RowB B v r W) : ∃ p c, v = .slice p r.length c ∧ r.length ≤ c ∧ SrcB p r W := by
  rcases h.2 with ⟨h1, h2⟩ | ⟨g, cap, cur, h1, _, h3, h4, _, _, h6⟩
  · exact ⟨none, 0, by rw [h1, h2], by omega, .inl (List.eq_nil_of_length_eq_zero h2)⟩
  · refine ⟨_, cap, h1, h4, .inr ⟨g, 0, rfl, fun j x hx => ?_⟩⟩
    have hj : j < r.length := (List.getElem?_eq_some_iff.1 hx).1
    rw [Nat.zero_add, cell_of_row W g j cur _ _ h3]
    have h7 : (r.map w8)[j]? = some (w8 x) := by rw [List.getElem?_map, hx]; rfl
    rw [← h6, List.getElem?_take, if_pos (by omega)] at h7
    simpa using h7
theorem gr_grown {w W W' : World} {row : Option Nat} (H : Gr w W) (g : W.grownBy W' row) (hr : ∀ k, row = some k → w.heap.size ≤ k) : Gr w W' := by
  refine ⟨g.os.trans H.os, g.tape.trans H.tape, g.output.trans H.output, Nat.le_trans H.size g.size, fun k hk => ?_⟩
  rw [← H.block k hk]
  refine g.block k (Nat.lt_of_lt_of_le hk H.size) (fun e => ?_)
  have := hr k e.symm
  omega
/-- Bytes have been appended. -/
theorem bytes_append {w W W' : World} {v v1 : Value} {r d : List (BitVec 8)} (H : Ow w W []) (HR : RowB w.heap.size v r W)
    (ho : W'.ownsRow w.heap.size 5 1 v1 (r.length + d.length) (r.map w8 ++ d.map w8)) (hg : W.grownBy W' v.ownBlock) : Ow w W' [] ∧ RowB w.heap.size v1 (r ++ d) W' := by
  refine ⟨⟨gr_grown H.g hg (fun k e => (HR.lt k e).1), fun _ h => (by cases h), fun _ h => (by cases h), List.Pairwise.nil⟩, ?_⟩
  show W'.ownsRow w.heap.size 5 1 v1 (r ++ d).length ((r ++ d).map w8)
  rw [List.map_append, List.length_append]
  exact ho
theorem row_alloc {w : World} {l : List Value} {T : TypeId} : ∀ (j : Nat) (u : Value), l[j]? = some u → (w.alloc (.cells l.toArray T)).cell? ((⟨w.heap.size, 0, none⟩ : Addr).add j) = some u := fun j u hu => by
  rw [addr_add, Nat.zero_add, cell_of_row _ _ j _ _ _ (heap_alloc_last w _)]
  simpa using hu
theorem run_str {W : World} {p : Option Addr} {n c : Nat} {l : List (BitVec 8)} (h : SrcB p l W) (hl : l.length = n) : (convert 22 9 (.slice p n c)).run Tryd.prog W = .ok (.string (strB l)) W := by
  rcases h with h | ⟨b, off, rfl, h⟩
  · subst h
    obtain rfl : n = 0 := hl.symm
    cases p with
    | none =>
      have h2 := run_convert_bytes_string (P := Tryd.prog) W 22 9 5 none 0 c Tryd.underlying22 Tryd.underlying5 Tryd.underlying9
      rw [h2]
      simp [Conv.bytesToString, go_sem]
      rfl
    | some a => exact run_convert_bytes_back W _ _ 5 a c [] Tryd.underlying22 Tryd.underlying5 Tryd.underlying9 (fun j hj => absurd hj (Nat.not_lt_zero _))
  · have h1 : n = (l.map UInt8.ofBitVec).length := by rw [List.length_map, hl]
    subst h1
    refine run_convert_bytes_back W _ _ 5 ⟨b, off, none⟩ c (l.map UInt8.ofBitVec) Tryd.underlying22 Tryd.underlying5 Tryd.underlying9 (fun j hj => ?_)
    have hj' : j < l.length := by simpa using hj
    rw [addr_add, h j _ (List.getElem?_eq_getElem hj')]
    simp [w8]
end Go.Proofs.YtilbojcghladjaaDoor.Dg


/- Hex. -/
namespace Go.Proofs.YtilbojcghladjaaDoor.Dg
open Go Go.RowKit Go.Proofs.YtilbojcghladjaaDoor.Ne Go.Proofs.YtilbojcghladjaaDoor.Kr

set_option linter.unusedSimpArgs false in
set_option maxRecDepth 100000 in
set_option maxHeartbeats 16000000 in
theorem Hex_v {l : List (BitVec 8)} {w : World} (hl : l.length = 32) :
    Calls Tryd.prog 23 #[.agg (l.map w8).toArray] w fun e w' => e = .returned (.string (strB (hexL l))) ∧ Gr w w' := by
  have hl32 : (l.map w8).length = 32 := by rw [List.length_map]; exact hl
  obtain ⟨S, hS⟩ : ∃ S, strB (hexL l) = S := ⟨_, rfl⟩
  rw [hS]
  have H := Ow.start w
  go_enter Tryd.func23, Tryd.ntmps23
  go_upto_region 0 with fail
  refine Kr.seqStartW ?_
  refine Kr.seqR (by rfl) (fun K hK => ?_)
  refine wp_runV rfl boxH ?_
  obtain ⟨y1, hy⟩ : ∃ y, w.alloc (.cells (l.map w8).toArray 25) = y := ⟨_, rfl⟩
  obtain ⟨bh, hb⟩ : ∃ b, w.heap.size = b := ⟨_, rfl⟩
  rw [hy, hb]
  have hg : Gr w y1 := hy ▸ (Gr.refl _).alloc _
  replace H := H.alloc hy hb
  clear hy hb hg
  (refine Kr.outS hK (a' := ?_) ?_ ?_; rotate_left; (focus ((try simp only [Kr.PT]); first | done | rfl))); clear hK K
  (refine Kr.seqQ (v := ?_) (a' := ?_) (by rfl) ?_ ?_ ?_; rotate_left 2; (focus (go_simp; first | done | rfl)); (focus ((try simp only [Kr.PT]); first | done | rfl)))
  refine Kr.seqDoneW ?_
  go_upto_region 1 with fail
  refine Kr.seqStartW ?_
  (refine Kr.seqQ (v := ?_) (a' := ?_) (by rfl) ?_ ?_ ?_; rotate_left 2; (focus (go_simp; first | done | rfl)); (focus ((try simp only [Kr.PT]); first | done | rfl)))
  refine Kr.seqDoneW ?_
  go_upto_region 2 with fail
  refine Kr.seqStartW ?_
  (refine Kr.seqQ (v := .agg (l.map w8).toArray) (a' := ?_) (by rfl) ?_ ?_ ?_; rotate_left 1; (focus (exact Kr.valOf rfl (ldH (H.at 0 rfl) hl32))); (focus ((try simp only [Kr.PT]); first | done | rfl)))
  (refine Kr.seqQ (v := ?_) (a' := ?_) (by rfl) ?_ ?_ ?_; rotate_left 2; (focus (go_simp; first | done | rfl)); (focus ((try simp only [Kr.PT]); first | done | rfl)))
  refine Kr.seqDoneW ?_
  replace H := H.drop 1; dsimp only [List.drop] at H
  have h0 : Hid (RowB w.heap.size (.slice none 0 0) (hexL (l.take 0)) y1) := Lib.hid (RowB.start _ _)
  have H2 := Lib.hid H; clear H
  go_wp2_with fail
  go_loopw [3, 7] (fun v iv wr => ∃ i : Nat, i ≤ 32 ∧ iv = .int .i64 (i : Int) ∧ Hid (RowB w.heap.size v (hexL (l.take i)) wr) ∧ Hid (Ow w wr [])) (fun _ iv _ => 32 - (intOf iv).toNat)
  case atStart => exact ⟨0, Nat.zero_le _, rfl, h0, H2⟩
  case round =>
    clear H2 h0; obtain ⟨i, hi, rfl, HR, HH⟩ := hrel; have H := HH.out; clear HH
    have hrl : (hexL (l.take i)).length = 2 * i := by rw [hexL_length, List.length_take, hl]; omega
    by_cases hie : i = 32
    · have HC : decide ((i : Int) < 32) = false := decide_eq_false (by omega)
      rw [show l.take i = l from List.take_of_length_le (by omega)] at HR hrl; clear hie
      obtain ⟨p, c, rfl, _, hsrc⟩ := HR.out.src
      have HSRC := Lib.hid hsrc; clear hsrc
      obtain ⟨m, hm⟩ : ∃ m, (hexL l).length = m := ⟨_, rfl⟩
      rw [hm]
      go_upto_region 3 with fail
      refine Kr.seqStartW ?_
      (refine Kr.seqQ (v := .bool false) (a' := ?_) (by rfl) ?_ ?_ ?_; rotate_left 1; (focus (exact Kr.valOf rfl (lssT HC))); (focus ((try simp only [Kr.PT]); first | done | rfl)))
      refine Kr.seqDoneW ?_
      go_upto_region 7 with fail
      refine Kr.seqStartW ?_
      (refine Kr.seqQ (v := ?_) (a' := ?_) (by rfl) ?_ ?_ ?_; rotate_left 2; (focus (go_simp; first | done | rfl)); (focus ((try simp only [Kr.PT]); first | done | rfl)))
      (refine Kr.seqQ (v := .string S) (a' := ?_) (by rfl) ?_ ?_ ?_; rotate_left 1; (focus (exact Kr.valOf rfl ((by rw [← hS]; exact run_str HSRC.out hm)))); (focus ((try simp only [Kr.PT]); first | done | rfl)))
      (refine Kr.seqQ (v := ?_) (a' := ?_) (by rfl) ?_ ?_ ?_; rotate_left 2; (focus (go_simp; first | done | rfl)); (focus ((try simp only [Kr.PT]); first | done | rfl)))
      refine Kr.seqDoneW ?_
      have hk := trivial
      go_wp2
      refine bodyPost_ret (v := .string S) (by simp [results, Tryd.results23, go_sem, hk]) rfl ⟨rfl, H.g⟩
    · have hil : i < 32 := by omega
      have HC : decide ((i : Int) < 32) = true := decide_eq_true (by omega)
      obtain ⟨x0, hx0⟩ : ∃ x, l.getD i 0 = x := ⟨_, rfl⟩
      have hgx : l[i]? = some x0 := hx0 ▸ getD_of (by omega)
      obtain ⟨q0, hq0⟩ : ∃ q, x0.toNat / 16 = q := ⟨_, rfl⟩
      obtain ⟨q1, hq1⟩ : ∃ q, x0.toNat % 16 = q := ⟨_, rfl⟩
      have hq0l : q0 < 16 := by have := x0.isLt; omega
      have hq1l : q1 < 16 := by omega
      obtain ⟨d0, hd0⟩ : ∃ d, dig q0 = d := ⟨_, rfl⟩
      obtain ⟨d1, hd1⟩ : ∃ d, dig q1 = d := ⟨_, rfl⟩
      have htk : hexL (l.take (i + 1)) = hexL (l.take i) ++ [d0, d1] := by rw [List.take_add_one, hgx]; exact (hexL_snoc _ _).trans (by rw [two, hq0, hq1, hd0, hd1])
      go_upto_region 3 with fail
      refine Kr.seqStartW ?_
      (refine Kr.seqQ (v := .bool true) (a' := ?_) (by rfl) ?_ ?_ ?_; rotate_left 1; (focus (exact Kr.valOf rfl (lssT HC))); (focus ((try simp only [Kr.PT]); first | done | rfl)))
      refine Kr.seqDoneW ?_
      go_upto_region 4 with fail
      refine Kr.seqStartW ?_
      (refine Kr.seqQ (v := .int .u8 ((x0).toNat : Int)) (a' := ?_) (by rfl) ?_ ?_ ?_; rotate_left 1; (focus (exact Kr.valOf rfl (atH hl32 (map_get8 hgx)))); (focus ((try simp only [Kr.PT]); first | done | rfl)))
      (refine Kr.seqQ (v := ?_) (a' := ?_) (by rfl) ?_ ?_ ?_; rotate_left 2; (focus (go_simp; first | done | rfl)); (focus ((try simp only [Kr.PT]); first | done | rfl)))
      refine Kr.seqDoneW ?_
      go_upto_region 5 with fail
      refine Kr.startL (fun W' => True) [] (by kernel_rfl) ?_
      have gd : Gr wr wr.drew := (Gr.refl _).drew
      generalize wr.drew = d2 at gd ⊢
      replace H := H.grow gd
      replace HR := Lib.hid (HR.out.grow gd)
      clear gd
      (refine Kr.tPQ 0 (v := ?_) (a' := ?_) rfl (by kernel_rfl) (fun _ _ _ h => h) (by rfl) (fun _ => trivial) (fun wx => ?_) ?_ ?_; rotate_left 2; (focus (go_simp; first | done | rfl)); (focus ((try simp only [Kr.PT]); first | done | rfl)))
      (refine Kr.tPQ 1 (v := ?_) (a' := ?_) rfl (by kernel_rfl) (fun _ _ _ h => h) (by rfl) (fun _ => trivial) (fun wx => ?_) ?_ ?_; rotate_left 2; (focus (go_simp; first | done | rfl)); (focus ((try simp only [Kr.PT]); first | done | rfl)))
      (refine Kr.tPQ 2 (v := .int .u8 (q0 : Int)) (a' := ?_) rfl (by kernel_rfl) (fun _ _ _ h => h) (by rfl) (fun _ => trivial) (fun wx => ?_) ?_ ?_; rotate_left 1; (focus (exact Kr.valOf rfl (shr4B hq0))); (focus ((try simp only [Kr.PT]); first | done | rfl)))
      (refine Kr.tPQ 3 (v := .int .u8 ((d0).toNat : Int)) (a' := ?_) rfl (by kernel_rfl) (fun _ _ _ h => h) (by rfl) (fun _ => trivial) (fun wx => ?_) ?_ ?_; rotate_left 1; (focus (exact Kr.valOf rfl ((by rw [← hd0]; exact atHex q0 hq0l _)))); (focus ((try simp only [Kr.PT]); first | done | rfl)))
      (refine Kr.tPQ 4 (v := ?_) (a' := ?_) rfl (by kernel_rfl) (fun _ _ _ h => h) (by rfl) (fun _ => trivial) (fun wx => ?_) ?_ ?_; rotate_left 2; (focus (go_simp; first | done | rfl)); (focus ((try simp only [Kr.PT]); first | done | rfl)))
      (refine Kr.tPQ 5 (v := .int .u8 (q1 : Int)) (a' := ?_) rfl (by kernel_rfl) (fun _ _ _ h => h) (by rfl) (fun _ => trivial) (fun wx => ?_) ?_ ?_; rotate_left 1; (focus (exact Kr.valOf rfl (and15B hq1))); (focus ((try simp only [Kr.PT]); first | done | rfl)))
      (refine Kr.tPQ 6 (v := .int .u8 ((d1).toNat : Int)) (a' := ?_) rfl (by kernel_rfl) (fun _ _ _ h => h) (by rfl) (fun _ => trivial) (fun wx => ?_) ?_ ?_; rotate_left 1; (focus (exact Kr.valOf rfl ((by rw [← hd1]; exact atHex q1 hq1l _)))); (focus ((try simp only [Kr.PT]); first | done | rfl)))
      refine Kr.readyL (rs := [7]) (by kernel_rfl) (by simp) ?_
      refine Kr.AllL.cons rfl (fun K hK => ?_) Kr.AllL.nil
      go_simp
      obtain ⟨y3, hy⟩ : ∃ y, d2.alloc (.cells #[.int .u8 ((d0).toNat : Int), .int .u8 ((d1).toNat : Int)] 5) = y := ⟨_, rfl⟩
      obtain ⟨bone, hbn⟩ : ∃ b, d2.heap.size = b := ⟨_, rfl⟩
      rw [hy, hbn]
      have hy2 : d2.alloc (.cells ([d0, d1].map w8).toArray 5) = y3 := hy
      have hg : Gr d2 y3 := hy ▸ (Gr.refl _).alloc _
      have HONE := Lib.hid (hbn ▸ hy2 ▸ row_alloc (w := d2) (l := [d0, d1].map w8) (T := 5)); clear hy2
      replace H := H.grow hg
      replace HR := Lib.hid (HR.out.grow hg)
      clear hg hy hbn
      (refine Kr.outL hK (a' := ?_) ?_ (fun _ => trivial) ?_; rotate_left; (focus ((try simp only [Kr.PT]); first | done | rfl))); clear hK K
      refine Kr.readyL (rs := [8]) (by kernel_rfl) (by simp) ?_
      refine Kr.AllL.cons rfl (fun K hK => ?_) Kr.AllL.nil
      rw [if_pos (by rfl)]
      obtain ⟨i0, hi, hz0, hz1, hz2⟩ := info_parts info8
      refine wp_append_lies _ (.tmp 10) (.tmp 17) 22 rfl w.heap.size 5 i0 (.int .u8 0) 1 1 Tryd.underlying22 hi hz0 hz1 hz2 rfl (by decide) u3 (hexL (l.take i)).length ((hexL (l.take i)).map w8) rfl HR.out ⟨bone, 0, none⟩ 2 2 ([d0, d1].map w8) rfl rfl HONE.out (fun u hu => oneCell_bytes _ u hu) (by decide) (by unfold maxLen; rw [hrl]; omega) (by rw [hrl]; omega) H.g.le _ rfl ?_
      intro gb cap w3 hown hgrow _ _
      have h5 := bytes_append (v1 := .slice (some ⟨gb, 0, none⟩) ((hexL (l.take i)).length + 2) cap) (d := [d0, d1]) H HR.out hown hgrow
      obtain ⟨v1, hv1⟩ : ∃ v1 : Value, .slice (some ⟨gb, 0, none⟩) ((hexL (l.take i)).length + 2) cap = v1 := ⟨_, rfl⟩
      rw [hv1] at h5; rw [hv1]; clear hown hgrow hv1 HONE H HR
      obtain ⟨H, hR⟩ := h5; have HR := Lib.hid hR; clear hR
      (refine Kr.outL hK (a' := ?_) ?_ (fun _ => trivial) ?_; rotate_left; (focus ((try simp only [Kr.PT]); first | done | rfl))); clear hK K
      (refine Kr.tPQ 9 (v := ?_) (a' := ?_) rfl (by kernel_rfl) (fun _ _ _ h => h) (by rfl) (fun _ => trivial) (fun wx => ?_) ?_ ?_; rotate_left 2; (focus (go_simp; first | done | rfl)); (focus ((try simp only [Kr.PT]); first | done | rfl)))
      refine Kr.doneL (by kernel_rfl) ?_ _
      rw [← htk] at HR
      have HADD : IntKind.i64.wrap ((i : Int) + 1) = ((i + 1 : Nat) : Int) := wrap_nat (by omega) (by omega)
      go_upto_region 6 with fail
      refine Kr.seqStartW ?_
      (refine Kr.seqQ (v := .int .i64 ((i + 1 : Nat) : Int)) (a' := ?_) (by rfl) ?_ ?_ ?_; rotate_left 1; (focus (exact Kr.valOf rfl (addI HADD))); (focus ((try simp only [Kr.PT]); first | done | rfl)))
      (refine Kr.seqQ (v := ?_) (a' := ?_) (by rfl) ?_ ?_ ?_; rotate_left 2; (focus (go_simp; first | done | rfl)); (focus ((try simp only [Kr.PT]); first | done | rfl)))
      refine Kr.seqDoneW ?_
      go_wp2; go_roundw
      case rel => exact ⟨i + 1, by omega, rfl, HR, Lib.hid H⟩
      case measure => simp [intOf]; omega
end Go.Proofs.YtilbojcghladjaaDoor.Dg


/- The chapter's examples: awake. -/
namespace Go.Proofs
open Go.Shelf
shelf_lay Lays.n99 Nm 99 at Tryd as Tryd.lays99
end Go.Proofs
namespace Go.Proofs.YtilbojcghladjaaDoor.Dg
open Go Go.RowKit Go.Proofs.YtilbojcghladjaaDoor.Ne Go.Proofs.YtilbojcghladjaaDoor.Kr
theorem prefix_v (s p : ByteArray) (w : World) : Calls Tryd.prog 31 #[.string s, .string p] w fun e w' => e = .returned (.bool (Lib.hasPrefix s.data.toList p.data.toList)) ∧ w' = w := Go.Proofs.Any.strings_HasPrefix Tryd.lays99 s p w
def abc : List (BitVec 8) := [97, 98, 99]
theorem sha_abc : sha abc = outs (comp s0 (wordOf (padEnd 64 abc 24))).list := by
  rw [sha, shaS, absB_no (show abc.length < 64 by decide)]
  show outs (absB s0 (padEnd 64 abc 24)).1.list = _
  rw [absB_yes (show 64 ≤ (padEnd 64 abc 24).length by decide), absB_no (show ((padEnd 64 abc 24).drop 64).length < 64 by decide)]
theorem sha_nil : sha [] = outs (comp s0 (wordOf (padEnd 64 [] 0))).list := by
  rw [sha, shaS, absB_no (show ([] : List (BitVec 8)).length < 64 by decide)]
  show outs (absB s0 (padEnd 64 [] 0)).1.list = _
  rw [absB_yes (show 64 ≤ (padEnd 64 [] 0).length by decide), absB_no (show ((padEnd 64 [] 0).drop 64).length < 64 by decide)]
theorem pre_abc : Lib.hasPrefix (strB (hexL (sha abc))).data.toList (⟨#[98, 97, 55, 56, 49, 54, 98, 102]⟩ : ByteArray).data.toList = true := by
  rw [sha_abc]; decide +kernel
theorem pre_nil : Lib.hasPrefix (strB (hexL (sha []))).data.toList (⟨#[101, 51, 98, 48, 99, 52, 52, 50]⟩ : ByteArray).data.toList = true := by
  rw [sha_nil]; decide +kernel
theorem abc_row (w : World) (fr : Nat × Nat) : BytesAt w.heap.size 0 abc (w.alloc (.cells #[.int .u8 97, .int .u8 98, .int .u8 99] 5 fr)) := fun j x hx => by
  rw [Nat.zero_add, World.cell?_alloc_mark]
  match j, hx with
  | 0, hx => obtain rfl : 97#8 = x := by simpa [abc] using hx
             rfl
  | 1, hx => obtain rfl : 98#8 = x := by simpa [abc] using hx
             rfl
  | 2, hx => obtain rfl : 99#8 = x := by simpa [abc] using hx
             rfl
  | j + 3, hx => simp [abc] at hx

set_option linter.unusedSimpArgs false in
set_option maxRecDepth 100000 in
set_option maxHeartbeats 16000000 in
theorem awake_v {w : World} (hC : Con w) (hT : Sta0 w) :
    Calls Tryd.prog 11 #[] w fun e w' => e = .returned (.bool true) ∧ Gr w w' := by
  have HCN := Lib.hid hC; have HT0 := Lib.hid hT; clear hC hT
  obtain ⟨A3, hA3⟩ : ∃ z, sha abc = z := ⟨_, rfl⟩
  have lA3 : A3.length = 32 := hA3 ▸ sha_length _
  obtain ⟨A0, hA0⟩ : ∃ z, sha [] = z := ⟨_, rfl⟩
  have lA0 : A0.length = 32 := hA0 ▸ sha_length _
  obtain ⟨S3, hS3⟩ : ∃ z, strB (hexL A3) = z := ⟨_, rfl⟩
  obtain ⟨S0, hS0⟩ : ∃ z, strB (hexL A0) = z := ⟨_, rfl⟩
  have p3 : Lib.hasPrefix S3.data.toList (⟨#[98, 97, 55, 56, 49, 54, 98, 102]⟩ : ByteArray).data.toList = true := by rw [← hS3, ← hA3]; exact pre_abc
  have p0 : Lib.hasPrefix S0.data.toList (⟨#[101, 51, 98, 48, 99, 52, 52, 50]⟩ : ByteArray).data.toList = true := by rw [← hS0, ← hA0]; exact pre_nil
  have H := Ow.start w
  go_enter Tryd.func11, Tryd.ntmps11
  go_upto_region 0 with fail
  refine Kr.seqStartW ?_
  (refine Kr.seqQ (v := ?_) (a' := ?_) (by rfl) ?_ ?_ ?_; rotate_left 2; (focus (go_simp; first | done | rfl)); (focus ((try simp only [Kr.PT]); first | done | rfl)))
  refine Kr.seqDoneW ?_
  go_upto_region 1 with fail
  refine Kr.seqStartW ?_
  refine Kr.seqR (by rfl) (fun K hK => ?_)
  go_simp
  (refine Kr.outS hK (a' := ?_) ?_ ?_; rotate_left; (focus ((try simp only [Kr.PT]); first | done | rfl))); clear hK K
  refine Kr.seqR (by rfl) (fun K hK => ?_)
  refine wp_runV rfl (Lib.run_convert_bytes_const w 22 5 #[.int .u8 97, .int .u8 98, .int .u8 99] 3 3 Tryd.underlying22 Tryd.underlying5) ?_
  have hab := abc_row w (3, 4)
  have hg : Gr w (w.alloc (.cells #[.int .u8 97, .int .u8 98, .int .u8 99] 5 (3, 4))) := (Gr.refl _).alloc _
  obtain ⟨b3, hb3⟩ : ∃ b, w.heap.size = b := ⟨_, rfl⟩
  rw [hb3] at hab ⊢
  obtain ⟨y1, hy⟩ : ∃ y, w.alloc (.cells #[.int .u8 97, .int .u8 98, .int .u8 99] 5 (3, 4)) = y := ⟨_, rfl⟩
  have hy2 : w.alloc (.cells #[.int .u8 97, .int .u8 98, .int .u8 99] 5 ((#[.int .u8 97, .int .u8 98, .int .u8 99] : Array Value).size, (#[.int .u8 97, .int .u8 98, .int .u8 99] : Array Value).size + 1)) = y1 := hy
  rw [hy] at hab hg; rw [hy2]
  have HAB := Lib.hid hab; clear hab hy hy2
  replace H := H.grow hg
  clear hg hb3
  (refine Kr.outS hK (a' := ?_) ?_ ?_; rotate_left; (focus ((try simp only [Kr.PT]); first | done | rfl))); clear hK K
  refine Kr.seqR (by rfl) (fun K hK => ?_)
  go_simp
  go_at_call 12
  have hP := Sum_v (c := 3) (.inr ⟨b3, 0, rfl, HAB.out⟩) (show abc.length = 3 from rfl) (Nat.le_refl _) (by decide) (HCN.out.grow H.g) (HT0.out.grow H.g)
  rw [hA3] at hP
  refine (hP).mono ?_
  rintro e y2 ⟨rfl, hg⟩
  replace H := H.grow hg
  clear hg
  clear hP
  (refine Kr.outS hK (a' := ?_) ?_ ?_; rotate_left; (focus ((try simp only [Kr.PT]); first | done | rfl))); clear hK K
  refine Kr.seqR (by rfl) (fun K hK => ?_)
  go_simp
  go_at_call 23
  have hP := Hex_v (w := y2) lA3
  rw [hS3] at hP
  refine (hP).mono ?_
  rintro e y3 ⟨rfl, hg⟩
  replace H := H.grow hg
  clear hg
  clear hP
  (refine Kr.outS hK (a' := ?_) ?_ ?_; rotate_left; (focus ((try simp only [Kr.PT]); first | done | rfl))); clear hK K
  refine Kr.seqR (by rfl) (fun K hK => ?_)
  go_simp
  go_at_call 31
  have hP := prefix_v S3 ⟨#[98, 97, 55, 56, 49, 54, 98, 102]⟩ y3
  rw [p3] at hP
  refine (hP).mono ?_
  rintro e w9 ⟨rfl, hw⟩
  rw [hw]
  clear hw w9
  clear hP
  (refine Kr.outS hK (a' := ?_) ?_ ?_; rotate_left; (focus ((try simp only [Kr.PT]); first | done | rfl))); clear hK K
  (refine Kr.seqQ (v := ?_) (a' := ?_) (by rfl) ?_ ?_ ?_; rotate_left 2; (focus (go_simp; first | done | rfl)); (focus ((try simp only [Kr.PT]); first | done | rfl)))
  refine Kr.seqR (by rfl) (fun K hK => ?_)
  go_simp
  go_at_call 12
  have hP := Sum_v (p := none) (n := 0) (c := 0) (l := []) (.inl rfl) rfl (Nat.le_refl _) (by decide) (HCN.out.grow H.g) (HT0.out.grow H.g)
  rw [hA0] at hP
  refine (hP).mono ?_
  rintro e y4 ⟨rfl, hg⟩
  replace H := H.grow hg
  clear hg
  clear hP
  (refine Kr.outS hK (a' := ?_) ?_ ?_; rotate_left; (focus ((try simp only [Kr.PT]); first | done | rfl))); clear hK K
  refine Kr.seqR (by rfl) (fun K hK => ?_)
  go_simp
  go_at_call 23
  have hP := Hex_v (w := y4) lA0
  rw [hS0] at hP
  refine (hP).mono ?_
  rintro e y5 ⟨rfl, hg⟩
  replace H := H.grow hg
  clear hg
  clear hP
  (refine Kr.outS hK (a' := ?_) ?_ ?_; rotate_left; (focus ((try simp only [Kr.PT]); first | done | rfl))); clear hK K
  refine Kr.seqR (by rfl) (fun K hK => ?_)
  go_simp
  go_at_call 31
  have hP := prefix_v S0 ⟨#[101, 51, 98, 48, 99, 52, 52, 50]⟩ y5
  rw [p0] at hP
  refine (hP).mono ?_
  rintro e w9 ⟨rfl, hw⟩
  rw [hw]
  clear hw w9
  clear hP
  (refine Kr.outS hK (a' := ?_) ?_ ?_; rotate_left; (focus ((try simp only [Kr.PT]); first | done | rfl))); clear hK K
  (refine Kr.seqQ (v := ?_) (a' := ?_) (by rfl) ?_ ?_ ?_; rotate_left 2; (focus (go_simp; first | done | rfl)); (focus ((try simp only [Kr.PT]); first | done | rfl)))
  (refine Kr.seqQ (v := ?_) (a' := ?_) (by rfl) ?_ ?_ ?_; rotate_left 2; (focus (go_simp; first | done | rfl)); (focus ((try simp only [Kr.PT]); first | done | rfl)))
  refine Kr.seqDoneW ?_
  have hk := trivial
  go_wp2
  refine bodyPost_ret (v := .bool true) (by simp [results, Tryd.results11, go_sem, hk]) rfl ⟨rfl, H.g⟩
end Go.Proofs.YtilbojcghladjaaDoor.Dg


/- The two listed tables of the digest read off the row's condition, a start that meets it; arguments opened: a digest, a row of bytes. -/
namespace Go.Proofs.YtilbojcghladjaaDoor.Dl
open Go.ChangeShapes Go.WideShapes Go.ChangeAt Go.WideMaps Go.WideElems Go.RowKit Go.Proofs.YtilbojcghladjaaDoor.Dg

abbrev laid : List (String × DataW Unit) := [("specie/digest.start", Rows.laid_specie_digest_start), ("specie/digest.constants", Rows.laid_specie_digest_constants)]
theorem own : ownKnob Tryd.prog.godebug = none := by kernel_rfl
theorem gS : Tryd.prog.globalNamed "specie/digest.start" = some 0 := by kernel_rfl
theorem gC : Tryd.prog.globalNamed "specie/digest.constants" = some 1 := by kernel_rfl
theorem tS : (Tryd.prog.globals[0]?).map (·.type) = some 60 := by kernel_rfl
theorem tC : (Tryd.prog.globals[1]?).map (·.type) = some 78 := by kernel_rfl
theorem c8 : Tryd.prog.cellsOf 60 = 8 := by kernel_rfl
theorem c64 : Tryd.prog.cellsOf 78 = 64 := by kernel_rfl
theorem c32 : Tryd.prog.cellsOf 51 = 1 := by kernel_rfl
theorem cU8 : Tryd.prog.cellsOf 5 = 1 := by kernel_rfl
theorem cH : Tryd.prog.cellsOf 25 = 32 := by kernel_rfl

set_option maxRecDepth 100000 in
theorem door_met (os : Os) (args : Array Value) : laidMetH Tryd.prog laid ((World.doorLaid Tryd.prog 400 os).forCall (fun _ _ => 0) ⟨#[], args, []⟩).memory :=
  laidMetH_of_parts3 (fuel := 8) (laidMet_of_run' 8 (by kernel_rfl) (by kernel_rfl)) (by kernel_rfl) (by kernel_rfl)

theorem start_list : Rows.laid_specie_digest_start = (.agg (s0.list.map fun (k : BitVec 32) => DataW.lit (.int .u32 (k.toNat : Int))) : DataW Unit) := rfl
set_option maxRecDepth 100000 in
theorem const_list : Rows.laid_specie_digest_constants = (.agg (kc.map fun (k : BitVec 32) => DataW.lit (.int .u32 (k.toNat : Int))) : DataW Unit) := rfl

theorem row_of {n m : Nat} {ks : List (BitVec 32)} {cs : Array Value} {xs : List (DataW Unit × List MemPlace)} {base : Nat} {spare : Nat → Bool} {held : Bool} {W : World}
    (hn : ks.length = n) (hlen : cs.toList.length = n) (hx : xs.map (·.1) = ks.map fun (k : BitVec 32) => DataW.lit (.int .u32 (k.toNat : Int))) (hxn : xs.length = n)
    (hel : ∀ (i : Nat), i < n → DataW.trod (fun _ => ()) Tryd.prog W base spare held m 51 ((cs.toList.drop (i * 1)).take 1) = xs[i]?) :
    cs = (ks.map w32).toArray := by
  have hall : ∀ j, j < n → cs.toList[j]? = (ks.map w32)[j]? := by
    intro j hj
    have h1 := hel j hj
    rw [Nat.mul_one] at h1
    have hxj : xs[j]? = some xs[j] := List.getElem?_eq_getElem (by omega)
    rw [hxj] at h1
    obtain ⟨k, e1, e2, _⟩ := DataW.trod_int Tryd.underlying51 h1
    have hget : (xs.map (·.1))[j]? = (ks.map fun (k : BitVec 32) => (DataW.lit (.int .u32 (k.toNat : Int)) : DataW Unit))[j]? := by rw [hx]
    rw [List.getElem?_map, hxj, List.getElem?_map, List.getElem?_eq_getElem (show j < ks.length by omega), e2] at hget
    simp only [Option.map_some, Option.some.injEq, DataW.lit.injEq, Lit.int.injEq] at hget
    rw [List.getElem?_map, List.getElem?_eq_getElem (show j < ks.length by omega)]
    have h3 : (cs.toList.drop j)[0]? = some (.int .u32 k) := by
      have : ((cs.toList.drop j).take 1)[0]? = some (.int .u32 k) := by rw [e1]; rfl
      rwa [List.getElem?_take_of_lt (by omega)] at this
    rw [List.getElem?_drop, Nat.add_zero] at h3
    rw [h3]
    show some (Value.int .u32 k) = some (w32 ks[j])
    rw [w32, hget.2]
  have hl : cs.toList = ks.map w32 := by
    apply List.ext_getElem?
    intro j
    rcases Nat.lt_or_ge j n with h | h
    · exact hall j h
    · rw [List.getElem?_eq_none (by omega), List.getElem?_eq_none (by rw [List.length_map]; omega)]
  rw [← hl]

theorem tables_of_laid {W : World} (h : laidMetH Tryd.prog laid W) : Con W ∧ Sta0 W := by
  rw [MakeChecks.laidMetH_plain _ _ _ (by kernel_rfl)] at h
  obtain ⟨ps, ⟨g0, t0, cs0, f0, p0, q0, hg0, ht0, hv0, hd0, ⟨g1, t1, cs1, f1, p1, q1, hg1, ht1, hv1, hd1, _, _⟩, _⟩, _, _⟩ := h
  constructor
  · obtain rfl := Option.some.inj (gC.symm.trans hg1)
    obtain rfl := Option.some.inj (tC.symm.trans ht1)
    obtain ⟨xs, m1, rfl, hx1, hlen, hn3, hel⟩ := DataW.trod_array Tryd.underlying78 hd1
    rw [const_list] at hx1
    simp only [Prod.mk.injEq, DataW.agg.injEq] at hx1
    rw [c64] at hlen
    rw [c32] at hel
    have hcs := row_of (n := 64) (by rfl) hlen hx1.1.symm hn3 hel
    simp only [World.var?, hg1, Option.bind_some] at hv1
    split at hv1
    · rename_i c t f hh
      cases hv1
      exact ⟨t, f, by rw [hh, hcs]⟩
    · cases hv1
  · obtain rfl := Option.some.inj (gS.symm.trans hg0)
    obtain rfl := Option.some.inj (tS.symm.trans ht0)
    obtain ⟨xs, m1, rfl, hx1, hlen, hn3, hel⟩ := DataW.trod_array Tryd.underlying60 hd0
    rw [start_list] at hx1
    simp only [Prod.mk.injEq, DataW.agg.injEq] at hx1
    rw [c8] at hlen
    rw [c32] at hel
    have hcs := row_of (n := 8) (by rfl) hlen hx1.1.symm hn3 hel
    simp only [World.var?, hg0, Option.bind_some] at hv0
    split at hv0
    · rename_i c t f hh
      cases hv0
      exact ⟨t, f, by rw [hh, hcs]⟩
    · cases hv0

theorem list_of_all : ∀ {cs : List Value}, (∀ i, i < cs.length → ∃ x : BitVec 8, cs[i]? = some (w8 x)) → ∃ l : List (BitVec 8), cs = l.map w8
  | [], _ => ⟨[], rfl⟩
  | v :: r, h => by
    obtain ⟨x, hx⟩ := h 0 (Nat.succ_pos _)
    obtain ⟨l, hl⟩ := list_of_all (cs := r) (fun i hi => by
      have := h (i + 1) (Nat.succ_lt_succ hi)
      simpa using this)
    refine ⟨x :: l, ?_⟩
    rw [List.map_cons, ← hl]
    congr 1
    simpa using hx
theorem wf_u8 {n : Int} (h : (Lit.int .u8 n).wf = true) : 0 ≤ n ∧ n < 256 := by
  simp [Lit.wf, IntKind.min, IntKind.max, IntKind.signed, IntKind.bits] at h
  omega
theorem w8_of {n : Int} (h : 0 ≤ n ∧ n < 256) : Value.int .u8 n = w8 (BitVec.ofNat 8 n.toNat) := by
  unfold w8
  rw [BitVec.toNat_ofNat, Nat.mod_eq_of_lt (by omega)]
  congr 1
  omega
/-- A digest among the arguments. -/
theorem open_hash {H : Type} {enc : TypeId × Value → H} {W : World} {r : Reach} {b0 : Nat} {v : Value} {d : DataW H} {p : List MemPlace}
    (hv : Value.okWide Tryd.prog W r b0 25 v) (h : DataW.Trod enc Tryd.prog W 0 (fun _ => true) true 25 v d p) :
    ∃ l : List (BitVec 8), l.length = 32 ∧ v = .agg (l.map w8).toArray := by
  simp only [Value.okWide, Tryd.underlying25] at hv
  obtain ⟨cs, rfl, h2, _⟩ := hv
  obtain ⟨fuel, hf⟩ := h
  have hf' : DataW.trod enc Tryd.prog W 0 (fun _ => true) true fuel 25 cs.toList = some (d, p) := by simpa [Value.cells] using hf
  obtain ⟨xs, m, rfl, hx, hlen, hn, hel⟩ := DataW.trod_array Tryd.underlying25 hf'
  rw [cH] at hlen
  rw [cU8] at hel
  obtain ⟨l, hl⟩ := list_of_all (cs := cs.toList) (fun i hi => by
    have hi32 : i < 32 := by omega
    have h1 := hel i hi32
    rw [Nat.mul_one] at h1
    have hxj : xs[i]? = some xs[i] := List.getElem?_eq_getElem (by omega)
    rw [hxj] at h1
    obtain ⟨k, e1, _, hw⟩ := DataW.trod_int Tryd.underlying5 h1
    have h3 : (cs.toList.drop i)[0]? = some (.int .u8 k) := by
      have : ((cs.toList.drop i).take 1)[0]? = some (.int .u8 k) := by rw [e1]; rfl
      rwa [List.getElem?_take_of_lt (by omega)] at this
    rw [List.getElem?_drop, Nat.add_zero] at h3
    exact ⟨_, h3.trans (congrArg some (w8_of (wf_u8 hw)))⟩)
  refine ⟨l, ?_, ?_⟩
  · rw [← hlen, hl, List.length_map]
  · rw [← hl]
end Go.Proofs.YtilbojcghladjaaDoor.Dl


/- The frame of a law over natural numbers: an argument opened, the law's end. -/
namespace Go.Proofs.YtilbojcghladjaaDoor.Nl
open Go.ChangeShapes Go.WideShapes Go.ChangeAt Go.RowKit Go.WideElems Go.Proofs.YtilbojcghladjaaDoor.Nm Go.Proofs.YtilbojcghladjaaDoor.Ne

theorem own : ownKnob Tryd.prog.godebug = none := by kernel_rfl
theorem laidOut : laidOutB Tryd.prog = true := by kernel_rfl

/-- An argument: a natural number of any length. -/
def Nin (W : World) (p : Option Addr) (n c : Nat) : Prop := ∃ l : List Nat, l.length = n ∧ n ≤ c ∧ (p = none → n = 0 ∧ c = 0) ∧ Rd W p l ∧ ok l ∧ n ≤ 9223372036854775807
theorem Nin.nw {W : World} {p : Option Addr} {n c : Nat} (h : Nin W p n c) (hn : n ≤ 1048576) : ∃ l, Nw W p n c l := by
  obtain ⟨l, h1, h2, h3, h4, h5, _⟩ := h
  exact ⟨l, h1, h2, h3, h4, h5, hn⟩
theorem Nin.lt {W : World} {p : Option Addr} {n c : Nat} (h : Nin W p n c) : n ≤ 9223372036854775807 := by
  obtain ⟨_, _, _, _, _, _, h6⟩ := h
  exact h6

theorem wf_u32 {n : Int} (h : (Lit.int .u32 n).wf = true) : 0 ≤ n ∧ n < 4294967296 := by
  simp [Lit.wf, IntKind.min, IntKind.max, IntKind.signed, IntKind.bits] at h
  omega
theorem ok_toNat {zs : List Int} (h : ∀ n ∈ zs, (Lit.int .u32 n).wf = true) : ok (zs.map Int.toNat) := by
  intro x hx
  obtain ⟨z, hz, rfl⟩ := List.mem_map.1 hx
  have := wf_u32 (h z hz)
  omega

theorem maxLen_le : maxLen ≤ 9223372036854775807 := by decide
theorem cellsSl : Tryd.prog.cellsOf 63 = 1 := by kernel_rfl
theorem cellsU : Tryd.prog.cellsOf 51 = 1 := by kernel_rfl

theorem array1 {α : Type} {cs : Array α} (h : cs.size = 1) : ∃ c0, cs = #[c0] := by
  obtain ⟨l⟩ := cs
  match l, h with
  | [c0], _ => exact ⟨c0, rfl⟩

theorem addr_at {W : World} {a : Addr} {v : Value} (h : W.cell? a = some v) : a.spot = none := by
  unfold World.cell? at h
  cases hs : a.spot with
  | none => rfl
  | some x =>
    simp only [hs, Option.isSome_some, if_true] at h
    split at h <;> cases h

/-- Arguments read behind the call as before it. -/
theorem again {H : Type} {enc : TypeId × Value → H} {P : Program} (hl : laidOutB P = true) {W W' : World} (hb : Below W.heap.size W W') {sp : Nat → Bool} :
    ∀ {ts : List TypeId} {vs : List Value} {ds : List (DataW H)} {ps : List MemPlace}, (ts.all fun t => P.readableRec t && decide (t < P.types.size)) = true →
      DataW.TrodAll enc P W 0 (fun _ => true) true ts vs ds ps → (∀ p ∈ ps, sp p.block = true) → DataW.TrodAll enc P W' 0 sp true ts vs ds ps
  | [], [], [], _, _, h, _ => h
  | [], [], _ :: _, _, _, h, _ => h.elim
  | [], _ :: _, _, _, _, h, _ => h.elim
  | _ :: _, [], _, _, _, h, _ => h.elim
  | _ :: _, _ :: _, [], _, _, h, _ => h.elim
  | t :: ts, v :: vs, d :: ds, ps, ht, h, hs => by
    obtain ⟨p, q, h1, h2, rfl⟩ := h
    simp only [List.all_cons, Bool.and_eq_true, decide_eq_true_eq] at ht
    obtain ⟨⟨ht1, ht2⟩, ht3⟩ := ht
    have hlt : ∀ x ∈ p, x.block < W.heap.size := DataW.TrodAll.lt (trodAll_mk1 h1)
    refine ⟨p, q, ?_, again hl hb (by simpa using ht3) h2 (fun x hx => hs x (List.mem_append_right _ hx)), rfl⟩
    obtain ⟨fuel, hf⟩ := h1
    exact ⟨fuel, DataW.trod_stays (kids_book hl ht1) (book_sized ht1) (fun h => by cases h) ⟨ht2, book_self t⟩ hf (fun x hx => hb.same (hlt x hx)) (fun x hx => hs x (List.mem_append_left _ hx))⟩

/-- A law's end: it has returned true, and what was there is there. -/
theorem law_end {H : Type} {enc : TypeId × Value → H} {P : Program} (hl : laidOutB P = true) {f : Func} {s : ChangeSpec} {W W' : World} {args : Array Value} {ds : List (DataW H)} {before : List MemPlace} {tb : TypeId}
    (hb : P.underlying tb = some .bool) (hr : f.resultTypes = #[tb]) (hts : (f.params.toList.all fun t => P.readableRec t && decide (t < P.types.size)) = true) (hv : s.vars = [])
    (hW : DataW.Whole enc P f.params.toList s.vars false W args.toList ds [] before) (hres : (s.fn H (ds ++ [])).results = [.lit (.bool true)]) (hargs : (s.fn H (ds ++ [])).args = ds) (hvars : (s.fn H (ds ++ [])).vars = [])
    (hg : Below W.heap.size W W') : s.post enc P f false true false false W args (.bool true) W' := by
  have hlt := hW.lt
  have hW0 := hW
  obtain ⟨p, q, hA, hV, hp, _, _⟩ := hW
  rw [hv] at hV
  obtain ⟨_, rfl⟩ := trodVars_none hV
  rw [List.append_nil] at hp
  subst hp
  refine ⟨ds, [], before, [], before, [], hW0, ?_, ?_, ?_, hg.frame _, fun h => by cases h⟩
  · rw [hres, hr]
    exact trodAll_mk1 (shut_bool hb _)
  · rw [hargs]
    exact again hl hg hts hA (fun x hx => by simpa using hlt x hx)
  · rw [hvars, hv]
    rfl
end Go.Proofs.YtilbojcghladjaaDoor.Nl


/- Numbers of bytes. -/
namespace Go.Proofs.YtilbojcghladjaaDoor.Dg
open Go Go.RowKit Go.Proofs.YtilbojcghladjaaDoor.Ne Go.Proofs.YtilbojcghladjaaDoor.Kr

/-- The number that the first j bytes are. -/
def vB (l : List (BitVec 8)) : Nat → Nat
  | 0 => 0
  | j + 1 => vB l j * 256 + (l.getD j 0).toNat
theorem W4_toNat (a b c d : BitVec 8) : (W4 a b c d).toNat = ((a.toNat * 256 + b.toNat) * 256 + c.toNat) * 256 + d.toNat := by
  have ha := a.isLt
  have hb := b.isLt
  have hc := c.isLt
  have hd := d.isLt
  have e8 (x : BitVec 8) : (x.setWidth 32).toNat = x.toNat := by rw [BitVec.toNat_setWidth]; exact Nat.mod_eq_of_lt (Nat.lt_of_lt_of_le x.isLt (by decide))
  unfold W4
  simp only [BitVec.toNat_or, BitVec.toNat_shiftLeft, e8]
  have h1 : a.toNat <<< 24 = a.toNat * 16777216 := by rw [Nat.shiftLeft_eq]
  have h2 : b.toNat <<< 16 = b.toNat * 65536 := by rw [Nat.shiftLeft_eq]
  have h3 : c.toNat <<< 8 = c.toNat * 256 := by rw [Nat.shiftLeft_eq]
  rw [Nat.mod_eq_of_lt (by rw [h1]; omega), Nat.mod_eq_of_lt (by rw [h2]; omega), Nat.mod_eq_of_lt (by rw [h3]; omega)]
  rw [Nat.or_assoc, Nat.or_assoc]
  rw [← Nat.shiftLeft_add_eq_or_of_lt (show d.toNat < 2 ^ 8 from hd), h3]
  rw [← Nat.shiftLeft_add_eq_or_of_lt (show c.toNat * 256 + d.toNat < 2 ^ 16 by omega), h2]
  rw [← Nat.shiftLeft_add_eq_or_of_lt (show b.toNat * 65536 + (c.toNat * 256 + d.toNat) < 2 ^ 24 by omega), h1]
  omega
theorem vB_word (l : List (BitVec 8)) (i : Nat) : vB l (4 * (i + 1)) = vB l (4 * i) * 4294967296 + (wordOf l i).toNat := by
  rw [show 4 * (i + 1) = 4 * i + 3 + 1 by omega, vB, vB, vB, vB, wordOf, W4_toNat]
  omega
theorem num_step (a b x m : Nat) : (a % m * (b % m) % m + x % m) % m = (a * b + x) % m := by
  rw [← Nat.mul_mod, ← Nat.add_mod]
theorem num_byte (a b x m : Nat) : (a % m * (b % m) % m + x) % m = (a * b + x) % m := by
  rw [← Nat.mul_mod, Nat.mod_add_mod]
theorem slH {w : World} {b : Nat} : (Instr.sliceAt 25 (.pointer (some ⟨b, 0, none⟩)) none none none).run Tryd.prog w = .ok (.slice (some ⟨b, 0, none⟩) 32 32) w := by
  go_simp
set_option linter.unusedSimpArgs false in
theorem convW {w : World} {x : BitVec 32} : (convert 51 3 (.int .u32 (x.toNat : Int))).run Tryd.prog w = .ok (.int .i64 (x.toNat : Int)) w := by
  have hx := x.isLt
  have : IntKind.i64.wrap (x.toNat : Int) = (x.toNat : Int) := IntWalk.i64_in _ (by omega)
  clear hx
  go_simp
set_option linter.unusedSimpArgs false in
theorem convB {w : World} {x : BitVec 8} : (convert 5 3 (.int .u8 (x.toNat : Int))).run Tryd.prog w = .ok (.int .i64 (x.toNat : Int)) w := by
  have hx := x.isLt
  have : IntKind.i64.wrap (x.toNat : Int) = (x.toNat : Int) := IntWalk.i64_in _ (by omega)
  clear hx
  go_simp
theorem neqC0 {w : World} : (binOp .neq 28 (.int .i64 0) (.int .i64 0)).run Tryd.prog w = .ok (.bool false) w := by
  go_simp
theorem neqC1 {w : World} : (binOp .neq 28 (.int .i64 1) (.int .i64 0)).run Tryd.prog w = .ok (.bool true) w := by
  go_simp
theorem remI {w : World} {x d q : Nat} (h0 : 0 < d) (hq : x % d = q) (hd : d < 9223372036854775808) : (binOp .rem 3 (.int .i64 (x : Int)) (.int .i64 (d : Int))).run Tryd.prog w = .ok (.int .i64 (q : Int)) w := by
  have hd0 : ¬ d = 0 := by omega
  have h1 : (x : Int).tmod (d : Int) = (q : Int) := by
    rw [Int.tmod_eq_emod_of_nonneg (by omega), ← Int.natCast_emod, hq]
  have h2 : q < d := hq ▸ Nat.mod_lt _ h0
  have h3 : IntKind.i64.wrap (q : Int) = (q : Int) := IntWalk.i64_in _ (by omega)
  clear hq h0 hd h2
  go_simp
theorem gr_drewN (w : World) : ∀ n, Gr w (w.drewN n)
  | 0 => Gr.refl _
  | n + 1 => (gr_drewN w n).drew

end Go.Proofs.YtilbojcghladjaaDoor.Dg


/- Number, its reference. -/
namespace Go.Proofs.YtilbojcghladjaaDoor.Dg
open Go Go.RowKit Go.Proofs.YtilbojcghladjaaDoor.Ne Go.Proofs.YtilbojcghladjaaDoor.Kr

set_option linter.unusedSimpArgs false in
set_option maxRecDepth 100000 in
set_option maxHeartbeats 16000000 in
theorem Number_v {l : List (BitVec 8)} {m : Nat} {w : World} (hl : l.length = 32) (hm1 : 1 ≤ m) (hm2 : m < 2305843009213693952) :
    Calls Tryd.prog 21 #[.agg (l.map w8).toArray, .int .i64 (m : Int)] w fun e w' => e = .returned (.tuple #[.int .i64 ((vB l 16 % m : Nat) : Int), .int .i64 0]) ∧ Gr w w' := by
  have hl32 : (l.map w8).length = 32 := by rw [List.length_map]; exact hl
  obtain ⟨B, hB⟩ : ∃ z, 4294967296 % m = z := ⟨_, rfl⟩
  have hBm : B < m := hB ▸ Nat.mod_lt _ (by omega)
  have hBI : (4294967296 : Int) % (m : Int) = (B : Int) := by rw [← hB]; rfl
  obtain ⟨V, hV⟩ : ∃ z, vB l 16 % m = z := ⟨_, rfl⟩
  rw [hV]
  have H := Ow.start w
  go_enter Tryd.func21, Tryd.ntmps21
  go_upto_region 0 with fail
  refine Kr.seqStartW ?_
  refine Kr.seqR (by rfl) (fun K hK => ?_)
  refine wp_runV rfl boxH ?_
  obtain ⟨y1, hy⟩ : ∃ y, w.alloc (.cells (l.map w8).toArray 25) = y := ⟨_, rfl⟩
  obtain ⟨bh, hb⟩ : ∃ b, w.heap.size = b := ⟨_, rfl⟩
  rw [hy, hb]
  have hg : Gr w y1 := hy ▸ (Gr.refl _).alloc _
  replace H := H.alloc hy hb
  clear hy hb hg
  (refine Kr.outS hK (a' := ?_) ?_ ?_; rotate_left; (focus ((try simp only [Kr.PT]); first | done | rfl))); clear hK K
  (refine Kr.seqQ (v := ?_) (a' := ?_) (by rfl) ?_ ?_ ?_; rotate_left 2; (focus (go_simp; first | done | rfl)); (focus ((try simp only [Kr.PT]); first | done | rfl)))
  (refine Kr.seqQ (v := ?_) (a' := ?_) (by rfl) ?_ ?_ ?_; rotate_left 2; (focus (go_simp; first | done | rfl)); (focus ((try simp only [Kr.PT]); first | done | rfl)))
  refine Kr.seqDoneW ?_
  go_upto_region 1 with fail
  refine Kr.seqStartW ?_
  (refine Kr.seqQ (v := ?_) (a' := ?_) (by rfl) ?_ ?_ ?_; rotate_left 2; (focus (go_simp; first | done | rfl)); (focus ((try simp only [Kr.PT]); first | done | rfl)))
  refine Kr.seqR (by rfl) (fun K hK => ?_)
  go_simp
  go_at_call 42
  have hP := Ww.Reduce_ok (4294967296) (m : Int) (by omega) (by omega) y1
  rw [hBI] at hP
  refine (hP).mono ?_
  rintro e w9 ⟨rfl, hw⟩
  rw [hw]
  clear hw w9
  clear hP
  (refine Kr.outS hK (a' := ?_) ?_ ?_; rotate_left; (focus ((try simp only [Kr.PT]); first | done | rfl))); clear hK K
  (refine Kr.seqQ (v := ?_) (a' := ?_) (by rfl) ?_ ?_ ?_; rotate_left 2; (focus (go_simp; first | done | rfl)); (focus ((try simp only [Kr.PT]); first | done | rfl)))
  (refine Kr.seqQ (v := ?_) (a' := ?_) (by rfl) ?_ ?_ ?_; rotate_left 2; (focus (go_simp; first | done | rfl)); (focus ((try simp only [Kr.PT]); first | done | rfl)))
  (refine Kr.seqQ (v := ?_) (a' := ?_) (by rfl) ?_ ?_ ?_; rotate_left 2; (focus (go_simp; first | done | rfl)); (focus ((try simp only [Kr.PT]); first | done | rfl)))
  (refine Kr.seqQ (v := ?_) (a' := ?_) (by rfl) ?_ ?_ ?_; rotate_left 2; (focus (go_simp; first | done | rfl)); (focus ((try simp only [Kr.PT]); first | done | rfl)))
  (refine Kr.seqQ (v := ?_) (a' := ?_) (by rfl) ?_ ?_ ?_; rotate_left 2; (focus (go_simp; first | done | rfl)); (focus ((try simp only [Kr.PT]); first | done | rfl)))
  refine Kr.seqDoneW ?_
  go_upto_region 2 with fail
  refine Kr.seqStartW ?_
  (refine Kr.seqQ (v := ?_) (a' := ?_) (by rfl) ?_ ?_ ?_; rotate_left 2; (focus (go_simp; first | done | rfl)); (focus ((try simp only [Kr.PT]); first | done | rfl)))
  (refine Kr.seqQ (v := .bool false) (a' := ?_) (by rfl) ?_ ?_ ?_; rotate_left 1; (focus (exact Kr.valOf rfl (neqC0))); (focus ((try simp only [Kr.PT]); first | done | rfl)))
  refine Kr.seqDoneW ?_
  go_upto_region 4 with fail
  refine Kr.seqStartW ?_
  (refine Kr.seqQ (v := ?_) (a' := ?_) (by rfl) ?_ ?_ ?_; rotate_left 2; (focus (go_simp; first | done | rfl)); (focus ((try simp only [Kr.PT]); first | done | rfl)))
  refine Kr.seqDoneW ?_
  go_upto_region 5 with fail
  refine Kr.seqStartW ?_
  (refine Kr.seqQ (v := ?_) (a' := ?_) (by rfl) ?_ ?_ ?_; rotate_left 2; (focus (go_simp; first | done | rfl)); (focus ((try simp only [Kr.PT]); first | done | rfl)))
  refine Kr.seqDoneW ?_
  have H2 := Lib.hid H; clear H hBI
  go_wp2_with fail
  go_loopw [8, 20] (fun nv jv wr => ∃ i z : Nat, i ≤ 4 ∧ vB l (4 * i) % m = z ∧ nv = .int .i64 (z : Int) ∧ jv = .int .i64 (i : Int) ∧ Hid (Ow w wr [(bh, 25, l.map w8)])) (fun _ jv _ => 4 - (intOf jv).toNat)
  case atStart => exact ⟨0, 0, Nat.zero_le _, Nat.zero_mod _, rfl, rfl, H2⟩
  case round =>
    clear H2; obtain ⟨i, z, hi, hz, rfl, rfl, HH⟩ := hrel; have H := HH.out; clear HH
    have hzm : z < m := hz ▸ Nat.mod_lt _ (by omega)
    by_cases hie : i = 4
    · have HC : decide ((i : Int) < 4) = false := decide_eq_false (by omega)
      obtain rfl : z = V := by rw [← hz, hie]; exact hV
      clear hie
      go_upto_region 6 with fail
      refine Kr.seqStartW ?_
      (refine Kr.seqQ (v := .bool false) (a' := ?_) (by rfl) ?_ ?_ ?_; rotate_left 1; (focus (exact Kr.valOf rfl (lssT HC))); (focus ((try simp only [Kr.PT]); first | done | rfl)))
      refine Kr.seqDoneW ?_
      go_upto_region 12 with fail
      refine Kr.seqStartW ?_
      (refine Kr.seqQ (v := ?_) (a' := ?_) (by rfl) ?_ ?_ ?_; rotate_left 2; (focus (go_simp; first | done | rfl)); (focus ((try simp only [Kr.PT]); first | done | rfl)))
      (refine Kr.seqQ (v := ?_) (a' := ?_) (by rfl) ?_ ?_ ?_; rotate_left 2; (focus (go_simp; first | done | rfl)); (focus ((try simp only [Kr.PT]); first | done | rfl)))
      (refine Kr.seqQ (v := ?_) (a' := ?_) (by rfl) ?_ ?_ ?_; rotate_left 2; (focus (go_simp; first | done | rfl)); (focus ((try simp only [Kr.PT]); first | done | rfl)))
      refine Kr.seqDoneW ?_
      have hk := trivial
      go_wp2
      refine bodyPost_ret (v := .tuple #[.int .i64 (z : Int), .int .i64 0]) (by simp [results, Tryd.results21, go_sem, hk]) rfl ⟨rfl, H.g⟩
    · have hil : i < 4 := by omega
      have HC : decide ((i : Int) < 4) = true := decide_eq_true (by omega)
      obtain ⟨x, hx⟩ : ∃ x, wordOf l i = x := ⟨_, rfl⟩
      obtain ⟨d, hd⟩ : ∃ z, x.toNat % m = z := ⟨_, rfl⟩
      have hdm : d < m := hd ▸ Nat.mod_lt _ (by omega)
      have hdI : (x.toNat : Int) % (m : Int) = (d : Int) := by rw [← hd]; rfl
      obtain ⟨z1, hz1⟩ : ∃ y, z * B % m = y := ⟨_, rfl⟩
      have hz1m : z1 < m := hz1 ▸ Nat.mod_lt _ (by omega)
      obtain ⟨z2, hz2⟩ : ∃ y, (z1 + d) % m = y := ⟨_, rfl⟩
      have hnx : vB l (4 * (i + 1)) % m = z2 := by rw [vB_word, hx, ← hz2, ← hz1, ← hz, ← hB, ← hd]; exact (num_step _ _ _ _).symm
      go_upto_region 6 with fail
      refine Kr.seqStartW ?_
      (refine Kr.seqQ (v := .bool true) (a' := ?_) (by rfl) ?_ ?_ ?_; rotate_left 1; (focus (exact Kr.valOf rfl (lssT HC))); (focus ((try simp only [Kr.PT]); first | done | rfl)))
      refine Kr.seqDoneW ?_
      go_upto_region 7 with fail
      refine Kr.seqStartW ?_
      (refine Kr.seqQ (v := ?_) (a' := ?_) (by rfl) ?_ ?_ ?_; rotate_left 2; (focus (go_simp; first | done | rfl)); (focus ((try simp only [Kr.PT]); first | done | rfl)))
      (refine Kr.seqQ (v := ?_) (a' := ?_) (by rfl) ?_ ?_ ?_; rotate_left 2; (focus (go_simp; first | done | rfl)); (focus ((try simp only [Kr.PT]); first | done | rfl)))
      refine Kr.seqDoneW ?_
      go_upto_region 8 with fail
      refine Kr.seqStartW ?_
      (refine Kr.seqQ (v := .slice (some ⟨bh, 0, none⟩) 32 32) (a' := ?_) (by rfl) ?_ ?_ ?_; rotate_left 1; (focus (exact Kr.valOf rfl (slH))); (focus ((try simp only [Kr.PT]); first | done | rfl)))
      (refine Kr.seqQ (v := ?_) (a' := ?_) (by rfl) ?_ ?_ ?_; rotate_left 2; (focus (go_simp; first | done | rfl)); (focus ((try simp only [Kr.PT]); first | done | rfl)))
      refine Kr.seqR (by rfl) (fun K hK => ?_)
      go_simp
      go_at_call 43
      have hP := wordAt_v (n := 32) (c := 32) (l := l) (i := i) (bytesAt_row (H.at 0 rfl)) (by omega) (by omega) (by decide)
      rw [hx] at hP
      refine (hP).mono ?_
      rintro e y2 ⟨rfl, hg⟩
      replace H := H.grow hg
      clear hg
      clear hP
      (refine Kr.outS hK (a' := ?_) ?_ ?_; rotate_left; (focus ((try simp only [Kr.PT]); first | done | rfl))); clear hK K
      (refine Kr.seqQ (v := .int .i64 (x.toNat : Int)) (a' := ?_) (by rfl) ?_ ?_ ?_; rotate_left 1; (focus (exact Kr.valOf rfl (convW))); (focus ((try simp only [Kr.PT]); first | done | rfl)))
      (refine Kr.seqQ (v := ?_) (a' := ?_) (by rfl) ?_ ?_ ?_; rotate_left 2; (focus (go_simp; first | done | rfl)); (focus ((try simp only [Kr.PT]); first | done | rfl)))
      refine Kr.seqR (by rfl) (fun K hK => ?_)
      go_simp
      go_at_call 42
      have hP := Ww.Reduce_ok ((x.toNat : Int)) (m : Int) (by omega) (by omega) y2
      rw [hdI] at hP
      refine (hP).mono ?_
      rintro e w9 ⟨rfl, hw⟩
      rw [hw]
      clear hw w9
      clear hP
      (refine Kr.outS hK (a' := ?_) ?_ ?_; rotate_left; (focus ((try simp only [Kr.PT]); first | done | rfl))); clear hK K
      (refine Kr.seqQ (v := ?_) (a' := ?_) (by rfl) ?_ ?_ ?_; rotate_left 2; (focus (go_simp; first | done | rfl)); (focus ((try simp only [Kr.PT]); first | done | rfl)))
      (refine Kr.seqQ (v := ?_) (a' := ?_) (by rfl) ?_ ?_ ?_; rotate_left 2; (focus (go_simp; first | done | rfl)); (focus ((try simp only [Kr.PT]); first | done | rfl)))
      (refine Kr.seqQ (v := ?_) (a' := ?_) (by rfl) ?_ ?_ ?_; rotate_left 2; (focus (go_simp; first | done | rfl)); (focus ((try simp only [Kr.PT]); first | done | rfl)))
      (refine Kr.seqQ (v := ?_) (a' := ?_) (by rfl) ?_ ?_ ?_; rotate_left 2; (focus (go_simp; first | done | rfl)); (focus ((try simp only [Kr.PT]); first | done | rfl)))
      (refine Kr.seqQ (v := ?_) (a' := ?_) (by rfl) ?_ ?_ ?_; rotate_left 2; (focus (go_simp; first | done | rfl)); (focus ((try simp only [Kr.PT]); first | done | rfl)))
      refine Kr.seqDoneW ?_
      go_upto_region 9 with fail
      refine Kr.seqStartW ?_
      (refine Kr.seqQ (v := ?_) (a' := ?_) (by rfl) ?_ ?_ ?_; rotate_left 2; (focus (go_simp; first | done | rfl)); (focus ((try simp only [Kr.PT]); first | done | rfl)))
      (refine Kr.seqQ (v := ?_) (a' := ?_) (by rfl) ?_ ?_ ?_; rotate_left 2; (focus (go_simp; first | done | rfl)); (focus ((try simp only [Kr.PT]); first | done | rfl)))
      (refine Kr.seqQ (v := ?_) (a' := ?_) (by rfl) ?_ ?_ ?_; rotate_left 2; (focus (go_simp; first | done | rfl)); (focus ((try simp only [Kr.PT]); first | done | rfl)))
      refine Kr.seqR (by rfl) (fun K hK => ?_)
      go_simp
      go_at_call 44
      have hP := Ww.Mul_ok z B m hzm hBm hm2 y2
      rw [hz1] at hP
      refine (hP).mono ?_
      rintro e y3 ⟨rfl, n, hw⟩
      have hg : Gr y2 y3 := hw ▸ gr_drewN _ _
      replace H := H.grow hg
      clear hg hw
      clear hP
      (refine Kr.outS hK (a' := ?_) ?_ ?_; rotate_left; (focus ((try simp only [Kr.PT]); first | done | rfl))); clear hK K
      (refine Kr.seqQ (v := ?_) (a' := ?_) (by rfl) ?_ ?_ ?_; rotate_left 2; (focus (go_simp; first | done | rfl)); (focus ((try simp only [Kr.PT]); first | done | rfl)))
      (refine Kr.seqQ (v := ?_) (a' := ?_) (by rfl) ?_ ?_ ?_; rotate_left 2; (focus (go_simp; first | done | rfl)); (focus ((try simp only [Kr.PT]); first | done | rfl)))
      (refine Kr.seqQ (v := ?_) (a' := ?_) (by rfl) ?_ ?_ ?_; rotate_left 2; (focus (go_simp; first | done | rfl)); (focus ((try simp only [Kr.PT]); first | done | rfl)))
      (refine Kr.seqQ (v := ?_) (a' := ?_) (by rfl) ?_ ?_ ?_; rotate_left 2; (focus (go_simp; first | done | rfl)); (focus ((try simp only [Kr.PT]); first | done | rfl)))
      refine Kr.seqDoneW ?_
      go_upto_region 10 with fail
      refine Kr.seqStartW ?_
      (refine Kr.seqQ (v := ?_) (a' := ?_) (by rfl) ?_ ?_ ?_; rotate_left 2; (focus (go_simp; first | done | rfl)); (focus ((try simp only [Kr.PT]); first | done | rfl)))
      (refine Kr.seqQ (v := ?_) (a' := ?_) (by rfl) ?_ ?_ ?_; rotate_left 2; (focus (go_simp; first | done | rfl)); (focus ((try simp only [Kr.PT]); first | done | rfl)))
      (refine Kr.seqQ (v := ?_) (a' := ?_) (by rfl) ?_ ?_ ?_; rotate_left 2; (focus (go_simp; first | done | rfl)); (focus ((try simp only [Kr.PT]); first | done | rfl)))
      refine Kr.seqR (by rfl) (fun K hK => ?_)
      go_simp
      go_at_call 45
      have hP := Ww.Add_ok z1 d m hz1m hdm hm2 y3
      rw [hz2] at hP
      refine (hP).mono ?_
      rintro e w9 ⟨rfl, hw⟩
      rw [hw]
      clear hw w9
      clear hP
      (refine Kr.outS hK (a' := ?_) ?_ ?_; rotate_left; (focus ((try simp only [Kr.PT]); first | done | rfl))); clear hK K
      (refine Kr.seqQ (v := ?_) (a' := ?_) (by rfl) ?_ ?_ ?_; rotate_left 2; (focus (go_simp; first | done | rfl)); (focus ((try simp only [Kr.PT]); first | done | rfl)))
      (refine Kr.seqQ (v := ?_) (a' := ?_) (by rfl) ?_ ?_ ?_; rotate_left 2; (focus (go_simp; first | done | rfl)); (focus ((try simp only [Kr.PT]); first | done | rfl)))
      (refine Kr.seqQ (v := ?_) (a' := ?_) (by rfl) ?_ ?_ ?_; rotate_left 2; (focus (go_simp; first | done | rfl)); (focus ((try simp only [Kr.PT]); first | done | rfl)))
      (refine Kr.seqQ (v := ?_) (a' := ?_) (by rfl) ?_ ?_ ?_; rotate_left 2; (focus (go_simp; first | done | rfl)); (focus ((try simp only [Kr.PT]); first | done | rfl)))
      refine Kr.seqDoneW ?_
      have HADD : IntKind.i64.wrap ((i : Int) + 1) = ((i + 1 : Nat) : Int) := wrap_nat (by omega) (by omega)
      go_upto_region 11 with fail
      refine Kr.seqStartW ?_
      (refine Kr.seqQ (v := .int .i64 ((i + 1 : Nat) : Int)) (a' := ?_) (by rfl) ?_ ?_ ?_; rotate_left 1; (focus (exact Kr.valOf rfl (addI HADD))); (focus ((try simp only [Kr.PT]); first | done | rfl)))
      (refine Kr.seqQ (v := ?_) (a' := ?_) (by rfl) ?_ ?_ ?_; rotate_left 2; (focus (go_simp; first | done | rfl)); (focus ((try simp only [Kr.PT]); first | done | rfl)))
      refine Kr.seqDoneW ?_
      go_wp2; go_roundw
      case rel => exact ⟨i + 1, z2, by omega, hnx, rfl, rfl, Lib.hid H⟩
      case measure => simp [intOf]; omega
set_option linter.unusedSimpArgs false in
set_option maxRecDepth 100000 in
set_option maxHeartbeats 16000000 in
theorem Number_bad {l : List (BitVec 8)} {m : Int} {w : World} (hl : l.length = 32) (hm : m < 1 ∨ 2305843009213693952 ≤ m) :
    Calls Tryd.prog 21 #[.agg (l.map w8).toArray, .int .i64 m] w fun e w' => e = .returned (.tuple #[.int .i64 0, .int .i64 1]) ∧ Gr w w' := by
  have hl32 : (l.map w8).length = 32 := by rw [List.length_map]; exact hl
  have hc : Ww.chk 0 0 m = 1 := by unfold Ww.chk; rw [if_pos hm]
  have H := Ow.start w
  go_enter Tryd.func21, Tryd.ntmps21
  go_upto_region 0 with fail
  refine Kr.seqStartW ?_
  refine Kr.seqR (by rfl) (fun K hK => ?_)
  refine wp_runV rfl boxH ?_
  obtain ⟨y1, hy⟩ : ∃ y, w.alloc (.cells (l.map w8).toArray 25) = y := ⟨_, rfl⟩
  obtain ⟨bh, hb⟩ : ∃ b, w.heap.size = b := ⟨_, rfl⟩
  rw [hy, hb]
  have hg : Gr w y1 := hy ▸ (Gr.refl _).alloc _
  replace H := H.alloc hy hb
  clear hy hb hg
  (refine Kr.outS hK (a' := ?_) ?_ ?_; rotate_left; (focus ((try simp only [Kr.PT]); first | done | rfl))); clear hK K
  (refine Kr.seqQ (v := ?_) (a' := ?_) (by rfl) ?_ ?_ ?_; rotate_left 2; (focus (go_simp; first | done | rfl)); (focus ((try simp only [Kr.PT]); first | done | rfl)))
  (refine Kr.seqQ (v := ?_) (a' := ?_) (by rfl) ?_ ?_ ?_; rotate_left 2; (focus (go_simp; first | done | rfl)); (focus ((try simp only [Kr.PT]); first | done | rfl)))
  refine Kr.seqDoneW ?_
  go_upto_region 1 with fail
  refine Kr.seqStartW ?_
  (refine Kr.seqQ (v := ?_) (a' := ?_) (by rfl) ?_ ?_ ?_; rotate_left 2; (focus (go_simp; first | done | rfl)); (focus ((try simp only [Kr.PT]); first | done | rfl)))
  refine Kr.seqR (by rfl) (fun K hK => ?_)
  go_simp
  go_at_call 42
  refine (Ww.Reduce_bad 4294967296 m 1 hc (.inl rfl) y1).mono ?_
  rintro e w9 ⟨rfl, hw⟩
  rw [hw]
  clear hw w9
  (refine Kr.outS hK (a' := ?_) ?_ ?_; rotate_left; (focus ((try simp only [Kr.PT]); first | done | rfl))); clear hK K
  (refine Kr.seqQ (v := ?_) (a' := ?_) (by rfl) ?_ ?_ ?_; rotate_left 2; (focus (go_simp; first | done | rfl)); (focus ((try simp only [Kr.PT]); first | done | rfl)))
  (refine Kr.seqQ (v := ?_) (a' := ?_) (by rfl) ?_ ?_ ?_; rotate_left 2; (focus (go_simp; first | done | rfl)); (focus ((try simp only [Kr.PT]); first | done | rfl)))
  (refine Kr.seqQ (v := ?_) (a' := ?_) (by rfl) ?_ ?_ ?_; rotate_left 2; (focus (go_simp; first | done | rfl)); (focus ((try simp only [Kr.PT]); first | done | rfl)))
  (refine Kr.seqQ (v := ?_) (a' := ?_) (by rfl) ?_ ?_ ?_; rotate_left 2; (focus (go_simp; first | done | rfl)); (focus ((try simp only [Kr.PT]); first | done | rfl)))
  (refine Kr.seqQ (v := ?_) (a' := ?_) (by rfl) ?_ ?_ ?_; rotate_left 2; (focus (go_simp; first | done | rfl)); (focus ((try simp only [Kr.PT]); first | done | rfl)))
  refine Kr.seqDoneW ?_
  go_upto_region 2 with fail
  refine Kr.seqStartW ?_
  (refine Kr.seqQ (v := ?_) (a' := ?_) (by rfl) ?_ ?_ ?_; rotate_left 2; (focus (go_simp; first | done | rfl)); (focus ((try simp only [Kr.PT]); first | done | rfl)))
  (refine Kr.seqQ (v := .bool true) (a' := ?_) (by rfl) ?_ ?_ ?_; rotate_left 1; (focus (exact Kr.valOf rfl (neqC1))); (focus ((try simp only [Kr.PT]); first | done | rfl)))
  refine Kr.seqDoneW ?_
  go_upto_region 3 with fail
  refine Kr.seqStartW ?_
  (refine Kr.seqQ (v := ?_) (a' := ?_) (by rfl) ?_ ?_ ?_; rotate_left 2; (focus (go_simp; first | done | rfl)); (focus ((try simp only [Kr.PT]); first | done | rfl)))
  (refine Kr.seqQ (v := ?_) (a' := ?_) (by rfl) ?_ ?_ ?_; rotate_left 2; (focus (go_simp; first | done | rfl)); (focus ((try simp only [Kr.PT]); first | done | rfl)))
  (refine Kr.seqQ (v := ?_) (a' := ?_) (by rfl) ?_ ?_ ?_; rotate_left 2; (focus (go_simp; first | done | rfl)); (focus ((try simp only [Kr.PT]); first | done | rfl)))
  refine Kr.seqDoneW ?_
  have hk := trivial
  go_wp2
  refine bodyPost_ret (v := .tuple #[.int .i64 0, .int .i64 1]) (by simp [results, Tryd.results21, go_sem, hk]) rfl ⟨rfl, H.g⟩
set_option linter.unusedSimpArgs false in
set_option maxRecDepth 100000 in
set_option maxHeartbeats 16000000 in
theorem rNumber_v {l : List (BitVec 8)} {m : Nat} {w : World} (hl : l.length = 32) (hm1 : 1 ≤ m) (hm2 : m < 2305843009213693952) :
    Calls Tryd.prog 22 #[.agg (l.map w8).toArray, .int .i64 (m : Int)] w fun e w' => e = .returned (.int .i64 ((vB l 16 % m : Nat) : Int)) ∧ Gr w w' := by
  have hl32 : (l.map w8).length = 32 := by rw [List.length_map]; exact hl
  obtain ⟨B, hB⟩ : ∃ z, 256 % m = z := ⟨_, rfl⟩
  have hBm : B < m := hB ▸ Nat.mod_lt _ (by omega)
  obtain ⟨V, hV⟩ : ∃ z, vB l 16 % m = z := ⟨_, rfl⟩
  rw [hV]
  have H := Ow.start w
  go_enter Tryd.func22, Tryd.ntmps22
  go_upto_region 0 with fail
  refine Kr.seqStartW ?_
  refine Kr.seqR (by rfl) (fun K hK => ?_)
  refine wp_runV rfl boxH ?_
  obtain ⟨y1, hy⟩ : ∃ y, w.alloc (.cells (l.map w8).toArray 25) = y := ⟨_, rfl⟩
  obtain ⟨bh, hb⟩ : ∃ b, w.heap.size = b := ⟨_, rfl⟩
  rw [hy, hb]
  have hg : Gr w y1 := hy ▸ (Gr.refl _).alloc _
  replace H := H.alloc hy hb
  clear hy hb hg
  (refine Kr.outS hK (a' := ?_) ?_ ?_; rotate_left; (focus ((try simp only [Kr.PT]); first | done | rfl))); clear hK K
  (refine Kr.seqQ (v := ?_) (a' := ?_) (by rfl) ?_ ?_ ?_; rotate_left 2; (focus (go_simp; first | done | rfl)); (focus ((try simp only [Kr.PT]); first | done | rfl)))
  refine Kr.seqDoneW ?_
  go_upto_region 1 with fail
  refine Kr.seqStartW ?_
  (refine Kr.seqQ (v := ?_) (a' := ?_) (by rfl) ?_ ?_ ?_; rotate_left 2; (focus (go_simp; first | done | rfl)); (focus ((try simp only [Kr.PT]); first | done | rfl)))
  refine Kr.seqDoneW ?_
  go_upto_region 2 with fail
  refine Kr.seqStartW ?_
  (refine Kr.seqQ (v := ?_) (a' := ?_) (by rfl) ?_ ?_ ?_; rotate_left 2; (focus (go_simp; first | done | rfl)); (focus ((try simp only [Kr.PT]); first | done | rfl)))
  refine Kr.seqDoneW ?_
  have H2 := Lib.hid H; clear H
  go_wp2_with fail
  go_loopw [5, 6] (fun nv jv wr => ∃ i z : Nat, i ≤ 16 ∧ vB l i % m = z ∧ nv = .int .i64 (z : Int) ∧ jv = .int .i64 (i : Int) ∧ Hid (Ow w wr [(bh, 25, l.map w8)])) (fun _ jv _ => 16 - (intOf jv).toNat)
  case atStart => exact ⟨0, 0, Nat.zero_le _, Nat.zero_mod _, rfl, rfl, H2⟩
  case round =>
    clear H2; obtain ⟨i, z, hi, hz, rfl, rfl, HH⟩ := hrel; have H := HH.out; clear HH
    have hzm : z < m := hz ▸ Nat.mod_lt _ (by omega)
    by_cases hie : i = 16
    · have HC : decide ((i : Int) < 16) = false := decide_eq_false (by omega)
      obtain rfl : z = V := by rw [← hz, hie]; exact hV
      clear hie
      go_upto_region 3 with fail
      refine Kr.seqStartW ?_
      (refine Kr.seqQ (v := ?_) (a' := ?_) (by rfl) ?_ ?_ ?_; rotate_left 2; (focus (go_simp; first | done | rfl)); (focus ((try simp only [Kr.PT]); first | done | rfl)))
      (refine Kr.seqQ (v := .bool false) (a' := ?_) (by rfl) ?_ ?_ ?_; rotate_left 1; (focus (exact Kr.valOf rfl (lssT HC))); (focus ((try simp only [Kr.PT]); first | done | rfl)))
      refine Kr.seqDoneW ?_
      go_upto_region 6 with fail
      refine Kr.seqStartW ?_
      (refine Kr.seqQ (v := ?_) (a' := ?_) (by rfl) ?_ ?_ ?_; rotate_left 2; (focus (go_simp; first | done | rfl)); (focus ((try simp only [Kr.PT]); first | done | rfl)))
      (refine Kr.seqQ (v := ?_) (a' := ?_) (by rfl) ?_ ?_ ?_; rotate_left 2; (focus (go_simp; first | done | rfl)); (focus ((try simp only [Kr.PT]); first | done | rfl)))
      refine Kr.seqDoneW ?_
      have hk := trivial
      go_wp2
      refine bodyPost_ret (v := .int .i64 (z : Int)) (by simp [results, Tryd.results22, go_sem, hk]) rfl ⟨rfl, H.g⟩
    · have hil : i < 16 := by omega
      have HC : decide ((i : Int) < 16) = true := decide_eq_true (by omega)
      obtain ⟨x, hx⟩ : ∃ x, l.getD i 0 = x := ⟨_, rfl⟩
      have hgx : l[i]? = some x := hx ▸ getD_of (by omega)
      have hgv : (l.map w8)[i]? = some (w8 x) := map_get8 hgx
      have hxl := x.isLt
      obtain ⟨z1, hz1⟩ : ∃ y, z * B % m = y := ⟨_, rfl⟩
      have hz1m : z1 < m := hz1 ▸ Nat.mod_lt _ (by omega)
      obtain ⟨z3, hz3⟩ : ∃ y, z1 + x.toNat = y := ⟨_, rfl⟩
      obtain ⟨z2, hz2⟩ : ∃ y, z3 % m = y := ⟨_, rfl⟩
      have HADX : IntKind.i64.wrap ((z1 : Int) + (x.toNat : Int)) = (z3 : Int) := wrap_nat (by omega) (by omega)
      have hzI : (z3 : Int) % (m : Int) = (z2 : Int) := by rw [← hz2]; rfl
      have hnx : vB l (i + 1) % m = z2 := by rw [vB, hx, ← hz2, ← hz3, ← hz1, ← hz, ← hB]; exact (num_byte _ _ _ _).symm
      go_upto_region 3 with fail
      refine Kr.seqStartW ?_
      (refine Kr.seqQ (v := ?_) (a' := ?_) (by rfl) ?_ ?_ ?_; rotate_left 2; (focus (go_simp; first | done | rfl)); (focus ((try simp only [Kr.PT]); first | done | rfl)))
      (refine Kr.seqQ (v := .bool true) (a' := ?_) (by rfl) ?_ ?_ ?_; rotate_left 1; (focus (exact Kr.valOf rfl (lssT HC))); (focus ((try simp only [Kr.PT]); first | done | rfl)))
      refine Kr.seqDoneW ?_
      go_upto_region 5 with fail
      refine Kr.startL (fun W' => (W'.heap[bh]? = some (.cells (l.map w8).toArray 25 (0, 0))) ∧ True) [] (by kernel_rfl) ?_
      have gd : Gr wr wr.drew := (Gr.refl _).drew
      generalize wr.drew = d2 at gd ⊢
      replace H := H.grow gd
      clear gd
      (refine Kr.tPQ 0 (v := ?_) (a' := ?_) rfl (by kernel_rfl) (fun _ _ _ h => h) (by rfl) (fun _ => ⟨(H.at 0 rfl), trivial⟩) (fun wx => ?_) ?_ ?_; rotate_left 2; (focus (go_simp; first | done | rfl)); (focus ((try simp only [Kr.PT]); first | done | rfl)))
      (refine Kr.tPQ 1 (v := ?_) (a' := ?_) rfl (by kernel_rfl) (fun _ _ _ h => h) (by rfl) (fun _ => ⟨(H.at 0 rfl), trivial⟩) (fun wx => ?_) ?_ ?_; rotate_left 2; (focus (go_simp; first | done | rfl)); (focus ((try simp only [Kr.PT]); first | done | rfl)))
      (refine Kr.tPQ 2 (v := .int .i64 (B : Int)) (a' := ?_) rfl (by kernel_rfl) (fun _ _ _ h => h) (by rfl) (fun _ => ⟨(H.at 0 rfl), trivial⟩) (fun wx => ?_) ?_ ?_; rotate_left 1; (focus (exact Kr.valOf rfl (remI (x := 256) (d := m) (by omega) hB (by omega)))); (focus ((try simp only [Kr.PT]); first | done | rfl)))
      (refine Kr.tPQ 3 (v := ?_) (a' := ?_) rfl (by kernel_rfl) (fun _ _ _ h => h) (by rfl) (fun _ => ⟨(H.at 0 rfl), trivial⟩) (fun wx => ?_) ?_ ?_; rotate_left 2; (focus (go_simp; first | done | rfl)); (focus ((try simp only [Kr.PT]); first | done | rfl)))
      (refine Kr.tPQ 5 (v := ?_) (a' := ?_) rfl (by kernel_rfl) (fun _ _ _ h => h) (by rfl) (fun _ => ⟨(H.at 0 rfl), trivial⟩) (fun wx => ?_) ?_ ?_; rotate_left 2; (focus (go_simp; first | done | rfl)); (focus ((try simp only [Kr.PT]); first | done | rfl)))
      (refine Kr.tPQ 6 (v := .pointer (some ⟨bh, i, none⟩)) (a' := ?_) rfl (by kernel_rfl) (fun _ _ _ h => h) (by rfl) (fun _ => ⟨(H.at 0 rfl), trivial⟩) (fun wx => ?_) ?_ ?_; rotate_left 1; (focus (exact Kr.valOf rfl (ixH (by omega)))); (focus ((try simp only [Kr.PT]); first | done | rfl)))
      (refine Kr.tSQ 7 [] (v := .int .u8 ((x).toNat : Int)) (a' := ?_) rfl (by kernel_rfl) (fun _ _ _ h => h) (by rfl) ⟨(H.at 0 rfl), trivial⟩ (fun wx hSx => ?_) ?_ ?_; rotate_left 1; (focus (exact Kr.valOf rfl (ldE8 (rowCell hSx.1 hgv)))); (focus ((try simp only [Kr.PT]); first | done | rfl)))
      (refine Kr.tPQ 8 (v := .int .i64 (x.toNat : Int)) (a' := ?_) rfl (by kernel_rfl) (fun _ _ _ h => h) (by rfl) (fun _ => ⟨(H.at 0 rfl), trivial⟩) (fun wx => ?_) ?_ ?_; rotate_left 1; (focus (exact Kr.valOf rfl (convB))); (focus ((try simp only [Kr.PT]); first | done | rfl)))
      (refine Kr.tPQ 10 (v := ?_) (a' := ?_) rfl (by kernel_rfl) (fun _ _ _ h => h) (by rfl) (fun _ => ⟨(H.at 0 rfl), trivial⟩) (fun wx => ?_) ?_ ?_; rotate_left 2; (focus (go_simp; first | done | rfl)); (focus ((try simp only [Kr.PT]); first | done | rfl)))
      refine Kr.readyL (rs := [4]) (by kernel_rfl) (by simp) ?_
      refine Kr.AllL.cons rfl (fun K hK => ?_) Kr.AllL.nil
      go_simp
      go_at_call 47
      have hP := Wr.Mul_any z B m hzm hBm hm2 d2
      rw [hz1] at hP
      refine (hP).mono ?_
      rintro e w9 ⟨rfl, hw⟩
      rw [hw]
      clear hw w9
      clear hP
      (refine Kr.outL hK (a' := ?_) ?_ (fun _ => ⟨(H.at 0 rfl), trivial⟩) ?_; rotate_left; (focus ((try simp only [Kr.PT]); first | done | rfl))); clear hK K
      (refine Kr.tPQ 9 (v := .int .i64 (z3 : Int)) (a' := ?_) rfl (by kernel_rfl) (fun _ _ _ h => h) (by rfl) (fun _ => ⟨(H.at 0 rfl), trivial⟩) (fun wx => ?_) ?_ ?_; rotate_left 1; (focus (exact Kr.valOf rfl (addI HADX))); (focus ((try simp only [Kr.PT]); first | done | rfl)))
      refine Kr.readyL (rs := [11]) (by kernel_rfl) (by simp) ?_
      refine Kr.AllL.cons rfl (fun K hK => ?_) Kr.AllL.nil
      go_simp
      go_at_call 46
      have hP := Wr.Reduce_any (z3 : Int) (m : Int) (by omega) (by omega) d2
      rw [hzI] at hP
      refine (hP).mono ?_
      rintro e w9 ⟨rfl, hw⟩
      rw [hw]
      clear hw w9
      clear hP
      (refine Kr.outL hK (a' := ?_) ?_ (fun _ => ⟨(H.at 0 rfl), trivial⟩) ?_; rotate_left; (focus ((try simp only [Kr.PT]); first | done | rfl))); clear hK K
      (refine Kr.tPQ 12 (v := ?_) (a' := ?_) rfl (by kernel_rfl) (fun _ _ _ h => h) (by rfl) (fun _ => ⟨(H.at 0 rfl), trivial⟩) (fun wx => ?_) ?_ ?_; rotate_left 2; (focus (go_simp; first | done | rfl)); (focus ((try simp only [Kr.PT]); first | done | rfl)))
      refine Kr.doneL (by kernel_rfl) ?_ _
      have HADD : IntKind.i64.wrap ((i : Int) + 1) = ((i + 1 : Nat) : Int) := wrap_nat (by omega) (by omega)
      go_upto_region 4 with fail
      refine Kr.seqStartW ?_
      (refine Kr.seqQ (v := ?_) (a' := ?_) (by rfl) ?_ ?_ ?_; rotate_left 2; (focus (go_simp; first | done | rfl)); (focus ((try simp only [Kr.PT]); first | done | rfl)))
      (refine Kr.seqQ (v := .int .i64 ((i + 1 : Nat) : Int)) (a' := ?_) (by rfl) ?_ ?_ ?_; rotate_left 1; (focus (exact Kr.valOf rfl (addI HADD))); (focus ((try simp only [Kr.PT]); first | done | rfl)))
      (refine Kr.seqQ (v := ?_) (a' := ?_) (by rfl) ?_ ?_ ?_; rotate_left 2; (focus (go_simp; first | done | rfl)); (focus ((try simp only [Kr.PT]); first | done | rfl)))
      refine Kr.seqDoneW ?_
      go_wp2; go_roundw
      case rel => exact ⟨i + 1, z2, by omega, hnx, rfl, rfl, Lib.hid H⟩
      case measure => simp [intOf]; omega
end Go.Proofs.YtilbojcghladjaaDoor.Dg
