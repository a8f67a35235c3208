/- Blocks that calls have made. -/
import Derived.Test.YtilbojcghladjaaDoorQEb
import Derived.Deep.Cut
namespace Go.Proofs.YtilbojcghladjaaDoor.Dg
open Go Go.RowKit Go.Proofs.YtilbojcghladjaaDoor.Ne Go.Proofs.YtilbojcghladjaaDoor.Kr

theorem Ow.adopt {w W : World} {rs : List Blk} {b : Nat} {T : TypeId} {cur : List Value} (H : Ow w W rs) (hb : w.heap.size ≤ b) (hh : W.heap[b]? = some (.cells cur.toArray T (0, 0))) (hne : ∀ x ∈ rs, x.1 ≠ b) : Ow w W ((b, T, cur) :: rs) := by
  refine ⟨H.g, fun x hx => ?_, fun x hx => ?_, List.Pairwise.cons (fun x hx e => hne x hx e.symm) H.ne⟩
  · rcases List.mem_cons.1 hx with rfl | hx
    · exact hh
    · exact H.r x hx
  · rcases List.mem_cons.1 hx with rfl | hx
    · exact hb
    · exact H.low x hx
/-- A block that a call has made. -/
theorem Ow.made {w W W' : World} {rs : List Blk} {b : Nat} {T : TypeId} {cur : List Value} (H : Ow w W rs) (g : Gr W W') (hb : W.heap.size ≤ b) (hh : W'.heap[b]? = some (.cells cur.toArray T (0, 0))) : Ow w W' ((b, T, cur) :: rs) :=
  (H.grow g).adopt (Nat.le_trans H.g.le hb) hh (fun x hx e => by have := H.lt hx; omega)
theorem Ow.erase {w W : World} {rs : List Blk} (H : Ow w W rs) (i : Nat) : Ow w W (rs.eraseIdx i) := ⟨H.g, fun x hx => H.r x (List.mem_of_mem_eraseIdx hx), fun x hx => H.low x (List.mem_of_mem_eraseIdx hx), H.ne.sublist (List.eraseIdx_sublist _ _)⟩
theorem srcG_row {W : World} {b : Nat} {T : TypeId} {l : List Value} {fr : Nat × Nat} (h : W.heap[b]? = some (.cells l.toArray T fr)) : SrcG (some ⟨b, 0, none⟩) l W := .inr ⟨b, 0, rfl, fun j u hu => by
  rw [Nat.zero_add, cell_of_row W b j _ _ _ h]; simpa using hu⟩
theorem of_take {l xs : List Value} {n j : Nat} {u : Value} (h : l.take n = xs) (hj : j < n) (hu : xs[j]? = some u) : l[j]? = some u := by
  rw [← h, List.getElem?_take, if_pos hj] at hu; exact hu
theorem ixW0 {w : World} {b n c j : Nat} (h : j < n) : (Instr.indexAt 63 (.slice (some ⟨b, 0, none⟩) n c) (.int .i64 (j : Int))).run Tryd.prog w = .ok (.pointer (some ⟨b, j, none⟩)) w := by
  rw [ixW h, Nat.zero_add]
theorem ixC0 {w : World} {b c : Nat} : (Instr.indexAt 63 (.slice (some ⟨b, 0, none⟩) 8 c) (.int .i64 0)).run Tryd.prog w = .ok (.pointer (some ⟨b, 0, none⟩)) w := ixW0 (j := 0) (by decide)
theorem ixC1 {w : World} {b c : Nat} : (Instr.indexAt 63 (.slice (some ⟨b, 0, none⟩) 8 c) (.int .i64 1)).run Tryd.prog w = .ok (.pointer (some ⟨b, 1, none⟩)) w := ixW0 (j := 1) (by decide)
theorem ixC2 {w : World} {b c : Nat} : (Instr.indexAt 63 (.slice (some ⟨b, 0, none⟩) 8 c) (.int .i64 2)).run Tryd.prog w = .ok (.pointer (some ⟨b, 2, none⟩)) w := ixW0 (j := 2) (by decide)
theorem ixC3 {w : World} {b c : Nat} : (Instr.indexAt 63 (.slice (some ⟨b, 0, none⟩) 8 c) (.int .i64 3)).run Tryd.prog w = .ok (.pointer (some ⟨b, 3, none⟩)) w := ixW0 (j := 3) (by decide)
theorem ixC4 {w : World} {b c : Nat} : (Instr.indexAt 63 (.slice (some ⟨b, 0, none⟩) 8 c) (.int .i64 4)).run Tryd.prog w = .ok (.pointer (some ⟨b, 4, none⟩)) w := ixW0 (j := 4) (by decide)
theorem ixC5 {w : World} {b c : Nat} : (Instr.indexAt 63 (.slice (some ⟨b, 0, none⟩) 8 c) (.int .i64 5)).run Tryd.prog w = .ok (.pointer (some ⟨b, 5, none⟩)) w := ixW0 (j := 5) (by decide)
theorem ixC6 {w : World} {b c : Nat} : (Instr.indexAt 63 (.slice (some ⟨b, 0, none⟩) 8 c) (.int .i64 6)).run Tryd.prog w = .ok (.pointer (some ⟨b, 6, none⟩)) w := ixW0 (j := 6) (by decide)
theorem ixC7 {w : World} {b c : Nat} : (Instr.indexAt 63 (.slice (some ⟨b, 0, none⟩) 8 c) (.int .i64 7)).run Tryd.prog w = .ok (.pointer (some ⟨b, 7, none⟩)) w := ixW0 (j := 7) (by decide)
theorem slP {w : World} {b a n c e : Nat} (h : a + 64 = e) (h1 : e ≤ n) (h2 : n ≤ c) (h3 : e < 9223372036854775808) : (Instr.sliceAt 22 (.slice (some ⟨b, 0, none⟩) n c) (some (.int .i64 (a : Int))) (some (.int .i64 (e : Int))) none).run Tryd.prog w = .ok (.slice (some ⟨b, a, none⟩) 64 (c - a)) w := by
  have h4 : (0 : Int) ≤ (e : Int) := by omega
  have h5 : (e : Int) ≤ (c : Int) := by omega
  have h6 : (0 : Int) ≤ (a : Int) := by omega
  have h7 : ¬ c = a := by omega
  have h8 : e - a = 64 := by omega
  have h10 : a ≤ e := by omega
  have h11 : e ≤ c := by omega
  clear h h1 h2 h3
  go_simp

set_option linter.unusedSimpArgs false in
set_option maxRecDepth 100000 in
set_option maxHeartbeats 16000000 in
theorem rconst_v {w : World} :
    Calls Tryd.prog 34 #[] w fun e w' => ∃ b, e = .returned (.slice (some ⟨b, 0, none⟩) 64 64) ∧ w.heap.size ≤ b ∧ w'.heap[b]? = some (.cells (kc.map w32).toArray 51 (0, 0)) ∧ Gr w w' := by
  have H := Ow.start w
  go_enter Tryd.func34, Tryd.ntmps34
  go_upto_region 0 with fail
  refine Kr.seqStartW ?_
  (refine Kr.seqQ (v := ?_) (a' := ?_) (by rfl) ?_ ?_ ?_; rotate_left 2; (focus (go_simp; first | done | rfl)); (focus ((try simp only [Kr.PT]); first | done | rfl)))
  refine Kr.seqDoneW ?_
  go_upto_region 1 with fail
  refine Kr.seqStartW ?_
  refine Kr.seqR (by rfl) (fun K hK => ?_)
  go_simp
  obtain ⟨y1, hy⟩ : ∃ y, w.alloc (.cells #[.int .u32 1116352408, .int .u32 1899447441, .int .u32 3049323471, .int .u32 3921009573, .int .u32 961987163, .int .u32 1508970993, .int .u32 2453635748, .int .u32 2870763221, .int .u32 3624381080, .int .u32 310598401, .int .u32 607225278, .int .u32 1426881987, .int .u32 1925078388, .int .u32 2162078206, .int .u32 2614888103, .int .u32 3248222580, .int .u32 3835390401, .int .u32 4022224774, .int .u32 264347078, .int .u32 604807628, .int .u32 770255983, .int .u32 1249150122, .int .u32 1555081692, .int .u32 1996064986, .int .u32 2554220882, .int .u32 2821834349, .int .u32 2952996808, .int .u32 3210313671, .int .u32 3336571891, .int .u32 3584528711, .int .u32 113926993, .int .u32 338241895, .int .u32 666307205, .int .u32 773529912, .int .u32 1294757372, .int .u32 1396182291, .int .u32 1695183700, .int .u32 1986661051, .int .u32 2177026350, .int .u32 2456956037, .int .u32 2730485921, .int .u32 2820302411, .int .u32 3259730800, .int .u32 3345764771, .int .u32 3516065817, .int .u32 3600352804, .int .u32 4094571909, .int .u32 275423344, .int .u32 430227734, .int .u32 506948616, .int .u32 659060556, .int .u32 883997877, .int .u32 958139571, .int .u32 1322822218, .int .u32 1537002063, .int .u32 1747873779, .int .u32 1955562222, .int .u32 2024104815, .int .u32 2227730452, .int .u32 2361852424, .int .u32 2428436474, .int .u32 2756734187, .int .u32 3204031479, .int .u32 3329325298] 51) = y := ⟨_, rfl⟩
  obtain ⟨bk, hbk⟩ : ∃ b, w.heap.size = b := ⟨_, rfl⟩
  have hbw : w.heap.size ≤ bk := by rw [← hbk]; exact H.g.le
  rw [hy]
  have hy2 : w.alloc (.cells (kc.map w32).toArray 51) = y1 := hy
  replace H := H.alloc hy2 hbk
  have HX := Lib.hid hbk; clear hy hy2
  (refine Kr.outS hK (a' := ?_) ?_ ?_; rotate_left; (focus ((try simp only [Kr.PT]); first | done | rfl))); clear hK K
  (refine Kr.seqQ (v := ?_) (a' := ?_) (by rfl) ?_ ?_ ?_; rotate_left 2; (focus (go_simp; first | done | rfl)); (focus ((try simp only [Kr.PT]); first | done | rfl)))
  refine Kr.seqDoneW ?_
  have hk := trivial
  go_wp2
  refine bodyPost_ret (v := .slice (some ⟨w.heap.size, 0, none⟩) 64 64) (by simp [results, Tryd.results34, go_sem, hk]) rfl ⟨w.heap.size, rfl, Nat.le_refl _, (by have h := H.at 0 rfl; rw [← HX.out] at h; exact h), H.g⟩
end Go.Proofs.YtilbojcghladjaaDoor.Dg
