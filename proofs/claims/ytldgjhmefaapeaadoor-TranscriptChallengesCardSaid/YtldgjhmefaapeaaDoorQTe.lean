/- encode.Ints. -/
import Derived.Test.YtldgjhmefaapeaaDoorQTd
import Derived.Deep.Cut
namespace Go.Proofs.YtldgjhmefaapeaaDoor.Dg
open Go Go.RowKit Go.Proofs.YtldgjhmefaapeaaDoor.Ne Go.Proofs.YtldgjhmefaapeaaDoor.Kr

/-- A slice of integers. -/
def vI (n : Int) : Value := .int .i64 n
theorem ldI1 {w : World} {a : Addr} {n : Int} (h : w.cell? a = some (vI n)) : (Instr.loadAt 3 (.pointer (some a))).run Tryd.prog w = .ok (.int .i64 n) w := ldInt h
theorem ixN {w : World} {b off n c j : Nat} (h : j < n) : (Instr.indexAt 43 (.slice (some ⟨b, off, none⟩) n c) (.int .i64 (j : Int))).run Tryd.prog w = .ok (.pointer (some ⟨b, off + j, none⟩)) w := by
  have h1 : (0 : Int) ≤ (j : Int) := by omega
  have h2 : (j : Int) < (n : Int) := by omega
  go_simp
theorem one_int (n : Int) : ∀ u ∈ ([.int .i64 1, .int .i64 n, .slice none 0 0, .slice none 0 0] : List Value), u.oneCell' = true := by
  intro v hv; simp only [List.mem_cons, List.not_mem_nil, or_false] at hv; rcases hv with rfl | rfl | rfl | rfl <;> rfl
theorem one_sl {a b : Int} {p q : Option Addr} {n c m d : Nat} : ∀ u ∈ ([.int .i64 a, .int .i64 b, .slice p n c, .slice q m d] : List Value), u.oneCell' = true := by
  intro v hv; simp only [List.mem_cons, List.not_mem_nil, or_false] at hv; rcases hv with rfl | rfl | rfl | rfl <;> rfl
theorem infoI : (Tryd.prog.info? 49).map (·.size) = some 4 := by kernel_rfl
def itI (n : Int) : It := .mk 1 n [] []
/-- The integers made so far. -/
def IL (B : Nat) (W : World) (v : Value) (k : Nat) (l : List Int) : Prop := ∃ xs, B ≤ W.heap.size ∧ W.ownsRow B 49 4 v k xs ∧ l.length = k ∧ ∀ W', KidT W' 1 xs (l.map itI)

theorem setCell_size (w : World) (a : Addr) (u : Value) : (w.setCell a u).heap.size = w.heap.size := by simp [World.setCell]
set_option linter.unusedSimpArgs false in
set_option maxRecDepth 100000 in
set_option maxHeartbeats 16000000 in
theorem EInts_v {p : Option Addr} {n c : Nat} {l : List Int} {w : World} (hsrc : SrcG p (l.map vI) w) (hl : l.length = n) (hn : n ≤ 1000) (hin : ∀ x ∈ l, InR x) :
    Calls Tryd.prog 16 #[.slice p n c] w fun e w' => ∃ v0 v1 v2 v3, e = .returned (.agg #[v0, v1, v2, v3]) ∧ (∀ u ∈ ([v0, v1, v2, v3] : List Value), u.oneCell' = true) ∧ ItV w' 2 (fun _ => True) (.agg #[v0, v1, v2, v3]) (intsI l) ∧ Gr w w' := by
  have HSRC := Lib.hid hsrc; have HIN := Lib.hid hin; clear hsrc hin
  have H := Ow.start w
  go_enter Tryd.func16, Tryd.ntmps16
  go_upto_region 0 with fail
  refine Kr.seqStartW ?_
  refine Kr.seqR (by rfl) (fun K hK => ?_)
  refine wp_runV rfl newI ?_
  obtain ⟨y1, hy⟩ : ∃ y, w.alloc (.cells ([.int .i64 0, .int .i64 0, .slice none 0 0, .slice none 0 0]).toArray 49) = y := ⟨_, rfl⟩
  obtain ⟨bz, hb⟩ : ∃ b, w.heap.size = b := ⟨_, rfl⟩
  rw [hy, hb]
  have hg : Gr w y1 := hy ▸ (Gr.refl _).alloc _
  replace H := H.alloc hy hb
  clear hy hb hg
  (refine Kr.outS hK (a' := ?_) ?_ ?_; rotate_left; (focus ((try simp only [Kr.PT]); first | done | rfl))); clear hK K
  refine Kr.seqDoneW ?_
  go_upto_region 1 with fail
  refine Kr.seqStartW ?_
  (refine Kr.seqQ (v := .agg #[.int .i64 3, .int .i64 0, .slice none 0 0, .slice none 0 0]) (a' := ?_) (by rfl) ?_ ?_ ?_; rotate_left 1; (focus (go_simp; first | done | rfl)); (focus ((try simp only [Kr.PT]); first | done | rfl)))
  refine Kr.seqR (by rfl) (fun K hK => ?_)
  refine wp_runV rfl newI ?_
  obtain ⟨y2, hy⟩ : ∃ y, y1.alloc (.cells ([.int .i64 0, .int .i64 0, .slice none 0 0, .slice none 0 0]).toArray 49) = y := ⟨_, rfl⟩
  obtain ⟨bo, hb⟩ : ∃ b, y1.heap.size = b := ⟨_, rfl⟩
  rw [hy, hb]
  have hg : Gr y1 y2 := hy ▸ (Gr.refl _).alloc _
  replace H := H.alloc hy hb
  clear hy hb hg
  (refine Kr.outS hK (a' := ?_) ?_ ?_; rotate_left; (focus ((try simp only [Kr.PT]); first | done | rfl))); clear hK K
  refine Kr.seqR (by rfl) (fun K hK => ?_)
  refine wp_run rfl (stI (H.at 0 rfl) one_sl) ?_
  obtain ⟨y3, hy⟩ : ∃ y, y2.setRow bo ([.int .i64 3, .int .i64 0, .slice none 0 0, .slice none 0 0]).toArray = y := ⟨_, rfl⟩
  rw [hy]
  replace H := H.put 0 hy rfl
  dsimp only [List.set] at H
  clear hy
  (refine Kr.outS hK (a' := ?_) ?_ ?_; rotate_left; (focus ((try simp only [Kr.PT]); first | done | rfl))); clear hK K
  refine Kr.seqDoneW ?_
  go_upto_region 2 with fail
  refine Kr.seqStartW ?_
  (refine Kr.seqQ (v := ?_) (a' := ?_) (by rfl) ?_ ?_ ?_; rotate_left 2; (focus (go_simp; first | done | rfl)); (focus ((try simp only [Kr.PT]); first | done | rfl)))
  (refine Kr.seqQ (v := .int .i64 (n : Int)) (a' := ?_) (by rfl) ?_ ?_ ?_; rotate_left 1; (focus (exact Kr.valOf rfl ((by go_simp)))); (focus ((try simp only [Kr.PT]); first | done | rfl)))
  (refine Kr.seqQ (v := ?_) (a' := ?_) (by rfl) ?_ ?_ ?_; rotate_left 2; (focus (go_simp; first | done | rfl)); (focus ((try simp only [Kr.PT]); first | done | rfl)))
  refine Kr.seqDoneW ?_
  obtain ⟨w1, hw1⟩ : ∃ z, y3 = z := ⟨_, rfl⟩; have HBO1 : Hid (bo < w1.heap.size) := Lib.hid (hw1 ▸ lt_of_heap (H.at 0 rfl)); have HBZ1 : Hid (bz < w1.heap.size) := Lib.hid (hw1 ▸ lt_of_heap (H.at 1 rfl)); have HW1 : Hid (w.heap.size ≤ w1.heap.size) := Lib.hid (hw1 ▸ H.g.size)
  have hil : IL w1.heap.size y3 (.slice none 0 0) 0 [] := ⟨[], Nat.le_of_eq (by rw [hw1]), World.ownsRow_nil _ _ _ _, rfl, fun W => KidT.nil W 1⟩; have HIL0 := Lib.hid hil; clear hil hw1
  have H2 := Lib.hid H; clear H
  go_wp2_with fail
  go_loopw [9] (fun iv wr => ∃ (j : Nat) (pl : Option Addr) (cl : Nat), j ≤ n ∧ iv = .int .i64 (j : Int) ∧ Hid (IL w1.heap.size wr (.slice pl j cl) j (l.take j)) ∧ Hid (Ow w wr [(bo, 49, [.int .i64 3, .int .i64 0, .slice none 0 0, .slice pl j cl]), (bz, 49, [.int .i64 0, .int .i64 0, .slice none 0 0, .slice none 0 0])])) (fun iv _ => (n - (intOf iv).toNat))
  case atStart => exact ⟨0, none, 0, by omega, rfl, HIL0, H2⟩
  case round =>
    clear H2 HIL0; obtain ⟨j, pl, cl, hj, rfl, HIL, HH⟩ := hrel; have H := HH.out; clear HH
    by_cases hje : j = n
    · have E3 : decide ((j : Int) < (n : Int)) = false := decide_eq_false (by omega)
      have HIL2 : Hid (IL w1.heap.size wr (.slice pl j cl) j l) := Lib.hid (by have h := HIL.out; rwa [List.take_of_length_le (by omega)] at h); clear HIL hje
      go_upto_region 3 with fail
      refine Kr.seqStartW ?_
      (refine Kr.seqQ (v := .bool false) (a' := ?_) (by rfl) ?_ ?_ ?_; rotate_left 1; (focus (exact Kr.valOf rfl (lssT E3))); (focus ((try simp only [Kr.PT]); first | done | rfl)))
      refine Kr.seqDoneW ?_
      go_upto_region 7 with fail
      refine Kr.seqStartW ?_
      (refine Kr.seqQ (v := .agg #[.int .i64 3, .int .i64 0, .slice none 0 0, .slice pl j cl]) (a' := ?_) (by rfl) ?_ ?_ ?_; rotate_left 1; (focus (exact Kr.valOf rfl (ldI (H.at 0 rfl)))); (focus ((try simp only [Kr.PT]); first | done | rfl)))
      refine Kr.seqR (by rfl) (fun K hK => ?_)
      refine wp_run rfl (stI (H.at 1 rfl) one_sl) ?_
      have hit : ItV (wr.setRow bz ([.int .i64 3, .int .i64 0, .slice none 0 0, .slice pl j cl] : List Value).toArray) 2 (fun _ => True) (.agg #[.int .i64 3, .int .i64 0, .slice none 0 0, .slice pl j cl]) (intsI l) := by
        obtain ⟨xs, hsz, hrow, hk, hkd⟩ := HIL2.out
        exact itv_row (B := w1.heap.size) (rowI_grow hrow (fun z hz => setRow_other wr bz z _ (by have h1 := (World.ownsRow.lt hrow z hz).1; have h2 := HBZ1.out; omega))) (by rw [List.length_map]; exact hk) (by omega) (hkd _)
      obtain ⟨y4, hy⟩ : ∃ y, wr.setRow bz ([.int .i64 3, .int .i64 0, .slice none 0 0, .slice pl j cl] : List Value).toArray = y := ⟨_, rfl⟩; rw [hy]; rw [hy] at hit; have HIT := Lib.hid hit; clear hit
      replace H := H.put 1 hy rfl; dsimp only [List.set] at H; clear hy
      (refine Kr.outS hK (a' := ?_) ?_ ?_; rotate_left; (focus ((try simp only [Kr.PT]); first | done | rfl))); clear hK K
      refine Kr.seqDoneW ?_
      go_wp2
      refine bodyPost_ret (v := .agg ([.int .i64 3, .int .i64 0, .slice none 0 0, .slice pl j cl] : List Value).toArray) (results_cell_row rfl _ _ bz 49 _ _ _ (by rfl) (H.at 1 rfl) Tryd.underlying49 rfl (show _ = some 4 from infoI)) rfl ⟨_, _, _, _, rfl, one_sl, HIT.out, H.g⟩
    have hjl : j < n := by omega
    have E3 : decide ((j : Int) < (n : Int)) = true := decide_eq_true (by omega)
    clear hje
    obtain ⟨x, hx⟩ : ∃ x, l[j]? = some x := ⟨_, List.getElem?_eq_getElem (by omega)⟩; have hxi := HIN.out x (List.mem_of_getElem? hx); have HXI := Lib.hid hxi; have HX := Lib.hid hx
    obtain ⟨b, off, e1, hcell⟩ : ∃ b off, p = some ⟨b, off, none⟩ ∧ w.cell? ⟨b, off + j, none⟩ = some (vI x) := by
      rcases HSRC.out with h0 | ⟨b, off, e, h2⟩
      · rw [List.map_eq_nil_iff.1 h0] at hx; cases hx
      · exact ⟨b, off, e, h2 j _ (by rw [List.getElem?_map, hx]; rfl)⟩
    subst e1; have HCELL := Lib.hid hcell; clear hcell hx hxi
    go_upto_region 3 with fail
    refine Kr.seqStartW ?_
    (refine Kr.seqQ (v := .bool true) (a' := ?_) (by rfl) ?_ ?_ ?_; rotate_left 1; (focus (exact Kr.valOf rfl (lssT E3))); (focus ((try simp only [Kr.PT]); first | done | rfl)))
    refine Kr.seqDoneW ?_
    clear E3
    go_upto_region 4 with fail
    refine Kr.seqStartW ?_
    (refine Kr.seqQ (v := .pointer (some ⟨b, off + j, none⟩)) (a' := ?_) (by rfl) ?_ ?_ ?_; rotate_left 1; (focus (exact Kr.valOf rfl (ixN hjl))); (focus ((try simp only [Kr.PT]); first | done | rfl)))
    (refine Kr.seqQ (v := .int .i64 x) (a' := ?_) (by rfl) ?_ ?_ ?_; rotate_left 1; (focus (exact Kr.valOf rfl (ldI1 (H.g.cell HCELL.out)))); (focus ((try simp only [Kr.PT]); first | done | rfl)))
    (refine Kr.seqQ (v := ?_) (a' := ?_) (by rfl) ?_ ?_ ?_; rotate_left 2; (focus (go_simp; first | done | rfl)); (focus ((try simp only [Kr.PT]); first | done | rfl)))
    refine Kr.seqDoneW ?_
    go_upto_region 5 with fail
    refine Kr.seqStartW ?_
    (refine Kr.seqQ (v := .pointer (some ⟨bo, 3, none⟩)) (a' := ?_) (by rfl) ?_ ?_ ?_; rotate_left 1; (focus (go_simp; first | done | rfl)); (focus ((try simp only [Kr.PT]); first | done | rfl)))
    (refine Kr.seqQ (v := .slice pl j cl) (a' := ?_) (by rfl) ?_ ?_ ?_; rotate_left 1; (focus (exact Kr.valOf rfl (ldLs (rowCell (j := 3) (H.at 0 rfl) rfl)))); (focus ((try simp only [Kr.PT]); first | done | rfl)))
    (refine Kr.seqQ (v := ?_) (a' := ?_) (by rfl) ?_ ?_ ?_; rotate_left 2; (focus (go_simp; first | done | rfl)); (focus ((try simp only [Kr.PT]); first | done | rfl)))
    (refine Kr.seqQ (v := .agg #[.int .i64 1, .int .i64 x, .slice none 0 0, .slice none 0 0]) (a' := ?_) (by rfl) ?_ ?_ ?_; rotate_left 1; (focus (go_simp; first | done | rfl)); (focus ((try simp only [Kr.PT]); first | done | rfl)))
    refine Kr.seqR (by rfl) (fun K hK => ?_)
    go_simp
    obtain ⟨y5, hy⟩ : ∃ y, wr.alloc (.cells #[.int .i64 1, .int .i64 x, .slice none 0 0, .slice none 0 0] 49) = y := ⟨_, rfl⟩
    obtain ⟨bone, hbn⟩ : ∃ b, wr.heap.size = b := ⟨_, rfl⟩
    rw [hy, hbn]
    have hy2 : wr.alloc (.cells ([.int .i64 1, .int .i64 x, .slice none 0 0, .slice none 0 0] : List Value).toArray 49) = y5 := hy
    have hg : Gr wr y5 := hy ▸ (Gr.refl _).alloc _
    have HLIT := Lib.hid (hbn ▸ hy2 ▸ lit_src (W := wr) (T := 49) [.int .i64 1, .int .i64 x, .slice none 0 0, .slice none 0 0]); have HG45 := Lib.hid hg; clear hy2
    replace H := H.grow hg
    clear hg hy hbn
    (refine Kr.outS hK (a' := ?_) ?_ ?_; rotate_left; (focus ((try simp only [Kr.PT]); first | done | rfl))); clear hK K
    refine Kr.seqR (by rfl) (fun K hK => ?_)
    obtain ⟨xs, hsz, hrow, hk, hkd⟩ := HIL.out
    have hvb : ∀ z, (Value.slice pl j cl).ownBlock = some z → w1.heap.size ≤ z ∧ z < wr.heap.size := fun z hz => World.ownsRow.lt hrow z hz
    have hs45 := HG45.out.size; have hw1 := HW1.out; have hbo1 := HBO1.out; have hbz1 := HBZ1.out; have hxl : xs.length = j * 4 := hrow.1
    have hrow5 : y5.ownsRow w1.heap.size 49 4 (.slice pl j cl) j xs := rowI_grow hrow (fun z hz => HG45.out.block z (hvb z hz).2)
    refine wp_appJ (B := w1.heap.size) (.tmp 14) (.tmp 17) rfl (v := .slice pl j cl) (k := j) (bone := bone) (xs := xs) (v0 := .int .i64 1) (v1 := .int .i64 x) (v2 := .slice none 0 0) (v3 := .slice none 0 0) rfl rfl HLIT.out (one_int x) (by omega) hrow5 (by omega) ?_
    intro u y6 hrow6 hg56 hub; have hs56 := hg56.size
    have H6 := H.grown hg56 (fun z hz => by
      have h1 := hvb z hz
      refine ⟨by omega, fun x hx => ?_⟩
      rcases List.mem_cons.1 hx with rfl | hx
      · show bo ≠ z; omega
      rcases List.mem_cons.1 hx with rfl | hx
      · show bz ≠ z; omega
      · cases hx)
    have hil : IL w1.heap.size y6 u (j + 1) (l.take (j + 1)) := ⟨_, by omega, hrow6, by rw [List.length_take]; omega, fun W => by
      rw [List.take_add_one, HX.out, List.map_append]
      exact (hkd W).snoc (by rw [List.length_map]; exact hk) hxl (itv_int HXI.out)⟩
    obtain ⟨p9, c9, hv9, _⟩ := sliceI hrow6; subst hv9; clear H; have H := H6; have HIL6 := Lib.hid hil; clear H6 hil hrow6 hub hg56 hrow5 hvb hs45 hw1 hbo1 hbz1 hxl hs56 hrow hsz hk hkd HLIT HIL HG45
    (refine Kr.outS hK (a' := ?_) ?_ ?_; rotate_left; (focus ((try simp only [Kr.PT]); first | done | rfl))); clear hK K
    (refine Kr.seqQ (v := .pointer (some ⟨bo, 3, none⟩)) (a' := ?_) (by rfl) ?_ ?_ ?_; rotate_left 1; (focus (go_simp; first | done | rfl)); (focus ((try simp only [Kr.PT]); first | done | rfl)))
    refine Kr.seqR (by rfl) (fun K hK => ?_)
    refine wp_run rfl (stLs (H.cell 0 rfl (show _ = some _ from rfl)) (H.frozen 0 rfl 3)) ?_
    have hil : IL w1.heap.size (y6.setCell ⟨bo, 3, none⟩ (.slice p9 (j + 1) c9)) (.slice p9 (j + 1) c9) (j + 1) (l.take (j + 1)) := by
      obtain ⟨xs, hsz, hrow, hk, hkd⟩ := HIL6.out
      refine ⟨xs, Nat.le_trans hsz (Nat.le_of_eq (setCell_size _ _ _).symm), rowI_grow hrow (fun z hz => ?_), hk, hkd⟩
      have hz1 := (World.ownsRow.lt hrow z hz).1; have hz2 := HBO1.out
      have hne : bo ≠ z := by omega
      simp only [World.setCell, Array.getElem?_modify, if_neg hne]
    obtain ⟨y7, hy⟩ : ∃ y, y6.setCell ⟨bo, 3, none⟩ (.slice p9 (j + 1) c9) = y := ⟨_, rfl⟩; rw [hy]; rw [hy] at hil; have HIL7 := Lib.hid hil; clear hil HIL6
    replace H := H.set 0 (3) hy rfl; dsimp only [List.set] at H; clear hy
    (refine Kr.outS hK (a' := ?_) ?_ ?_; rotate_left; (focus ((try simp only [Kr.PT]); first | done | rfl))); clear hK K
    refine Kr.seqDoneW ?_
    have HADD : IntKind.i64.wrap ((j : Int) + 1) = ((j + 1 : Nat) : Int) := wrap_nat (by omega) (by omega)
    go_upto_region 6 with fail
    refine Kr.seqStartW ?_
    (refine Kr.seqQ (v := .int .i64 ((j + 1 : Nat) : Int)) (a' := ?_) (by rfl) ?_ ?_ ?_; rotate_left 1; (focus (exact Kr.valOf rfl (addI HADD))); (focus ((try simp only [Kr.PT]); first | done | rfl)))
    (refine Kr.seqQ (v := ?_) (a' := ?_) (by rfl) ?_ ?_ ?_; rotate_left 2; (focus (go_simp; first | done | rfl)); (focus ((try simp only [Kr.PT]); first | done | rfl)))
    refine Kr.seqDoneW ?_
    go_wp2; go_roundw
    case rel =>
      first
      | exact ⟨j + 1, p9, c9, by omega, rfl, HIL7, Lib.hid H⟩
      | (repeat apply Exists.intro); exact ⟨⟨j + 1, p9, c9, by omega, rfl, HIL7, Lib.hid H⟩, rfl⟩
      | (repeat apply Exists.intro); refine ⟨⟨j + 1, p9, c9, by omega, rfl, HIL7, Lib.hid H⟩, ?_⟩; refine ⟨?_, ?_⟩ <;> (repeat apply And.intro) <;> rfl
    case measure => simp [intOf]; omega
end Go.Proofs.YtldgjhmefaapeaaDoor.Dg
