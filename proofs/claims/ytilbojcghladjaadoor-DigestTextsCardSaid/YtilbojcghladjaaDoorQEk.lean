/- Tagged. -/
import Derived.Test.YtilbojcghladjaaDoorQEj
import Derived.Deep.Cut
import Derived.Laws.Rows
import Derived.Laws.ResultCell
import Derived.Laws.IdiomStrings
namespace Go.Proofs.YtilbojcghladjaaDoor.Dg
open Go Go.RowKit Go.Proofs.YtilbojcghladjaaDoor.Ne Go.Proofs.YtilbojcghladjaaDoor.Kr

/-- The bytes of a string. -/
def s8 (s : ByteArray) : List (BitVec 8) := s.data.toList.map UInt8.toBitVec
theorem s8_length (s : ByteArray) : (s8 s).length = s.size := by simp [s8]
theorem conv_str (W : World) (s : ByteArray) : ∃ cap y b, W.heap.size = b ∧ (convert 9 22 (.string s)).run Tryd.prog W = .ok (.slice (some ⟨b, 0, none⟩) s.size cap) y ∧ s.size ≤ cap ∧ BytesAt b 0 (s8 s) y ∧ Gr W y := by
  have hr := run_bytes_of_string (P := Tryd.prog) W 9 22 5 s Tryd.underlying9 Tryd.underlying22 Tryd.underlying5
  refine ⟨_, _, _, rfl, hr, grownCap_ge _ _ _ _, fun j x hx => ?_, ((Gr.refl _).drew).alloc _⟩
  rw [Nat.zero_add]
  have := World.cell?_alloc_mark W.drew (bytesRow s (grownCap W s.size 0 5)) 5 ((bytesRow s (grownCap W s.size 0 5)).size, (bytesRow s (grownCap W s.size 0 5)).size + 1) j
  rw [show W.drew.heap.size = W.heap.size from rfl] at this
  rw [this]
  unfold s8 at hx
  rw [List.getElem?_map, Option.map_eq_some_iff] at hx
  obtain ⟨b, hb, rfl⟩ := hx
  have hj : j < s.size := by simpa using (List.getElem?_eq_some_iff.1 hb).1
  have hb2 : s.data[j]? = some b := by simpa using hb
  simp [bytesRow, Array.getElem?_append, hb2, w8]
  intro h
  omega
theorem run_eqlS {P : Program} {w : World} (t : TypeId) (a b : ByteArray) : (binOp .eql t (.string a) (.string b)).run P w = .ok (.bool (decide (a = b))) w := by
  rw [binOp_string_eql, Sem.run_pure]
  congr 2
  rw [ByteArray.toList_eq, ByteArray.toList_eq, Bool.eq_iff_iff]
  simp only [beq_iff_eq, decide_eq_true_eq]
  constructor
  · intro h
    cases a; cases b
    simpa using h
  · rintro rfl; rfl
theorem strEmpty {w : World} {s : ByteArray} {b : Bool} (h : decide (s.size = 0) = b) : (binOp .eql 9 (.string s) (.string ⟨#[]⟩)).run Tryd.prog w = .ok (.bool b) w := by
  have e : decide (s = (⟨#[]⟩ : ByteArray)) = b := by
    rw [← h]
    refine decide_eq_decide.2 ⟨fun h0 => by rw [h0]; rfl, fun h0 => ?_⟩
    rcases s with ⟨a⟩
    have h1 : a = #[] := Array.eq_empty_of_size_eq_zero h0
    rw [h1]
  rw [← e]
  exact run_eqlS _ _ _
/-- The tagged digest. -/
def tg (s : ByteArray) (l : List (BitVec 8)) : List (BitVec 8) := sha (sha (s8 s) ++ (sha (s8 s) ++ l))
theorem tg_length (s : ByteArray) (l : List (BitVec 8)) : (tg s l).length = 32 := sha_length _
def zH : List (BitVec 8) := List.replicate 32 0
theorem zH_length : zH.length = 32 := rfl
theorem zH_map : zH.map w8 = List.replicate 32 (.int .u8 0) := rfl
theorem buildH {w : World} : (Instr.build 25 #[]).run Tryd.prog w = .ok (.agg (zH.map w8).toArray) w := by
  go_simp
  rfl
theorem newHz {w : World} : (Instr.alloc 25 true (.tuple #[])).run Tryd.prog w = .ok (.pointer (some ⟨w.heap.size, 0, none⟩)) (w.alloc (.cells (zH.map w8).toArray 25)) := newH
theorem results_row_tmp {P : Program} {fn : Func} {p u : Tmp} {ty : TypeId} (h : fn.results = #[.cell p ty, .tmp u]) (tmps : Array Value) (w : World) (g : Nat) (t : TypeId) (cs : Array Value) (fr : Nat × Nat) (d : TypeDesc) {v : Value}
    (hp : tmps.getD p undef = .pointer (some ⟨g, 0, none⟩)) (hg : w.heap[g]? = some (.cells cs t fr))
    (hu : P.underlying ty = some d) (hd : (match d with | .struct _ | .array _ _ => true | _ => false) = true) (hi : (P.info? ty).map (·.size) = some cs.size) (hv : tmps.getD u undef = v) :
    (results fn tmps).run P w = .ok (.tuple #[.agg cs, v]) w := by
  have hp' : tmps[p]?.getD undef = .pointer (some ⟨g, 0, none⟩) := by simpa using hp
  have hv' : tmps[u]?.getD undef = v := by simpa using hv
  rw [results_cell_tmp h]
  simp [hp', hv', asAddr, run_loadVar_row w g t ty cs fr d hg hu hd hi, Result.andThen]
theorem slH2 {w : World} {b : Nat} : (Instr.sliceAt 25 (.pointer (some ⟨b, 0, none⟩)) none none none).run Tryd.prog w = .ok (.slice (some ⟨b, 0, none⟩) 32 32) w := slH

set_option linter.unusedSimpArgs false in
set_option maxRecDepth 100000 in
set_option maxHeartbeats 16000000 in
theorem Tagged_empty {t : ByteArray} {v0 : Value} {w : World} (ht : t.size = 0) :
    Calls Tryd.prog 14 #[.string t, v0] w fun e w' => e = .returned (.tuple #[.agg (zH.map w8).toArray, .int .i64 2]) ∧ Gr w w' := by
  have h0 : (zH.map w8).length = 32 := rfl
  have H := Ow.start w
  go_enter Tryd.func14, Tryd.ntmps14
  go_upto_region 0 with fail
  refine Kr.seqStartW ?_
  refine Kr.seqR (by rfl) (fun K hK => ?_)
  refine wp_runV rfl newHz ?_
  obtain ⟨y1, hy⟩ : ∃ y, w.alloc (.cells (zH.map w8).toArray 25) = y := ⟨_, rfl⟩
  obtain ⟨br, hb⟩ : ∃ b, w.heap.size = b := ⟨_, rfl⟩
  rw [hy, hb]
  have hg : Gr w y1 := hy ▸ (Gr.refl _).alloc _
  replace H := H.alloc hy hb
  clear hy hb hg
  (refine Kr.outS hK (a' := ?_) ?_ ?_; rotate_left; (focus ((try simp only [Kr.PT]); first | done | rfl))); clear hK K
  (refine Kr.seqQ (v := ?_) (a' := ?_) (by rfl) ?_ ?_ ?_; rotate_left 2; (focus (go_simp; first | done | rfl)); (focus ((try simp only [Kr.PT]); first | done | rfl)))
  refine Kr.seqDoneW ?_
  have HC : decide (t.size = 0) = true := decide_eq_true ht
  go_upto_region 1 with fail
  refine Kr.seqStartW ?_
  (refine Kr.seqQ (v := ?_) (a' := ?_) (by rfl) ?_ ?_ ?_; rotate_left 2; (focus (go_simp; first | done | rfl)); (focus ((try simp only [Kr.PT]); first | done | rfl)))
  (refine Kr.seqQ (v := .bool true) (a' := ?_) (by rfl) ?_ ?_ ?_; rotate_left 1; (focus (exact Kr.valOf rfl (strEmpty HC))); (focus ((try simp only [Kr.PT]); first | done | rfl)))
  (refine Kr.seqQ (v := ?_) (a' := ?_) (by rfl) ?_ ?_ ?_; rotate_left 2; (focus (go_simp; first | done | rfl)); (focus ((try simp only [Kr.PT]); first | done | rfl)))
  (refine Kr.seqSkipQ (a' := ?_) (by rfl) ?_ ?_; rotate_left; (focus ((try simp only [Kr.PT]); first | done | rfl)))
  (refine Kr.seqSkipQ (a' := ?_) (by rfl) ?_ ?_; rotate_left; (focus ((try simp only [Kr.PT]); first | done | rfl)))
  (refine Kr.seqSkipQ (a' := ?_) (by rfl) ?_ ?_; rotate_left; (focus ((try simp only [Kr.PT]); first | done | rfl)))
  (refine Kr.seqQ (v := ?_) (a' := ?_) (by rfl) ?_ ?_ ?_; rotate_left 2; (focus (go_simp; first | done | rfl)); (focus ((try simp only [Kr.PT]); first | done | rfl)))
  refine Kr.seqDoneW ?_
  go_upto_region 2 with fail
  refine Kr.seqStartW ?_
  (refine Kr.seqQ (v := .agg (zH.map w8).toArray) (a' := ?_) (by rfl) ?_ ?_ ?_; rotate_left 1; (focus (go_simp; first | done | rfl)); (focus ((try simp only [Kr.PT]); first | done | rfl)))
  refine Kr.seqR (by rfl) (fun K hK => ?_)
  refine wp_run rfl (stH (H.at 0 rfl) h0 h0 (oneCell_bytes _)) ?_
  obtain ⟨y2, hy⟩ : ∃ y, y1.setRow br (zH.map w8).toArray = y := ⟨_, rfl⟩
  rw [hy]
  replace H := H.put 0 hy rfl
  dsimp only [List.set] at H
  clear hy
  (refine Kr.outS hK (a' := ?_) ?_ ?_; rotate_left; (focus ((try simp only [Kr.PT]); first | done | rfl))); clear hK K
  (refine Kr.seqQ (v := ?_) (a' := ?_) (by rfl) ?_ ?_ ?_; rotate_left 2; (focus (go_simp; first | done | rfl)); (focus ((try simp only [Kr.PT]); first | done | rfl)))
  refine Kr.seqDoneW ?_
  go_wp2
  refine bodyPost_ret (v := .tuple #[.agg (zH.map w8).toArray, .int .i64 2]) (results_row_tmp rfl _ _ br 25 _ _ _ (by rfl) (H.at 0 rfl) Tryd.underlying25 rfl (by rw [List.size_toArray, h0]; exact infoH) (by rfl)) rfl ⟨rfl, H.g⟩
set_option linter.unusedSimpArgs false in
set_option maxRecDepth 100000 in
set_option maxHeartbeats 16000000 in
theorem Tagged_long {t : ByteArray} {v0 : Value} {w : World} (ht : 100 < t.size) :
    Calls Tryd.prog 14 #[.string t, v0] w fun e w' => e = .returned (.tuple #[.agg (zH.map w8).toArray, .int .i64 2]) ∧ Gr w w' := by
  have h0 : (zH.map w8).length = 32 := rfl
  have H := Ow.start w
  go_enter Tryd.func14, Tryd.ntmps14
  go_upto_region 0 with fail
  refine Kr.seqStartW ?_
  refine Kr.seqR (by rfl) (fun K hK => ?_)
  refine wp_runV rfl newHz ?_
  obtain ⟨y1, hy⟩ : ∃ y, w.alloc (.cells (zH.map w8).toArray 25) = y := ⟨_, rfl⟩
  obtain ⟨br, hb⟩ : ∃ b, w.heap.size = b := ⟨_, rfl⟩
  rw [hy, hb]
  have hg : Gr w y1 := hy ▸ (Gr.refl _).alloc _
  replace H := H.alloc hy hb
  clear hy hb hg
  (refine Kr.outS hK (a' := ?_) ?_ ?_; rotate_left; (focus ((try simp only [Kr.PT]); first | done | rfl))); clear hK K
  (refine Kr.seqQ (v := ?_) (a' := ?_) (by rfl) ?_ ?_ ?_; rotate_left 2; (focus (go_simp; first | done | rfl)); (focus ((try simp only [Kr.PT]); first | done | rfl)))
  refine Kr.seqDoneW ?_
  have HC : decide (t.size = 0) = false := decide_eq_false (by omega)
  have HC2 : decide ((100 : Int) < (t.size : Int)) = true := decide_eq_true (by omega)
  go_upto_region 1 with fail
  refine Kr.seqStartW ?_
  (refine Kr.seqQ (v := ?_) (a' := ?_) (by rfl) ?_ ?_ ?_; rotate_left 2; (focus (go_simp; first | done | rfl)); (focus ((try simp only [Kr.PT]); first | done | rfl)))
  (refine Kr.seqQ (v := .bool false) (a' := ?_) (by rfl) ?_ ?_ ?_; rotate_left 1; (focus (exact Kr.valOf rfl (strEmpty HC))); (focus ((try simp only [Kr.PT]); first | done | rfl)))
  (refine Kr.seqQ (v := ?_) (a' := ?_) (by rfl) ?_ ?_ ?_; rotate_left 2; (focus (go_simp; first | done | rfl)); (focus ((try simp only [Kr.PT]); first | done | rfl)))
  (refine Kr.seqQ (v := ?_) (a' := ?_) (by rfl) ?_ ?_ ?_; rotate_left 2; (focus (go_simp; first | done | rfl)); (focus ((try simp only [Kr.PT]); first | done | rfl)))
  (refine Kr.seqQ (v := .int .i64 (t.size : Int)) (a' := ?_) (by rfl) ?_ ?_ ?_; rotate_left 1; (focus (exact Kr.valOf rfl ((by go_simp)))); (focus ((try simp only [Kr.PT]); first | done | rfl)))
  (refine Kr.seqQ (v := .bool true) (a' := ?_) (by rfl) ?_ ?_ ?_; rotate_left 1; (focus (exact Kr.valOf rfl (gtrI HC2))); (focus ((try simp only [Kr.PT]); first | done | rfl)))
  (refine Kr.seqQ (v := ?_) (a' := ?_) (by rfl) ?_ ?_ ?_; rotate_left 2; (focus (go_simp; first | done | rfl)); (focus ((try simp only [Kr.PT]); first | done | rfl)))
  refine Kr.seqDoneW ?_
  go_upto_region 2 with fail
  refine Kr.seqStartW ?_
  (refine Kr.seqQ (v := .agg (zH.map w8).toArray) (a' := ?_) (by rfl) ?_ ?_ ?_; rotate_left 1; (focus (go_simp; first | done | rfl)); (focus ((try simp only [Kr.PT]); first | done | rfl)))
  refine Kr.seqR (by rfl) (fun K hK => ?_)
  refine wp_run rfl (stH (H.at 0 rfl) h0 h0 (oneCell_bytes _)) ?_
  obtain ⟨y2, hy⟩ : ∃ y, y1.setRow br (zH.map w8).toArray = y := ⟨_, rfl⟩
  rw [hy]
  replace H := H.put 0 hy rfl
  dsimp only [List.set] at H
  clear hy
  (refine Kr.outS hK (a' := ?_) ?_ ?_; rotate_left; (focus ((try simp only [Kr.PT]); first | done | rfl))); clear hK K
  (refine Kr.seqQ (v := ?_) (a' := ?_) (by rfl) ?_ ?_ ?_; rotate_left 2; (focus (go_simp; first | done | rfl)); (focus ((try simp only [Kr.PT]); first | done | rfl)))
  refine Kr.seqDoneW ?_
  go_wp2
  refine bodyPost_ret (v := .tuple #[.agg (zH.map w8).toArray, .int .i64 2]) (results_row_tmp rfl _ _ br 25 _ _ _ (by rfl) (H.at 0 rfl) Tryd.underlying25 rfl (by rw [List.size_toArray, h0]; exact infoH) (by rfl)) rfl ⟨rfl, H.g⟩
set_option linter.unusedSimpArgs false in
set_option maxRecDepth 100000 in
set_option maxHeartbeats 16000000 in
theorem Tagged_ok {t : ByteArray} {p : Option Addr} {n c : Nat} {l : List (BitVec 8)} {w : World} (ht : 1 ≤ t.size) (ht2 : t.size ≤ 100) (hS : SrcB p l w) (hl : l.length = n) (hp : p = none → c = 0) (hn : n ≤ 100000) (hC : Con w) (hT : Sta0 w) :
    Calls Tryd.prog 14 #[.string t, .slice p n c] w fun e w' => e = .returned (.tuple #[.agg ((tg t l).map w8).toArray, .int .i64 0]) ∧ Gr w w' := by
  have h0 : (zH.map w8).length = 32 := rfl
  have HS := Lib.hid hS; have HCN := Lib.hid hC; have HT0 := Lib.hid hT; clear hS hC hT
  obtain ⟨A, hA⟩ : ∃ z, sha (s8 t) = z := ⟨_, rfl⟩; obtain ⟨R, hR⟩ : ∃ z, tg t l = z := ⟨_, rfl⟩
  have hAl : A.length = 32 := by rw [← hA]; exact sha_length _
  have hRl : R.length = 32 := by rw [← hR]; exact sha_length _
  have hR2 : sha (A ++ (A ++ l)) = R := by rw [← hR, ← hA]; rfl
  rw [hR]; have HRR := Lib.hid hR2; have HAA := Lib.hid hA; clear hR hR2 hA
  have hA32 : (A.map w8).length = 32 := by rw [List.length_map]; exact hAl
  have hR32 : (R.map w8).length = 32 := by rw [List.length_map]; exact hRl
  have H := Ow.start w
  go_enter Tryd.func14, Tryd.ntmps14
  go_upto_region 0 with fail
  refine Kr.seqStartW ?_
  refine Kr.seqR (by rfl) (fun K hK => ?_)
  refine wp_runV rfl newHz ?_
  obtain ⟨y1, hy⟩ : ∃ y, w.alloc (.cells (zH.map w8).toArray 25) = y := ⟨_, rfl⟩
  obtain ⟨br, hb⟩ : ∃ b, w.heap.size = b := ⟨_, rfl⟩
  rw [hy, hb]
  have hg : Gr w y1 := hy ▸ (Gr.refl _).alloc _
  replace H := H.alloc hy hb
  clear hy hb hg
  (refine Kr.outS hK (a' := ?_) ?_ ?_; rotate_left; (focus ((try simp only [Kr.PT]); first | done | rfl))); clear hK K
  (refine Kr.seqQ (v := ?_) (a' := ?_) (by rfl) ?_ ?_ ?_; rotate_left 2; (focus (go_simp; first | done | rfl)); (focus ((try simp only [Kr.PT]); first | done | rfl)))
  refine Kr.seqDoneW ?_
  have HC : decide (t.size = 0) = false := decide_eq_false (by omega)
  have HC2 : decide ((100 : Int) < (t.size : Int)) = false := decide_eq_false (by omega)
  go_upto_region 1 with fail
  refine Kr.seqStartW ?_
  (refine Kr.seqQ (v := ?_) (a' := ?_) (by rfl) ?_ ?_ ?_; rotate_left 2; (focus (go_simp; first | done | rfl)); (focus ((try simp only [Kr.PT]); first | done | rfl)))
  (refine Kr.seqQ (v := .bool false) (a' := ?_) (by rfl) ?_ ?_ ?_; rotate_left 1; (focus (exact Kr.valOf rfl (strEmpty HC))); (focus ((try simp only [Kr.PT]); first | done | rfl)))
  (refine Kr.seqQ (v := ?_) (a' := ?_) (by rfl) ?_ ?_ ?_; rotate_left 2; (focus (go_simp; first | done | rfl)); (focus ((try simp only [Kr.PT]); first | done | rfl)))
  (refine Kr.seqQ (v := ?_) (a' := ?_) (by rfl) ?_ ?_ ?_; rotate_left 2; (focus (go_simp; first | done | rfl)); (focus ((try simp only [Kr.PT]); first | done | rfl)))
  (refine Kr.seqQ (v := .int .i64 (t.size : Int)) (a' := ?_) (by rfl) ?_ ?_ ?_; rotate_left 1; (focus (exact Kr.valOf rfl ((by go_simp)))); (focus ((try simp only [Kr.PT]); first | done | rfl)))
  (refine Kr.seqQ (v := .bool false) (a' := ?_) (by rfl) ?_ ?_ ?_; rotate_left 1; (focus (exact Kr.valOf rfl (gtrI HC2))); (focus ((try simp only [Kr.PT]); first | done | rfl)))
  (refine Kr.seqQ (v := ?_) (a' := ?_) (by rfl) ?_ ?_ ?_; rotate_left 2; (focus (go_simp; first | done | rfl)); (focus ((try simp only [Kr.PT]); first | done | rfl)))
  refine Kr.seqDoneW ?_
  go_upto_region 3 with fail
  refine Kr.seqStartW ?_
  (refine Kr.seqQ (v := ?_) (a' := ?_) (by rfl) ?_ ?_ ?_; rotate_left 2; (focus (go_simp; first | done | rfl)); (focus ((try simp only [Kr.PT]); first | done | rfl)))
  refine Kr.seqR (by rfl) (fun K hK => ?_)
  obtain ⟨cap, y2, bs, hbk, hrun, hcp, hba, hgr⟩ := conv_str y1 t
  refine wp_runV rfl hrun ?_
  have HB := Lib.hid hba; have HBc := Lib.hid hcp; clear hrun hbk hba hcp
  replace H := H.grow hgr
  clear hgr
  (refine Kr.outS hK (a' := ?_) ?_ ?_; rotate_left; (focus ((try simp only [Kr.PT]); first | done | rfl))); clear hK K
  refine Kr.seqR (by rfl) (fun K hK => ?_)
  go_simp
  go_at_call 12
  have hP := Sum_v (.inr ⟨bs, 0, rfl, HB.out⟩) (s8_length t) (HBc.out) (by omega) (HCN.out.grow H.g) (HT0.out.grow H.g); rw [HAA.out] at hP
  refine (hP).mono ?_
  rintro e y3 ⟨rfl, hg⟩
  replace H := H.grow hg
  clear hg
  clear hP
  (refine Kr.outS hK (a' := ?_) ?_ ?_; rotate_left; (focus ((try simp only [Kr.PT]); first | done | rfl))); clear hK K
  refine Kr.seqR (by rfl) (fun K hK => ?_)
  refine wp_runV rfl newHz ?_
  obtain ⟨y4, hy⟩ : ∃ y, y3.alloc (.cells (zH.map w8).toArray 25) = y := ⟨_, rfl⟩
  obtain ⟨bh, hb⟩ : ∃ b, y3.heap.size = b := ⟨_, rfl⟩
  rw [hy, hb]
  have hg : Gr y3 y4 := hy ▸ (Gr.refl _).alloc _
  replace H := H.alloc hy hb
  clear hy hb hg
  (refine Kr.outS hK (a' := ?_) ?_ ?_; rotate_left; (focus ((try simp only [Kr.PT]); first | done | rfl))); clear hK K
  refine Kr.seqR (by rfl) (fun K hK => ?_)
  refine wp_run rfl (stH (H.at 0 rfl) h0 hA32 (oneCell_bytes _)) ?_
  obtain ⟨y5, hy⟩ : ∃ y, y4.setRow bh (A.map w8).toArray = y := ⟨_, rfl⟩
  rw [hy]
  replace H := H.put 0 hy rfl
  dsimp only [List.set] at H
  clear hy
  (refine Kr.outS hK (a' := ?_) ?_ ?_; rotate_left; (focus ((try simp only [Kr.PT]); first | done | rfl))); clear hK K
  refine Kr.seqDoneW ?_
  go_upto_region 4 with fail
  refine Kr.startL (fun W' => True) [6] (by kernel_rfl) ?_
  have gd : Gr y5 y5.drew := (Gr.refl _).drew
  generalize y5.drew = d6 at gd ⊢
  replace H := H.grow gd
  clear gd
  (refine Kr.tPQ 0 (v := .slice (some ⟨bh, 0, none⟩) 32 32) (a' := ?_) rfl (by kernel_rfl) (fun _ _ _ h => h) (by rfl) (fun _ => trivial) (fun wx => ?_) ?_ ?_; rotate_left 1; (focus (exact Kr.valOf rfl (slH))); (focus ((try simp only [Kr.PT]); first | done | rfl)))
  (refine Kr.tPQ 1 (v := .slice (some ⟨bh, 0, none⟩) 32 32) (a' := ?_) rfl (by kernel_rfl) (fun _ _ _ h => h) (by rfl) (fun _ => trivial) (fun wx => ?_) ?_ ?_; rotate_left 1; (focus (exact Kr.valOf rfl (slH))); (focus ((try simp only [Kr.PT]); first | done | rfl)))
  (refine Kr.tPQ 2 (v := ?_) (a' := ?_) rfl (by kernel_rfl) (fun _ _ _ h => h) (by rfl) (fun _ => trivial) (fun wx => ?_) ?_ ?_; rotate_left 2; (focus (go_simp; first | done | rfl)); (focus ((try simp only [Kr.PT]); first | done | rfl)))
  refine Kr.readyL (rs := [3]) (by kernel_rfl) (by simp) ?_
  refine Kr.AllL.cons rfl (fun K hK => ?_) Kr.AllL.nil
  go_simp
  obtain ⟨y7, hy⟩ : ∃ y, d6.alloc (.cells #[.slice (some ⟨bh, 0, none⟩) 32 32, .slice (some ⟨bh, 0, none⟩) 32 32, .slice p n c] 22) = y := ⟨_, rfl⟩
  obtain ⟨bone, hbn⟩ : ∃ b, d6.heap.size = b := ⟨_, rfl⟩
  rw [hy, hbn]
  have hy2 : d6.alloc (.cells ([.slice (some ⟨bh, 0, none⟩) 32 32, .slice (some ⟨bh, 0, none⟩) 32 32, .slice p n c] : List Value).toArray 22) = y7 := hy
  have hg : Gr d6 y7 := hy ▸ (Gr.refl _).alloc _
  have HLIT := Lib.hid (hbn ▸ hy2 ▸ lit_src (W := d6) (T := 22) [.slice (some ⟨bh, 0, none⟩) 32 32, .slice (some ⟨bh, 0, none⟩) 32 32, .slice p n c]); clear hy2
  replace H := H.grow hg
  clear hg hy hbn
  (refine Kr.outL hK (a' := ?_) ?_ (fun _ => trivial) ?_; rotate_left; (focus ((try simp only [Kr.PT]); first | done | rfl))); clear hK K
  refine Kr.readyL (rs := [4]) (by kernel_rfl) (by simp) ?_
  refine Kr.AllL.cons rfl (fun K hK => ?_) Kr.AllL.nil
  go_simp
  go_at_call 17
  have hbh := bytesAt_row (H.at 0 rfl)
  have hps : ∀ x ∈ [((.slice (some ⟨bh, 0, none⟩) 32 32 : Value), A), (.slice (some ⟨bh, 0, none⟩) 32 32, A), (.slice p n c, l)], Part y7 x := by
    intro x hx
    simp only [List.mem_cons, List.not_mem_nil, or_false] at hx
    rcases hx with rfl | rfl | rfl
    · exact ⟨_, _, _, rfl, hAl, (fun e => by cases e), .inr ⟨bh, 0, rfl, hbh⟩⟩
    · exact ⟨_, _, _, rfl, hAl, (fun e => by cases e), .inr ⟨bh, 0, rfl, hbh⟩⟩
    · exact ⟨_, _, _, rfl, hl, hp, HS.out.grow H.g⟩
  have hfl : (flat [((.slice (some ⟨bh, 0, none⟩) 32 32 : Value), A), (.slice (some ⟨bh, 0, none⟩) 32 32, A), (.slice p n c, l)]) = A ++ (A ++ l) := by simp [flat]
  have hfn : (A ++ (A ++ l)).length = 64 + n := by simp [hAl, hl]; omega
  have hP := Concat_v (c := 3) HLIT.out hps (by show 3 ≤ 1000000; decide) (by rw [hfl, hfn]; omega); rw [hfl, hfn] at hP
  refine hP.mono ?_; clear hP hps hfl hbh HLIT
  rintro e y8 ⟨p5, c5, rfl, hc5, hp5, hs5, hg⟩
  have HS5 := Lib.hid hs5; have HC5 := Lib.hid hc5; clear hs5 hc5 hp5
  replace H := H.grow hg
  clear hg
  (refine Kr.outL hK (a' := ?_) ?_ (fun _ => trivial) ?_; rotate_left; (focus ((try simp only [Kr.PT]); first | done | rfl))); clear hK K
  refine Kr.readyL (rs := [5]) (by kernel_rfl) (by simp) ?_
  refine Kr.AllL.cons rfl (fun K hK => ?_) Kr.AllL.nil
  go_simp
  go_at_call 12
  have hP := Sum_v (HS5.out) (hfn) (HC5.out) (by omega) (HCN.out.grow H.g) (HT0.out.grow H.g); rw [HRR.out] at hP
  refine (hP).mono ?_
  rintro e y9 ⟨rfl, hg⟩
  replace H := H.grow hg
  clear hg
  clear hP
  (refine Kr.outL hK (a' := ?_) ?_ (fun _ => trivial) ?_; rotate_left; (focus ((try simp only [Kr.PT]); first | done | rfl))); clear hK K
  refine Kr.readyL (rs := [6]) (by kernel_rfl) (by simp) ?_
  refine Kr.AllL.cons rfl (fun K hK => ?_) Kr.AllL.nil
  rw [if_pos (by rfl)]
  refine wp_run rfl (stH (H.at 1 rfl) h0 hR32 (oneCell_bytes _)) ?_
  obtain ⟨y10, hy⟩ : ∃ y, y9.setRow br (R.map w8).toArray = y := ⟨_, rfl⟩
  rw [hy]
  replace H := H.put 1 hy rfl
  dsimp only [List.set] at H
  clear hy
  (refine Kr.outL hK (a' := ?_) ?_ (Kr.noStill (by kernel_rfl)) ?_; rotate_left; (focus ((try simp only [Kr.PT]); first | done | rfl))); clear hK K
  (refine Kr.tPQ 7 (v := ?_) (a' := ?_) rfl (by kernel_rfl) (fun _ _ _ h => h) (by rfl) (Kr.noStill (by kernel_rfl)) (fun wx => ?_) ?_ ?_; rotate_left 2; (focus (go_simp; first | done | rfl)); (focus ((try simp only [Kr.PT]); first | done | rfl)))
  refine Kr.doneL (by kernel_rfl) ?_ _
  go_wp2
  refine bodyPost_ret (v := .tuple #[.agg (R.map w8).toArray, .int .i64 0]) (results_row_tmp rfl _ _ br 25 _ _ _ (by rfl) (H.at 1 rfl) Tryd.underlying25 rfl (by rw [List.size_toArray, hR32]; exact infoH) (by rfl)) rfl ⟨rfl, H.g⟩
end Go.Proofs.YtilbojcghladjaaDoor.Dg
