/- The closures of NatmodPowers. -/
import Derived.Test.YtlciocebbckdcaaPk5
import Derived.Deep.Cut
namespace Go.Proofs.Ytlciocebbckdcaa.Ml
open Go.RowKit Go.Shelf Go.Proofs.Ytlciocebbckdcaa.Nm Go.Proofs.Ytlciocebbckdcaa.Ne Go.Proofs.Ytlciocebbckdcaa.Nf Go.Proofs.Ytlciocebbckdcaa.Nk Go.Proofs.Ytlciocebbckdcaa.Nv Go.Proofs.Ytlciocebbckdcaa.Nr2 Go.Proofs.Ytlciocebbckdcaa.Mo Go.Proofs.Ytlciocebbckdcaa.Mr Go.Proofs.Ytlciocebbckdcaa.Kr Go.Proofs.Ytlciocebbckdcaa.Nl

set_option linter.unusedSimpArgs false in
set_option maxRecDepth 100000 in
set_option maxHeartbeats 16000000 in
theorem pows1_Pow {pa : Option Addr} {na ca : Nat} {pb : Option Addr} {nb cb : Nat} {pm : Option Addr} {nm cm : Nat} {x y z m bm bg : Nat} {w W : World} {cs : List (Nat × Nat × Value)} {fs : List (World → Prop)} (H0 : Sta w W cs fs) (i j : Nat) (hm : cs[i]? = some (bm, 0, .slice pm nm cm)) (hg : cs[j]? = some (bg, 0, .bool true))
    (h1 : Nw W pa na ca (digs x)) (h2 : Nw W pb nb cb (digs y)) (h3 : Nw W pm nm cm (digs m)) (vm : m < pw 32) (hz : z < m)
    (hop : ∀ W', Nw W' pa na ca (digs x) → Nw W' pb nb cb (digs y) → Nw W' pm nm cm (digs m) → Calls Try.prog 27 #[.agg #[.slice pa na ca], .agg #[.slice pb nb cb], .agg #[.slice pm nm cm]] W' (HasE z 0 W')) :
    Calls Try.prog 41 #[.agg #[.slice pa na ca], .agg #[.slice pb nb cb], .pointer (some ⟨bm, 0, none⟩), .pointer (some ⟨bg, 0, none⟩)] W fun e w' => ∃ p n c, e = .returned (.agg #[.slice p n c]) ∧ Sta w w' cs (N p n c z :: fs) := by
  have VM := Lib.hid vm
  have HOP := Lib.hid hop
  have HZ := Lib.hid hz
  have HGM := Lib.hid hm; have HGG := Lib.hid hg
  clear vm hop hz hm hg
  have H := ((H0.num h3).num h2).num h1
  clear H0
  go_enter Try.func41, Try.ntmps41
  go_upto_region 0 with fail
  refine Kr.seqStartW ?_
  refine Kr.seqR (by rfl) (fun K hK => ?_)
  go_simp
  obtain ⟨y1, hy⟩ : ∃ y, W.alloc (.cells #[.slice pa na ca] 24) = y := ⟨_, rfl⟩
  obtain ⟨ba, hb⟩ : ∃ b, W.heap.size = b := ⟨_, rfl⟩
  rw [hy, hb]
  replace H := H.alloc hy hb rfl
  clear hy hb
  (refine Kr.outS hK (a' := ?_) ?_ ?_; rotate_left; (focus ((try simp only [Kr.PT]); first | done | rfl))); clear hK K
  refine Kr.seqR (by rfl) (fun K hK => ?_)
  go_simp
  obtain ⟨y2, hy⟩ : ∃ y, y1.alloc (.cells #[.slice pb nb cb] 24) = y := ⟨_, rfl⟩
  obtain ⟨bb, hb⟩ : ∃ b, y1.heap.size = b := ⟨_, rfl⟩
  rw [hy, hb]
  replace H := H.alloc hy hb rfl
  clear hy hb
  (refine Kr.outS hK (a' := ?_) ?_ ?_; rotate_left; (focus ((try simp only [Kr.PT]); first | done | rfl))); clear hK K
  refine Kr.seqR (by rfl) (fun K hK => ?_)
  go_simp
  obtain ⟨y3, hy⟩ : ∃ y, y2.alloc (.cells #[.slice none 0 0] 24) = y := ⟨_, rfl⟩
  obtain ⟨br, hb⟩ : ∃ b, y2.heap.size = b := ⟨_, rfl⟩
  rw [hy, hb]
  replace H := H.alloc hy hb rfl
  clear hy hb
  (refine Kr.outS hK (a' := ?_) ?_ ?_; rotate_left; (focus ((try simp only [Kr.PT]); first | done | rfl))); clear hK K
  refine Kr.seqDoneW ?_
  go_upto_region 1 with fail
  refine Kr.seqStartW ?_
  have hk := H.c
  simp only [Kr.Cells] at hk
  have hk_m := H.c.get (i + 1 + 1 + 1) HGM.out
  dsimp only at hk_m
  have hk_g := H.c.get (j + 1 + 1 + 1) HGG.out
  dsimp only at hk_g
  iterate 3 (refine Kr.seqQ (v := ?_) (a' := ?_) (by rfl) ?_ ?_ ?_; rotate_left 2; (focus (go_simp; first | done | rfl)); (focus ((try simp only [Kr.PT]); first | done | rfl)))
  refine Kr.seqR (by rfl) (fun K hK => ?_)
  go_simp
  go_at_call 27
  refine (HOP.out _ (H.nw 0 rfl) (H.nw 1 rfl) (H.nw 2 rfl)).mono ?_
  rintro e y4 ⟨p4, n4, c4, rfl, hr, hg⟩
  clear hk hk_m hk_g
  replace H := H.grow hg
  replace H := H.num hr
  clear hr hg
  (refine Kr.outS hK (a' := ?_) ?_ ?_; rotate_left; (focus ((try simp only [Kr.PT]); first | done | rfl))); clear hK K
  iterate 3 (refine Kr.seqQ (v := ?_) (a' := ?_) (by rfl) ?_ ?_ ?_; rotate_left 2; (focus (go_simp; first | done | rfl)); (focus ((try simp only [Kr.PT]); first | done | rfl)))
  refine Kr.seqR (by rfl) (fun K hK => ?_)
  go_simp
  obtain ⟨y5, hy⟩ : ∃ y, y4.alloc (.cells #[.slice none 0 0] 24) = y := ⟨_, rfl⟩
  obtain ⟨bx, hb⟩ : ∃ b, y4.heap.size = b := ⟨_, rfl⟩
  rw [hy, hb]
  replace H := H.alloc hy hb rfl
  clear hy hb
  (refine Kr.outS hK (a' := ?_) ?_ ?_; rotate_left; (focus ((try simp only [Kr.PT]); first | done | rfl))); clear hK K
  have hk := H.c
  simp only [Kr.Cells] at hk
  have hk_m := H.c.get (i + 1 + 1 + 1 + 1) HGM.out
  dsimp only at hk_m
  have hk_g := H.c.get (j + 1 + 1 + 1 + 1) HGG.out
  dsimp only at hk_g
  refine Kr.seqR (by rfl) (fun K hK => ?_)
  go_simp
  clear hk hk_m hk_g
  obtain ⟨y6, hy⟩ : ∃ y, y5.setCell ⟨bx, 0, none⟩ (.slice p4 n4 c4) = y := ⟨_, rfl⟩
  rw [hy]
  replace H := H.store 0 hy rfl rfl
  dsimp only [List.set] at H
  clear hy
  (refine Kr.outS hK (a' := ?_) ?_ ?_; rotate_left; (focus ((try simp only [Kr.PT]); first | done | rfl))); clear hK K
  (refine Kr.seqQ (v := ?_) (a' := ?_) (by rfl) ?_ ?_ ?_; rotate_left 2; (focus (go_simp; first | done | rfl)); (focus ((try simp only [Kr.PT]); first | done | rfl)))
  refine Kr.seqDoneW ?_
  go_upto_region 2 with fail
  refine Kr.seqStartW ?_
  have hk := H.c
  simp only [Kr.Cells] at hk
  have hk_m := H.c.get (i + 1 + 1 + 1 + 1) HGM.out
  dsimp only at hk_m
  have hk_g := H.c.get (j + 1 + 1 + 1 + 1) HGG.out
  dsimp only at hk_g
  iterate 7 (refine Kr.seqQ (v := ?_) (a' := ?_) (by rfl) ?_ ?_ ?_; rotate_left 2; (focus (go_simp; first | done | rfl)); (focus ((try simp only [Kr.PT]); first | done | rfl)))
  refine Kr.seqR (by rfl) (fun K hK => ?_)
  go_simp
  go_at_call 29
  refine (valid3_any _ _ _ _ _ (H.nw 0 rfl)).mono ?_
  rintro e y7 ⟨rfl, hg⟩
  rw [dv (Nat.lt_trans HZ.out (lt64 VM.out))]
  clear hk hk_m hk_g
  replace H := H.grow hg
  clear hg
  (refine Kr.outS hK (a' := ?_) ?_ ?_; rotate_left; (focus ((try simp only [Kr.PT]); first | done | rfl))); clear hK K
  iterate 2 (refine Kr.seqQ (v := ?_) (a' := ?_) (by rfl) ?_ ?_ ?_; rotate_left 2; (focus (go_simp; first | done | rfl)); (focus ((try simp only [Kr.PT]); first | done | rfl)))
  have hk := H.c
  simp only [Kr.Cells] at hk
  have hk_m := H.c.get (i + 1 + 1 + 1 + 1) HGM.out
  dsimp only at hk_m
  have hk_g := H.c.get (j + 1 + 1 + 1 + 1) HGG.out
  dsimp only at hk_g
  iterate 2 (refine Kr.seqQ (v := ?_) (a' := ?_) (by rfl) ?_ ?_ ?_; rotate_left 2; (focus (go_simp; first | done | rfl)); (focus ((try simp only [Kr.PT]); first | done | rfl)))
  refine Kr.seqR (by rfl) (fun K hK => ?_)
  go_simp
  go_at_call 36
  refine (less3_v (H.nw 0 rfl) (H.nw 3 rfl)).mono ?_
  rintro e y8 ⟨rfl, hg⟩
  rw [decide_eq_true HZ.out]
  clear hk hk_m hk_g
  replace H := H.grow hg
  clear hg
  (refine Kr.outS hK (a' := ?_) ?_ ?_; rotate_left; (focus ((try simp only [Kr.PT]); first | done | rfl))); clear hK K
  (refine Kr.seqQ (v := ?_) (a' := ?_) (by rfl) ?_ ?_ ?_; rotate_left 2; (focus (go_simp; first | done | rfl)); (focus ((try simp only [Kr.PT]); first | done | rfl)))
  have hk := H.c
  simp only [Kr.Cells] at hk
  have hk_m := H.c.get (i + 1 + 1 + 1 + 1) HGM.out
  dsimp only at hk_m
  have hk_g := H.c.get (j + 1 + 1 + 1 + 1) HGG.out
  dsimp only at hk_g
  refine Kr.seqR (by rfl) (fun K hK => ?_)
  go_simp
  clear hk hk_m hk_g
  obtain ⟨y9, hy⟩ : ∃ y, y8.setCell ⟨bg, 0, none⟩ (.bool true) = y := ⟨_, rfl⟩
  rw [hy]
  replace H := H.same (j + 1 + 1 + 1 + 1) hy HGG.out rfl
  clear hy
  (refine Kr.outS hK (a' := ?_) ?_ ?_; rotate_left; (focus ((try simp only [Kr.PT]); first | done | rfl))); clear hK K
  refine Kr.seqDoneW ?_
  go_upto_region 3 with fail
  refine Kr.seqStartW ?_
  have hk := H.c
  simp only [Kr.Cells] at hk
  have hk_m := H.c.get (i + 1 + 1 + 1 + 1) HGM.out
  dsimp only at hk_m
  have hk_g := H.c.get (j + 1 + 1 + 1 + 1) HGG.out
  dsimp only at hk_g
  (refine Kr.seqQ (v := ?_) (a' := ?_) (by rfl) ?_ ?_ ?_; rotate_left 2; (focus (go_simp; first | done | rfl)); (focus ((try simp only [Kr.PT]); first | done | rfl)))
  refine Kr.seqR (by rfl) (fun K hK => ?_)
  go_simp
  clear hk hk_m hk_g
  obtain ⟨y10, hy⟩ : ∃ y, y9.setCell ⟨br, 0, none⟩ (.slice p4 n4 c4) = y := ⟨_, rfl⟩
  rw [hy]
  replace H := H.store 1 hy rfl rfl
  dsimp only [List.set] at H
  clear hy
  (refine Kr.outS hK (a' := ?_) ?_ ?_; rotate_left; (focus ((try simp only [Kr.PT]); first | done | rfl))); clear hK K
  refine Kr.seqDoneW ?_
  have hk := H.c
  simp only [Kr.Cells] at hk
  have hk_m := H.c.get (i + 1 + 1 + 1 + 1) HGM.out
  dsimp only at hk_m
  have hk_g := H.c.get (j + 1 + 1 + 1 + 1) HGG.out
  dsimp only at hk_g
  go_wp2
  refine bodyPost_ret (v := .agg #[.slice p4 n4 c4]) (by simp [results, Try.results41, go_sem, hk]) rfl ⟨p4, n4, c4, rfl, ?_⟩
  exact (H.tl.tl.tl.tl.tlC.tlC.tlC.tlC).num (H.nw 0 rfl)
set_option linter.unusedSimpArgs false in
set_option maxRecDepth 100000 in
set_option maxHeartbeats 16000000 in
theorem pows1_Mul {pa : Option Addr} {na ca : Nat} {pb : Option Addr} {nb cb : Nat} {pm : Option Addr} {nm cm : Nat} {x y z m bm bg : Nat} {w W : World} {cs : List (Nat × Nat × Value)} {fs : List (World → Prop)} (H0 : Sta w W cs fs) (i j : Nat) (hm : cs[i]? = some (bm, 0, .slice pm nm cm)) (hg : cs[j]? = some (bg, 0, .bool true))
    (h1 : Nw W pa na ca (digs x)) (h2 : Nw W pb nb cb (digs y)) (h3 : Nw W pm nm cm (digs m)) (vm : m < pw 32) (hz : z < m)
    (hop : ∀ W', Nw W' pa na ca (digs x) → Nw W' pb nb cb (digs y) → Nw W' pm nm cm (digs m) → Calls Try.prog 26 #[.agg #[.slice pa na ca], .agg #[.slice pb nb cb], .agg #[.slice pm nm cm]] W' (HasE z 0 W')) :
    Calls Try.prog 42 #[.agg #[.slice pa na ca], .agg #[.slice pb nb cb], .pointer (some ⟨bm, 0, none⟩), .pointer (some ⟨bg, 0, none⟩)] W fun e w' => ∃ p n c, e = .returned (.agg #[.slice p n c]) ∧ Sta w w' cs (N p n c z :: fs) := by
  have VM := Lib.hid vm
  have HOP := Lib.hid hop
  have HZ := Lib.hid hz
  have HGM := Lib.hid hm; have HGG := Lib.hid hg
  clear vm hop hz hm hg
  have H := ((H0.num h3).num h2).num h1
  clear H0
  go_enter Try.func42, Try.ntmps42
  go_upto_region 0 with fail
  refine Kr.seqStartW ?_
  refine Kr.seqR (by rfl) (fun K hK => ?_)
  go_simp
  obtain ⟨y1, hy⟩ : ∃ y, W.alloc (.cells #[.slice pa na ca] 24) = y := ⟨_, rfl⟩
  obtain ⟨ba, hb⟩ : ∃ b, W.heap.size = b := ⟨_, rfl⟩
  rw [hy, hb]
  replace H := H.alloc hy hb rfl
  clear hy hb
  (refine Kr.outS hK (a' := ?_) ?_ ?_; rotate_left; (focus ((try simp only [Kr.PT]); first | done | rfl))); clear hK K
  refine Kr.seqR (by rfl) (fun K hK => ?_)
  go_simp
  obtain ⟨y2, hy⟩ : ∃ y, y1.alloc (.cells #[.slice pb nb cb] 24) = y := ⟨_, rfl⟩
  obtain ⟨bb, hb⟩ : ∃ b, y1.heap.size = b := ⟨_, rfl⟩
  rw [hy, hb]
  replace H := H.alloc hy hb rfl
  clear hy hb
  (refine Kr.outS hK (a' := ?_) ?_ ?_; rotate_left; (focus ((try simp only [Kr.PT]); first | done | rfl))); clear hK K
  refine Kr.seqR (by rfl) (fun K hK => ?_)
  go_simp
  obtain ⟨y3, hy⟩ : ∃ y, y2.alloc (.cells #[.slice none 0 0] 24) = y := ⟨_, rfl⟩
  obtain ⟨br, hb⟩ : ∃ b, y2.heap.size = b := ⟨_, rfl⟩
  rw [hy, hb]
  replace H := H.alloc hy hb rfl
  clear hy hb
  (refine Kr.outS hK (a' := ?_) ?_ ?_; rotate_left; (focus ((try simp only [Kr.PT]); first | done | rfl))); clear hK K
  refine Kr.seqDoneW ?_
  go_upto_region 1 with fail
  refine Kr.seqStartW ?_
  have hk := H.c
  simp only [Kr.Cells] at hk
  have hk_m := H.c.get (i + 1 + 1 + 1) HGM.out
  dsimp only at hk_m
  have hk_g := H.c.get (j + 1 + 1 + 1) HGG.out
  dsimp only at hk_g
  iterate 3 (refine Kr.seqQ (v := ?_) (a' := ?_) (by rfl) ?_ ?_ ?_; rotate_left 2; (focus (go_simp; first | done | rfl)); (focus ((try simp only [Kr.PT]); first | done | rfl)))
  refine Kr.seqR (by rfl) (fun K hK => ?_)
  go_simp
  go_at_call 26
  refine (HOP.out _ (H.nw 0 rfl) (H.nw 1 rfl) (H.nw 2 rfl)).mono ?_
  rintro e y4 ⟨p4, n4, c4, rfl, hr, hg⟩
  clear hk hk_m hk_g
  replace H := H.grow hg
  replace H := H.num hr
  clear hr hg
  (refine Kr.outS hK (a' := ?_) ?_ ?_; rotate_left; (focus ((try simp only [Kr.PT]); first | done | rfl))); clear hK K
  iterate 3 (refine Kr.seqQ (v := ?_) (a' := ?_) (by rfl) ?_ ?_ ?_; rotate_left 2; (focus (go_simp; first | done | rfl)); (focus ((try simp only [Kr.PT]); first | done | rfl)))
  refine Kr.seqR (by rfl) (fun K hK => ?_)
  go_simp
  obtain ⟨y5, hy⟩ : ∃ y, y4.alloc (.cells #[.slice none 0 0] 24) = y := ⟨_, rfl⟩
  obtain ⟨bx, hb⟩ : ∃ b, y4.heap.size = b := ⟨_, rfl⟩
  rw [hy, hb]
  replace H := H.alloc hy hb rfl
  clear hy hb
  (refine Kr.outS hK (a' := ?_) ?_ ?_; rotate_left; (focus ((try simp only [Kr.PT]); first | done | rfl))); clear hK K
  have hk := H.c
  simp only [Kr.Cells] at hk
  have hk_m := H.c.get (i + 1 + 1 + 1 + 1) HGM.out
  dsimp only at hk_m
  have hk_g := H.c.get (j + 1 + 1 + 1 + 1) HGG.out
  dsimp only at hk_g
  refine Kr.seqR (by rfl) (fun K hK => ?_)
  go_simp
  clear hk hk_m hk_g
  obtain ⟨y6, hy⟩ : ∃ y, y5.setCell ⟨bx, 0, none⟩ (.slice p4 n4 c4) = y := ⟨_, rfl⟩
  rw [hy]
  replace H := H.store 0 hy rfl rfl
  dsimp only [List.set] at H
  clear hy
  (refine Kr.outS hK (a' := ?_) ?_ ?_; rotate_left; (focus ((try simp only [Kr.PT]); first | done | rfl))); clear hK K
  (refine Kr.seqQ (v := ?_) (a' := ?_) (by rfl) ?_ ?_ ?_; rotate_left 2; (focus (go_simp; first | done | rfl)); (focus ((try simp only [Kr.PT]); first | done | rfl)))
  refine Kr.seqDoneW ?_
  go_upto_region 2 with fail
  refine Kr.seqStartW ?_
  have hk := H.c
  simp only [Kr.Cells] at hk
  have hk_m := H.c.get (i + 1 + 1 + 1 + 1) HGM.out
  dsimp only at hk_m
  have hk_g := H.c.get (j + 1 + 1 + 1 + 1) HGG.out
  dsimp only at hk_g
  iterate 7 (refine Kr.seqQ (v := ?_) (a' := ?_) (by rfl) ?_ ?_ ?_; rotate_left 2; (focus (go_simp; first | done | rfl)); (focus ((try simp only [Kr.PT]); first | done | rfl)))
  refine Kr.seqR (by rfl) (fun K hK => ?_)
  go_simp
  go_at_call 29
  refine (valid3_any _ _ _ _ _ (H.nw 0 rfl)).mono ?_
  rintro e y7 ⟨rfl, hg⟩
  rw [dv (Nat.lt_trans HZ.out (lt64 VM.out))]
  clear hk hk_m hk_g
  replace H := H.grow hg
  clear hg
  (refine Kr.outS hK (a' := ?_) ?_ ?_; rotate_left; (focus ((try simp only [Kr.PT]); first | done | rfl))); clear hK K
  iterate 2 (refine Kr.seqQ (v := ?_) (a' := ?_) (by rfl) ?_ ?_ ?_; rotate_left 2; (focus (go_simp; first | done | rfl)); (focus ((try simp only [Kr.PT]); first | done | rfl)))
  have hk := H.c
  simp only [Kr.Cells] at hk
  have hk_m := H.c.get (i + 1 + 1 + 1 + 1) HGM.out
  dsimp only at hk_m
  have hk_g := H.c.get (j + 1 + 1 + 1 + 1) HGG.out
  dsimp only at hk_g
  iterate 2 (refine Kr.seqQ (v := ?_) (a' := ?_) (by rfl) ?_ ?_ ?_; rotate_left 2; (focus (go_simp; first | done | rfl)); (focus ((try simp only [Kr.PT]); first | done | rfl)))
  refine Kr.seqR (by rfl) (fun K hK => ?_)
  go_simp
  go_at_call 36
  refine (less3_v (H.nw 0 rfl) (H.nw 3 rfl)).mono ?_
  rintro e y8 ⟨rfl, hg⟩
  rw [decide_eq_true HZ.out]
  clear hk hk_m hk_g
  replace H := H.grow hg
  clear hg
  (refine Kr.outS hK (a' := ?_) ?_ ?_; rotate_left; (focus ((try simp only [Kr.PT]); first | done | rfl))); clear hK K
  (refine Kr.seqQ (v := ?_) (a' := ?_) (by rfl) ?_ ?_ ?_; rotate_left 2; (focus (go_simp; first | done | rfl)); (focus ((try simp only [Kr.PT]); first | done | rfl)))
  have hk := H.c
  simp only [Kr.Cells] at hk
  have hk_m := H.c.get (i + 1 + 1 + 1 + 1) HGM.out
  dsimp only at hk_m
  have hk_g := H.c.get (j + 1 + 1 + 1 + 1) HGG.out
  dsimp only at hk_g
  refine Kr.seqR (by rfl) (fun K hK => ?_)
  go_simp
  clear hk hk_m hk_g
  obtain ⟨y9, hy⟩ : ∃ y, y8.setCell ⟨bg, 0, none⟩ (.bool true) = y := ⟨_, rfl⟩
  rw [hy]
  replace H := H.same (j + 1 + 1 + 1 + 1) hy HGG.out rfl
  clear hy
  (refine Kr.outS hK (a' := ?_) ?_ ?_; rotate_left; (focus ((try simp only [Kr.PT]); first | done | rfl))); clear hK K
  refine Kr.seqDoneW ?_
  go_upto_region 3 with fail
  refine Kr.seqStartW ?_
  have hk := H.c
  simp only [Kr.Cells] at hk
  have hk_m := H.c.get (i + 1 + 1 + 1 + 1) HGM.out
  dsimp only at hk_m
  have hk_g := H.c.get (j + 1 + 1 + 1 + 1) HGG.out
  dsimp only at hk_g
  (refine Kr.seqQ (v := ?_) (a' := ?_) (by rfl) ?_ ?_ ?_; rotate_left 2; (focus (go_simp; first | done | rfl)); (focus ((try simp only [Kr.PT]); first | done | rfl)))
  refine Kr.seqR (by rfl) (fun K hK => ?_)
  go_simp
  clear hk hk_m hk_g
  obtain ⟨y10, hy⟩ : ∃ y, y9.setCell ⟨br, 0, none⟩ (.slice p4 n4 c4) = y := ⟨_, rfl⟩
  rw [hy]
  replace H := H.store 1 hy rfl rfl
  dsimp only [List.set] at H
  clear hy
  (refine Kr.outS hK (a' := ?_) ?_ ?_; rotate_left; (focus ((try simp only [Kr.PT]); first | done | rfl))); clear hK K
  refine Kr.seqDoneW ?_
  have hk := H.c
  simp only [Kr.Cells] at hk
  have hk_m := H.c.get (i + 1 + 1 + 1 + 1) HGM.out
  dsimp only at hk_m
  have hk_g := H.c.get (j + 1 + 1 + 1 + 1) HGG.out
  dsimp only at hk_g
  go_wp2
  refine bodyPost_ret (v := .agg #[.slice p4 n4 c4]) (by simp [results, Try.results42, go_sem, hk]) rfl ⟨p4, n4, c4, rfl, ?_⟩
  exact (H.tl.tl.tl.tl.tlC.tlC.tlC.tlC).num (H.nw 0 rfl)
end Go.Proofs.Ytlciocebbckdcaa.Ml
