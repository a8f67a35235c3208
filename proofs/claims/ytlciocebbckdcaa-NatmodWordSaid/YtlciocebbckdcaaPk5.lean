/- A part of the proofs, joined of smaller texts: Mrb2, Mrc2, Mrd2, Nawake, Kr2, Mv, Mx, Kr4, My, Kr3. -/
import Derived.Test.YtlciocebbckdcaaPk4
import Derived.Deep.Cut
import Derived.Test.YtlciocebbckdcaaPk2
import Derived.Test.YtlciocebbckdcaaPk3
import Derived.IntWalk

/- The contract of the third reference's Mul, Mod, Pow. -/
namespace Go.Proofs.Ytlciocebbckdcaa.Mr
open Go.RowKit Go.Shelf Go.Proofs.Ytlciocebbckdcaa.Nm Go.Proofs.Ytlciocebbckdcaa.Ne Go.Proofs.Ytlciocebbckdcaa.Nf Go.Proofs.Ytlciocebbckdcaa.Nk Go.Proofs.Ytlciocebbckdcaa.Nv Go.Proofs.Ytlciocebbckdcaa.Nr2 Go.Proofs.Ytlciocebbckdcaa.Mo Go.Proofs.Ytlciocebbckdcaa.Mr Go.Proofs.Ytlciocebbckdcaa.Kr

set_option linter.unusedSimpArgs false in
set_option maxRecDepth 100000 in
set_option maxHeartbeats 16000000 in
theorem rmul3_v {pa : Option Addr} {na ca : Nat} {pb : Option Addr} {nb cb : Nat} {pm : Option Addr} {nm cm : Nat} {x y m : Nat} {w : World} (ha : Nw w pa na ca (digs x)) (hb : Nw w pb nb cb (digs y)) (hm : Nw w pm nm cm (digs m)) (hx : x < m) (hy : y < m) (vm : m < pw 900) :
    Calls Try.prog 28 #[.agg #[.slice pa na ca], .agg #[.slice pb nb cb], .agg #[.slice pm nm cm]] w (Has (x * y % m) w) := by
  have HX := Lib.hid hx
  have HY := Lib.hid hy
  have VM := Lib.hid vm
  have M0 : Hid (0 < m) := Lib.hid (Nat.lt_of_le_of_lt (Nat.zero_le _) hx)
  have VY : Hid (y < pw 1000) := Lib.hid (Nat.lt_of_lt_of_le (Nat.lt_trans hy vm) (pw_mono (by decide)))
  clear hx hy vm
  have H := Sta.start w
  replace H := H.num ha
  replace H := H.num hb
  replace H := H.num hm
  go_enter Try.func28, Try.ntmps28
  obtain ⟨B, hB⟩ : ∃ B, Nv.nb (y) = B := ⟨_, rfl⟩
  have HNB := Lib.hid hB
  have hb : B ≤ 32 * 1000 := by rw [← hB]; exact nb_small VY.out
  have hW : IntKind.i64.wrap ((B : Int) - 1) = (B : Int) - 1 := IntWalk.i64_in _ (by omega)
  have HZ : Hid (y / 2 ^ B = 0) := Lib.hid (by rw [← hB]; exact nb_zero _)
  clear hB
  go_upto_region 0 with fail
  refine Kr.seqStart ?_
  refine Kr.seqS (fun K hK => ?_)
  go_simp
  obtain ⟨y1, hy⟩ : ∃ y, w.alloc (.cells #[.slice pa na ca] 24) = y := ⟨_, rfl⟩
  obtain ⟨ba, hb⟩ : ∃ b, w.heap.size = b := ⟨_, rfl⟩
  rw [hy, hb]
  replace H := H.alloc hy hb rfl
  clear hy hb
  refine hK.out _ _ ?_; clear hK K
  (try simp only [Act.put, List.getElem_toArray, List.getElem_cons_zero, List.getElem_cons_succ, List.setIfInBounds_toArray, List.set_cons_zero, List.set_cons_succ])
  refine Kr.seqS (fun K hK => ?_)
  go_simp
  obtain ⟨y2, hy⟩ : ∃ y, y1.alloc (.cells #[.slice pb nb cb] 24) = y := ⟨_, rfl⟩
  obtain ⟨bb, hb⟩ : ∃ b, y1.heap.size = b := ⟨_, rfl⟩
  rw [hy, hb]
  replace H := H.alloc hy hb rfl
  clear hy hb
  refine hK.out _ _ ?_; clear hK K
  (try simp only [Act.put, List.getElem_toArray, List.getElem_cons_zero, List.getElem_cons_succ, List.setIfInBounds_toArray, List.set_cons_zero, List.set_cons_succ])
  refine Kr.seqS (fun K hK => ?_)
  go_simp
  obtain ⟨y3, hy⟩ : ∃ y, y2.alloc (.cells #[.slice pm nm cm] 24) = y := ⟨_, rfl⟩
  obtain ⟨bm, hb⟩ : ∃ b, y2.heap.size = b := ⟨_, rfl⟩
  rw [hy, hb]
  replace H := H.alloc hy hb rfl
  clear hy hb
  refine hK.out _ _ ?_; clear hK K
  (try simp only [Act.put, List.getElem_toArray, List.getElem_cons_zero, List.getElem_cons_succ, List.setIfInBounds_toArray, List.set_cons_zero, List.set_cons_succ])
  refine Kr.seqS (fun K hK => ?_)
  go_simp
  obtain ⟨y4, hy⟩ : ∃ y, y3.alloc (.cells #[.slice none 0 0] 24) = y := ⟨_, rfl⟩
  obtain ⟨br, hb⟩ : ∃ b, y3.heap.size = b := ⟨_, rfl⟩
  rw [hy, hb]
  replace H := H.alloc hy hb rfl
  clear hy hb
  refine hK.out _ _ ?_; clear hK K
  (try simp only [Act.put, List.getElem_toArray, List.getElem_cons_zero, List.getElem_cons_succ, List.setIfInBounds_toArray, List.set_cons_zero, List.set_cons_succ])
  refine Kr.seqDone ?_
  go_upto_region 1 with fail
  refine Kr.seqStart ?_
  refine Kr.seqS (fun K hK => ?_)
  go_simp
  obtain ⟨y5, hy⟩ : ∃ y, y4.alloc (.cells #[.slice none 0 0] 24) = y := ⟨_, rfl⟩
  obtain ⟨bo, hb⟩ : ∃ b, y4.heap.size = b := ⟨_, rfl⟩
  rw [hy, hb]
  replace H := H.alloc hy hb rfl
  clear hy hb
  refine hK.out _ _ ?_; clear hK K
  (try simp only [Act.put, List.getElem_toArray, List.getElem_cons_zero, List.getElem_cons_succ, List.setIfInBounds_toArray, List.set_cons_zero, List.set_cons_succ])
  refine Kr.seqDone ?_
  go_upto_region 2 with fail
  refine Kr.seqStart ?_
  have hk := H.c
  simp only [Kr.Cells] at hk
  (refine Kr.seqP (v := ?_) (by rfl) ?_ ?_; rotate_left; (focus (go_simp; first | done | rfl)); (try simp only [Act.put, List.getElem_toArray, List.getElem_cons_zero, List.getElem_cons_succ, List.setIfInBounds_toArray, List.set_cons_zero, List.set_cons_succ]))
  refine Kr.seqS (fun K hK => ?_)
  go_simp
  go_at_call 84
  refine (bits3_v _ _ _ _ _ (H.nw 1 rfl)).mono ?_
  rintro e y6 ⟨rfl, hg⟩
  rw [HNB.out]
  clear hk
  replace H := H.grow hg
  clear hg
  refine hK.out _ _ ?_; clear hK K
  (try simp only [Act.put, List.getElem_toArray, List.getElem_cons_zero, List.getElem_cons_succ, List.setIfInBounds_toArray, List.set_cons_zero, List.set_cons_succ])
  iterate 2 (refine Kr.seqP (v := ?_) (by rfl) ?_ ?_; rotate_left; (focus (go_simp; first | done | rfl)); (try simp only [Act.put, List.getElem_toArray, List.getElem_cons_zero, List.getElem_cons_succ, List.setIfInBounds_toArray, List.set_cons_zero, List.set_cons_succ]))
  refine Kr.seqDone ?_
  replace H := H.num (nw_none _)
  have H2 : Hid (Sta w y6 [(bo, 0, .slice none 0 0), (br, 0, .slice none 0 0), (bm, 0, .slice pm nm cm), (bb, 0, .slice pb nb cb), (ba, 0, .slice pa na ca)] [N none 0 0 (x * (y / 2 ^ B) % m), N pa na ca (x), N pb nb cb (y), N pm nm cm (m)]) := Lib.hid (by rw [HZ.out, Nat.mul_zero, Nat.zero_mod]; exact H.pick [0, 3, 2, 1] rfl)
  go_wp2
  go_loopw [8] (fun i wr => ∃ (k : Nat) (pz0 : Option Addr) (nz0 cz0 : Nat), k ≤ B ∧ (k = 0 ∧ i = .int .i64 (-1) ∨ ∃ j : Nat, k = j + 1 ∧ i = .int .i64 (j : Int)) ∧ Hid (Sta w wr [(bo, 0, .slice pz0 nz0 cz0), (br, 0, .slice none 0 0), (bm, 0, .slice pm nm cm), (bb, 0, .slice pb nb cb), (ba, 0, .slice pa na ca)] [N pz0 nz0 cz0 (x * (y / 2 ^ k) % m), N pa na ca (x), N pb nb cb (y), N pm nm cm (m)])) (fun i _ => (intOf i + 1).toNat)
  case atStart =>
    refine ⟨B, _, _, _, Nat.le_refl _, ?_, H2⟩
    rcases Nat.eq_zero_or_pos B with h0 | h0
    · exact .inl ⟨h0, by subst h0; rfl⟩
    · exact .inr ⟨B - 1, by omega, by congr 1; omega⟩
  case round =>
    clear H H2 hW
    obtain ⟨k, pz0, nz0, cz0, hk, hik, HH⟩ := hrel
    rcases hik with ⟨rfl, rfl⟩ | ⟨j, rfl, rfl⟩
    · have H := HH.out
      clear HH
      go_upto_region 8 with fail
      refine Kr.seqStart ?_
      have hk := H.c
      simp only [Kr.Cells] at hk
      (refine Kr.seqP (v := ?_) (by rfl) ?_ ?_; rotate_left; (focus (go_simp; first | done | rfl)); (try simp only [Act.put, List.getElem_toArray, List.getElem_cons_zero, List.getElem_cons_succ, List.setIfInBounds_toArray, List.set_cons_zero, List.set_cons_succ]))
      refine Kr.seqS (fun K hK => ?_)
      go_simp
      clear hk
      obtain ⟨y7, hy⟩ : ∃ y, wr.setCell ⟨br, 0, none⟩ (.slice pz0 nz0 cz0) = y := ⟨_, rfl⟩
      rw [hy]
      replace H := H.store 1 hy rfl rfl
      dsimp only [List.set] at H
      clear hy
      refine hK.out _ _ ?_; clear hK K
      (try simp only [Act.put, List.getElem_toArray, List.getElem_cons_zero, List.getElem_cons_succ, List.setIfInBounds_toArray, List.set_cons_zero, List.set_cons_succ])
      refine Kr.seqDone ?_
      have hk := H.c
      simp only [Kr.Cells] at hk
      go_wp2
      refine bodyPost_ret (v := .agg #[.slice pz0 nz0 cz0]) (by simp [results, Try.results28, go_sem, hk]) rfl ⟨pz0, nz0, cz0, rfl, by have h := (H.nw 0 rfl); rwa [Nat.pow_zero, Nat.div_one] at h, H.g⟩
    · have H := HH.out
      clear HH
      have hW : IntKind.i64.wrap ((j : Int) - 1) = (j : Int) - 1 := IntWalk.i64_in _ (by omega)
      have hj0 : (0 : Int) ≤ (j : Int) := by omega
      have HJ : Hid (j < 9223372036854775808) := Lib.hid (by omega)
      go_upto_region 5 with fail
      refine Kr.seqStart ?_
      have hk := H.c
      simp only [Kr.Cells] at hk
      iterate 3 (refine Kr.seqP (v := ?_) (by rfl) ?_ ?_; rotate_left; (focus (go_simp; first | done | rfl)); (try simp only [Act.put, List.getElem_toArray, List.getElem_cons_zero, List.getElem_cons_succ, List.setIfInBounds_toArray, List.set_cons_zero, List.set_cons_succ]))
      refine Kr.seqS (fun K hK => ?_)
      go_simp
      go_at_call 24
      refine (radd3_v (H.nw 0 rfl) (H.nw 0 rfl) (H.nw 3 rfl) (Nat.mod_lt _ M0.out) (Nat.mod_lt _ M0.out) VM.out).mono ?_
      rintro e y8 ⟨p8, n8, c8, rfl, hr, hg⟩
      clear hk
      replace H := H.grow hg
      replace H := H.num hr
      clear hr hg
      refine hK.out _ _ ?_; clear hK K
      (try simp only [Act.put, List.getElem_toArray, List.getElem_cons_zero, List.getElem_cons_succ, List.setIfInBounds_toArray, List.set_cons_zero, List.set_cons_succ])
      have hk := H.c
      simp only [Kr.Cells] at hk
      refine Kr.seqS (fun K hK => ?_)
      go_simp
      clear hk
      obtain ⟨y9, hy⟩ : ∃ y, y8.setCell ⟨bo, 0, none⟩ (.slice p8 n8 c8) = y := ⟨_, rfl⟩
      rw [hy]
      replace H := H.store 0 hy rfl rfl
      dsimp only [List.set] at H
      clear hy
      refine hK.out _ _ ?_; clear hK K
      (try simp only [Act.put, List.getElem_toArray, List.getElem_cons_zero, List.getElem_cons_succ, List.setIfInBounds_toArray, List.set_cons_zero, List.set_cons_succ])
      refine Kr.seqDone ?_
      cases hbt : y.testBit j with
      | false =>
        have HBT := Lib.hid hbt
        clear hbt
        go_upto_region 6 with fail
        refine Kr.seqStart ?_
        have hk := H.c
        simp only [Kr.Cells] at hk
        iterate 2 (refine Kr.seqP (v := ?_) (by rfl) ?_ ?_; rotate_left; (focus (go_simp; first | done | rfl)); (try simp only [Act.put, List.getElem_toArray, List.getElem_cons_zero, List.getElem_cons_succ, List.setIfInBounds_toArray, List.set_cons_zero, List.set_cons_succ]))
        refine Kr.seqS (fun K hK => ?_)
        go_simp
        go_at_call 85
        refine (bit3_v _ _ _ j _ _ HJ.out (H.nw 3 rfl)).mono ?_
        rintro e y10 ⟨rfl, hg⟩
        rw [HBT.out]
        clear hk
        replace H := H.grow hg
        clear hg
        refine hK.out _ _ ?_; clear hK K
        (try simp only [Act.put, List.getElem_toArray, List.getElem_cons_zero, List.getElem_cons_succ, List.setIfInBounds_toArray, List.set_cons_zero, List.set_cons_succ])
        refine Kr.seqDone ?_
        go_upto_region 4 with fail
        refine Kr.seqStart ?_
        iterate 3 (refine Kr.seqP (v := ?_) (by rfl) ?_ ?_; rotate_left; (focus (go_simp; first | done | rfl)); (try simp only [Act.put, List.getElem_toArray, List.getElem_cons_zero, List.getElem_cons_succ, List.setIfInBounds_toArray, List.set_cons_zero, List.set_cons_succ]))
        refine Kr.seqDone ?_
        go_wp2
        go_roundw
        case rel =>
          refine ⟨j, p8, n8, c8, by omega, ?_, Lib.hid (by rw [← mulm_0 HBT.out]; exact H.pick [0, 2, 3, 4] rfl)⟩
          rcases Nat.eq_zero_or_pos j with h0 | h0
          · exact .inl ⟨h0, by subst h0; rfl⟩
          · exact .inr ⟨j - 1, by omega, by congr 1; omega⟩
        case measure => (simp [intOf] <;> omega)
      | true =>
        have HBT := Lib.hid hbt
        clear hbt
        go_upto_region 6 with fail
        refine Kr.seqStart ?_
        have hk := H.c
        simp only [Kr.Cells] at hk
        iterate 2 (refine Kr.seqP (v := ?_) (by rfl) ?_ ?_; rotate_left; (focus (go_simp; first | done | rfl)); (try simp only [Act.put, List.getElem_toArray, List.getElem_cons_zero, List.getElem_cons_succ, List.setIfInBounds_toArray, List.set_cons_zero, List.set_cons_succ]))
        refine Kr.seqS (fun K hK => ?_)
        go_simp
        go_at_call 85
        refine (bit3_v _ _ _ j _ _ HJ.out (H.nw 3 rfl)).mono ?_
        rintro e y11 ⟨rfl, hg⟩
        rw [HBT.out]
        clear hk
        replace H := H.grow hg
        clear hg
        refine hK.out _ _ ?_; clear hK K
        (try simp only [Act.put, List.getElem_toArray, List.getElem_cons_zero, List.getElem_cons_succ, List.setIfInBounds_toArray, List.set_cons_zero, List.set_cons_succ])
        refine Kr.seqDone ?_
        go_upto_region 7 with fail
        refine Kr.seqStart ?_
        have hk := H.c
        simp only [Kr.Cells] at hk
        iterate 3 (refine Kr.seqP (v := ?_) (by rfl) ?_ ?_; rotate_left; (focus (go_simp; first | done | rfl)); (try simp only [Act.put, List.getElem_toArray, List.getElem_cons_zero, List.getElem_cons_succ, List.setIfInBounds_toArray, List.set_cons_zero, List.set_cons_succ]))
        refine Kr.seqS (fun K hK => ?_)
        go_simp
        go_at_call 24
        refine (radd3_v (H.nw 0 rfl) (H.nw 2 rfl) (H.nw 4 rfl) (Nat.mod_lt _ M0.out) HX.out VM.out).mono ?_
        rintro e y12 ⟨p12, n12, c12, rfl, hr, hg⟩
        clear hk
        replace H := H.grow hg
        replace H := H.num hr
        clear hr hg
        refine hK.out _ _ ?_; clear hK K
        (try simp only [Act.put, List.getElem_toArray, List.getElem_cons_zero, List.getElem_cons_succ, List.setIfInBounds_toArray, List.set_cons_zero, List.set_cons_succ])
        have hk := H.c
        simp only [Kr.Cells] at hk
        refine Kr.seqS (fun K hK => ?_)
        go_simp
        clear hk
        obtain ⟨y13, hy⟩ : ∃ y, y12.setCell ⟨bo, 0, none⟩ (.slice p12 n12 c12) = y := ⟨_, rfl⟩
        rw [hy]
        replace H := H.store 0 hy rfl rfl
        dsimp only [List.set] at H
        clear hy
        refine hK.out _ _ ?_; clear hK K
        (try simp only [Act.put, List.getElem_toArray, List.getElem_cons_zero, List.getElem_cons_succ, List.setIfInBounds_toArray, List.set_cons_zero, List.set_cons_succ])
        refine Kr.seqDone ?_
        go_upto_region 4 with fail
        refine Kr.seqStart ?_
        iterate 3 (refine Kr.seqP (v := ?_) (by rfl) ?_ ?_; rotate_left; (focus (go_simp; first | done | rfl)); (try simp only [Act.put, List.getElem_toArray, List.getElem_cons_zero, List.getElem_cons_succ, List.setIfInBounds_toArray, List.set_cons_zero, List.set_cons_succ]))
        refine Kr.seqDone ?_
        go_wp2
        go_roundw
        case rel =>
          refine ⟨j, p12, n12, c12, by omega, ?_, Lib.hid (by rw [← mulm_1 HBT.out]; exact H.pick [0, 3, 4, 5] rfl)⟩
          rcases Nat.eq_zero_or_pos j with h0 | h0
          · exact .inl ⟨h0, by subst h0; rfl⟩
          · exact .inr ⟨j - 1, by omega, by congr 1; omega⟩
        case measure => (simp [intOf] <;> omega)
set_option linter.unusedSimpArgs false in
set_option maxRecDepth 100000 in
set_option maxHeartbeats 16000000 in
theorem rmod3_one {pa : Option Addr} {na ca : Nat} {pm : Option Addr} {nm cm : Nat} {x : Nat} {w : World} (ha : Nw w pa na ca (digs x)) (hm : Nw w pm nm cm (digs 1)) :
    Calls Try.prog 47 #[.agg #[.slice pa na ca], .agg #[.slice pm nm cm]] w (Has (x % 1) w) := by
  have H := Sta.start w
  replace H := H.num ha
  replace H := H.num hm
  go_enter Try.func47, Try.ntmps47
  go_upto_region 0 with fail
  refine Kr.seqStart ?_
  refine Kr.seqS (fun K hK => ?_)
  go_simp
  obtain ⟨y1, hy⟩ : ∃ y, w.alloc (.cells #[.slice pa na ca] 24) = y := ⟨_, rfl⟩
  obtain ⟨ba, hb⟩ : ∃ b, w.heap.size = b := ⟨_, rfl⟩
  rw [hy, hb]
  replace H := H.alloc hy hb rfl
  clear hy hb
  refine hK.out _ _ ?_; clear hK K
  (try simp only [Act.put, List.getElem_toArray, List.getElem_cons_zero, List.getElem_cons_succ, List.setIfInBounds_toArray, List.set_cons_zero, List.set_cons_succ])
  refine Kr.seqS (fun K hK => ?_)
  go_simp
  obtain ⟨y2, hy⟩ : ∃ y, y1.alloc (.cells #[.slice pm nm cm] 24) = y := ⟨_, rfl⟩
  obtain ⟨bm, hb⟩ : ∃ b, y1.heap.size = b := ⟨_, rfl⟩
  rw [hy, hb]
  replace H := H.alloc hy hb rfl
  clear hy hb
  refine hK.out _ _ ?_; clear hK K
  (try simp only [Act.put, List.getElem_toArray, List.getElem_cons_zero, List.getElem_cons_succ, List.setIfInBounds_toArray, List.set_cons_zero, List.set_cons_succ])
  refine Kr.seqS (fun K hK => ?_)
  go_simp
  obtain ⟨y3, hy⟩ : ∃ y, y2.alloc (.cells #[.slice none 0 0] 24) = y := ⟨_, rfl⟩
  obtain ⟨br, hb⟩ : ∃ b, y2.heap.size = b := ⟨_, rfl⟩
  rw [hy, hb]
  replace H := H.alloc hy hb rfl
  clear hy hb
  refine hK.out _ _ ?_; clear hK K
  (try simp only [Act.put, List.getElem_toArray, List.getElem_cons_zero, List.getElem_cons_succ, List.setIfInBounds_toArray, List.set_cons_zero, List.set_cons_succ])
  refine Kr.seqDone ?_
  go_upto_region 1 with fail
  refine Kr.seqStart ?_
  refine Kr.seqS (fun K hK => ?_)
  go_simp
  go_at_call 38
  refine (of3_v 1 (by decide) _).mono ?_
  rintro e y4 ⟨p4, n4, c4, rfl, hr, hg⟩
  replace H := H.grow hg
  replace H := H.num hr.toNw
  clear hr hg
  refine hK.out _ _ ?_; clear hK K
  (try simp only [Act.put, List.getElem_toArray, List.getElem_cons_zero, List.getElem_cons_succ, List.setIfInBounds_toArray, List.set_cons_zero, List.set_cons_succ])
  refine Kr.seqS (fun K hK => ?_)
  go_simp
  obtain ⟨y5, hy⟩ : ∃ y, y4.alloc (.cells #[.slice none 0 0] 24) = y := ⟨_, rfl⟩
  obtain ⟨bi, hb⟩ : ∃ b, y4.heap.size = b := ⟨_, rfl⟩
  rw [hy, hb]
  replace H := H.alloc hy hb rfl
  clear hy hb
  refine hK.out _ _ ?_; clear hK K
  (try simp only [Act.put, List.getElem_toArray, List.getElem_cons_zero, List.getElem_cons_succ, List.setIfInBounds_toArray, List.set_cons_zero, List.set_cons_succ])
  have hk := H.c
  simp only [Kr.Cells] at hk
  refine Kr.seqS (fun K hK => ?_)
  go_simp
  clear hk
  obtain ⟨y6, hy⟩ : ∃ y, y5.setCell ⟨bi, 0, none⟩ (.slice p4 n4 c4) = y := ⟨_, rfl⟩
  rw [hy]
  replace H := H.store 0 hy rfl rfl
  dsimp only [List.set] at H
  clear hy
  refine hK.out _ _ ?_; clear hK K
  (try simp only [Act.put, List.getElem_toArray, List.getElem_cons_zero, List.getElem_cons_succ, List.setIfInBounds_toArray, List.set_cons_zero, List.set_cons_succ])
  refine Kr.seqDone ?_
  go_upto_region 2 with fail
  refine Kr.seqStart ?_
  refine Kr.seqS (fun K hK => ?_)
  go_simp
  obtain ⟨y7, hy⟩ : ∃ y, y6.alloc (.cells #[.slice none 0 0] 24) = y := ⟨_, rfl⟩
  obtain ⟨bo, hb⟩ : ∃ b, y6.heap.size = b := ⟨_, rfl⟩
  rw [hy, hb]
  replace H := H.alloc hy hb rfl
  clear hy hb
  refine hK.out _ _ ?_; clear hK K
  (try simp only [Act.put, List.getElem_toArray, List.getElem_cons_zero, List.getElem_cons_succ, List.setIfInBounds_toArray, List.set_cons_zero, List.set_cons_succ])
  refine Kr.seqDone ?_
  go_upto_region 3 with fail
  refine Kr.seqStart ?_
  have hk := H.c
  simp only [Kr.Cells] at hk
  iterate 2 (refine Kr.seqP (v := ?_) (by rfl) ?_ ?_; rotate_left; (focus (go_simp; first | done | rfl)); (try simp only [Act.put, List.getElem_toArray, List.getElem_cons_zero, List.getElem_cons_succ, List.setIfInBounds_toArray, List.set_cons_zero, List.set_cons_succ]))
  refine Kr.seqS (fun K hK => ?_)
  go_simp
  go_at_call 37
  refine (same3r_v (H.nw 1 rfl) (H.nw 0 rfl)).mono ?_
  rintro e y8 ⟨rfl, hg⟩
  rw [decide_eq_true rfl]
  clear hk
  replace H := H.grow hg
  clear hg
  refine hK.out _ _ ?_; clear hK K
  (try simp only [Act.put, List.getElem_toArray, List.getElem_cons_zero, List.getElem_cons_succ, List.setIfInBounds_toArray, List.set_cons_zero, List.set_cons_succ])
  refine Kr.seqDone ?_
  go_upto_region 4 with fail
  refine Kr.seqStart ?_
  have hk := H.c
  simp only [Kr.Cells] at hk
  (refine Kr.seqP (v := ?_) (by rfl) ?_ ?_; rotate_left; (focus (go_simp; first | done | rfl)); (try simp only [Act.put, List.getElem_toArray, List.getElem_cons_zero, List.getElem_cons_succ, List.setIfInBounds_toArray, List.set_cons_zero, List.set_cons_succ]))
  refine Kr.seqS (fun K hK => ?_)
  go_simp
  clear hk
  obtain ⟨y9, hy⟩ : ∃ y, y8.setCell ⟨br, 0, none⟩ (.slice none 0 0) = y := ⟨_, rfl⟩
  rw [hy]
  replace H := H.store 2 hy rfl rfl
  dsimp only [List.set] at H
  clear hy
  refine hK.out _ _ ?_; clear hK K
  (try simp only [Act.put, List.getElem_toArray, List.getElem_cons_zero, List.getElem_cons_succ, List.setIfInBounds_toArray, List.set_cons_zero, List.set_cons_succ])
  refine Kr.seqDone ?_
  have hk := H.c
  simp only [Kr.Cells] at hk
  go_wp2
  refine bodyPost_ret (v := .agg #[.slice none 0 0]) (by simp [results, Try.results47, go_sem, hk]) rfl ⟨none, 0, 0, rfl, by rw [Nat.mod_one]; exact nw_none _, H.g⟩
set_option linter.unusedSimpArgs false in
set_option maxRecDepth 100000 in
set_option maxHeartbeats 16000000 in
theorem rmod3_big {pa : Option Addr} {na ca : Nat} {pm : Option Addr} {nm cm : Nat} {x m : Nat} {w : World} (ha : Nw w pa na ca (digs x)) (hm : Nw w pm nm cm (digs m)) (vx : x < pw 1000) (h1 : 1 < m) (vm : m < pw 900) :
    Calls Try.prog 47 #[.agg #[.slice pa na ca], .agg #[.slice pm nm cm]] w (Has (x % m) w) := by
  have VX := Lib.hid vx
  have H1 := Lib.hid h1
  have VM := Lib.hid vm
  have M0 : Hid (0 < m) := Lib.hid (Nat.lt_trans Nat.zero_lt_one h1)
  clear vx h1 vm
  have H := Sta.start w
  replace H := H.num ha
  replace H := H.num hm
  go_enter Try.func47, Try.ntmps47
  go_upto_region 0 with fail
  refine Kr.seqStart ?_
  refine Kr.seqS (fun K hK => ?_)
  go_simp
  obtain ⟨y1, hy⟩ : ∃ y, w.alloc (.cells #[.slice pa na ca] 24) = y := ⟨_, rfl⟩
  obtain ⟨ba, hb⟩ : ∃ b, w.heap.size = b := ⟨_, rfl⟩
  rw [hy, hb]
  replace H := H.alloc hy hb rfl
  clear hy hb
  refine hK.out _ _ ?_; clear hK K
  (try simp only [Act.put, List.getElem_toArray, List.getElem_cons_zero, List.getElem_cons_succ, List.setIfInBounds_toArray, List.set_cons_zero, List.set_cons_succ])
  refine Kr.seqS (fun K hK => ?_)
  go_simp
  obtain ⟨y2, hy⟩ : ∃ y, y1.alloc (.cells #[.slice pm nm cm] 24) = y := ⟨_, rfl⟩
  obtain ⟨bm, hb⟩ : ∃ b, y1.heap.size = b := ⟨_, rfl⟩
  rw [hy, hb]
  replace H := H.alloc hy hb rfl
  clear hy hb
  refine hK.out _ _ ?_; clear hK K
  (try simp only [Act.put, List.getElem_toArray, List.getElem_cons_zero, List.getElem_cons_succ, List.setIfInBounds_toArray, List.set_cons_zero, List.set_cons_succ])
  refine Kr.seqS (fun K hK => ?_)
  go_simp
  obtain ⟨y3, hy⟩ : ∃ y, y2.alloc (.cells #[.slice none 0 0] 24) = y := ⟨_, rfl⟩
  obtain ⟨br, hb⟩ : ∃ b, y2.heap.size = b := ⟨_, rfl⟩
  rw [hy, hb]
  replace H := H.alloc hy hb rfl
  clear hy hb
  refine hK.out _ _ ?_; clear hK K
  (try simp only [Act.put, List.getElem_toArray, List.getElem_cons_zero, List.getElem_cons_succ, List.setIfInBounds_toArray, List.set_cons_zero, List.set_cons_succ])
  refine Kr.seqDone ?_
  go_upto_region 1 with fail
  refine Kr.seqStart ?_
  refine Kr.seqS (fun K hK => ?_)
  go_simp
  go_at_call 38
  refine (of3_v 1 (by decide) _).mono ?_
  rintro e y4 ⟨p4, n4, c4, rfl, hr, hg⟩
  replace H := H.grow hg
  replace H := H.num hr.toNw
  clear hr hg
  refine hK.out _ _ ?_; clear hK K
  (try simp only [Act.put, List.getElem_toArray, List.getElem_cons_zero, List.getElem_cons_succ, List.setIfInBounds_toArray, List.set_cons_zero, List.set_cons_succ])
  refine Kr.seqS (fun K hK => ?_)
  go_simp
  obtain ⟨y5, hy⟩ : ∃ y, y4.alloc (.cells #[.slice none 0 0] 24) = y := ⟨_, rfl⟩
  obtain ⟨bi, hb⟩ : ∃ b, y4.heap.size = b := ⟨_, rfl⟩
  rw [hy, hb]
  replace H := H.alloc hy hb rfl
  clear hy hb
  refine hK.out _ _ ?_; clear hK K
  (try simp only [Act.put, List.getElem_toArray, List.getElem_cons_zero, List.getElem_cons_succ, List.setIfInBounds_toArray, List.set_cons_zero, List.set_cons_succ])
  have hk := H.c
  simp only [Kr.Cells] at hk
  refine Kr.seqS (fun K hK => ?_)
  go_simp
  clear hk
  obtain ⟨y6, hy⟩ : ∃ y, y5.setCell ⟨bi, 0, none⟩ (.slice p4 n4 c4) = y := ⟨_, rfl⟩
  rw [hy]
  replace H := H.store 0 hy rfl rfl
  dsimp only [List.set] at H
  clear hy
  refine hK.out _ _ ?_; clear hK K
  (try simp only [Act.put, List.getElem_toArray, List.getElem_cons_zero, List.getElem_cons_succ, List.setIfInBounds_toArray, List.set_cons_zero, List.set_cons_succ])
  refine Kr.seqDone ?_
  go_upto_region 2 with fail
  refine Kr.seqStart ?_
  refine Kr.seqS (fun K hK => ?_)
  go_simp
  obtain ⟨y7, hy⟩ : ∃ y, y6.alloc (.cells #[.slice none 0 0] 24) = y := ⟨_, rfl⟩
  obtain ⟨bo, hb⟩ : ∃ b, y6.heap.size = b := ⟨_, rfl⟩
  rw [hy, hb]
  replace H := H.alloc hy hb rfl
  clear hy hb
  refine hK.out _ _ ?_; clear hK K
  (try simp only [Act.put, List.getElem_toArray, List.getElem_cons_zero, List.getElem_cons_succ, List.setIfInBounds_toArray, List.set_cons_zero, List.set_cons_succ])
  refine Kr.seqDone ?_
  go_upto_region 3 with fail
  refine Kr.seqStart ?_
  have hk := H.c
  simp only [Kr.Cells] at hk
  iterate 2 (refine Kr.seqP (v := ?_) (by rfl) ?_ ?_; rotate_left; (focus (go_simp; first | done | rfl)); (try simp only [Act.put, List.getElem_toArray, List.getElem_cons_zero, List.getElem_cons_succ, List.setIfInBounds_toArray, List.set_cons_zero, List.set_cons_succ]))
  refine Kr.seqS (fun K hK => ?_)
  go_simp
  go_at_call 37
  refine (same3r_v (H.nw 1 rfl) (H.nw 0 rfl)).mono ?_
  rintro e y8 ⟨rfl, hg⟩
  rw [decide_eq_false (Nat.ne_of_gt H1.out)]
  clear hk
  replace H := H.grow hg
  clear hg
  refine hK.out _ _ ?_; clear hK K
  (try simp only [Act.put, List.getElem_toArray, List.getElem_cons_zero, List.getElem_cons_succ, List.setIfInBounds_toArray, List.set_cons_zero, List.set_cons_succ])
  refine Kr.seqDone ?_
  obtain ⟨B, hB⟩ : ∃ B, Nv.nb (x) = B := ⟨_, rfl⟩
  have HNB := Lib.hid hB
  have hb : B ≤ 32 * 1000 := by rw [← hB]; exact nb_small VX.out
  have hW : IntKind.i64.wrap ((B : Int) - 1) = (B : Int) - 1 := IntWalk.i64_in _ (by omega)
  have HZ : Hid (x / 2 ^ B = 0) := Lib.hid (by rw [← hB]; exact nb_zero _)
  clear hB
  go_upto_region 5 with fail
  refine Kr.seqStart ?_
  have hk := H.c
  simp only [Kr.Cells] at hk
  (refine Kr.seqP (v := ?_) (by rfl) ?_ ?_; rotate_left; (focus (go_simp; first | done | rfl)); (try simp only [Act.put, List.getElem_toArray, List.getElem_cons_zero, List.getElem_cons_succ, List.setIfInBounds_toArray, List.set_cons_zero, List.set_cons_succ]))
  refine Kr.seqS (fun K hK => ?_)
  go_simp
  go_at_call 84
  refine (bits3_v _ _ _ _ _ (H.nw 2 rfl)).mono ?_
  rintro e y9 ⟨rfl, hg⟩
  rw [HNB.out]
  clear hk
  replace H := H.grow hg
  clear hg
  refine hK.out _ _ ?_; clear hK K
  (try simp only [Act.put, List.getElem_toArray, List.getElem_cons_zero, List.getElem_cons_succ, List.setIfInBounds_toArray, List.set_cons_zero, List.set_cons_succ])
  iterate 2 (refine Kr.seqP (v := ?_) (by rfl) ?_ ?_; rotate_left; (focus (go_simp; first | done | rfl)); (try simp only [Act.put, List.getElem_toArray, List.getElem_cons_zero, List.getElem_cons_succ, List.setIfInBounds_toArray, List.set_cons_zero, List.set_cons_succ]))
  refine Kr.seqDone ?_
  replace H := H.num (nw_none _)
  have H2 : Hid (Sta w y9 [(bo, 0, .slice none 0 0), (bi, 0, .slice p4 n4 c4), (br, 0, .slice none 0 0), (bm, 0, .slice pm nm cm), (ba, 0, .slice pa na ca)] [N none 0 0 (x / 2 ^ B % m), N pa na ca (x), N pm nm cm (m), N p4 n4 c4 (1)]) := Lib.hid (by rw [HZ.out, Nat.zero_mod]; exact H.pick [0, 3, 2, 1] rfl)
  go_wp2
  go_loopw [7] (fun i wr => ∃ (k : Nat) (pz0 : Option Addr) (nz0 cz0 : Nat), k ≤ B ∧ (k = 0 ∧ i = .int .i64 (-1) ∨ ∃ j : Nat, k = j + 1 ∧ i = .int .i64 (j : Int)) ∧ Hid (Sta w wr [(bo, 0, .slice pz0 nz0 cz0), (bi, 0, .slice p4 n4 c4), (br, 0, .slice none 0 0), (bm, 0, .slice pm nm cm), (ba, 0, .slice pa na ca)] [N pz0 nz0 cz0 (x / 2 ^ k % m), N pa na ca (x), N pm nm cm (m), N p4 n4 c4 (1)])) (fun i _ => (intOf i + 1).toNat)
  case atStart =>
    refine ⟨B, _, _, _, Nat.le_refl _, ?_, H2⟩
    rcases Nat.eq_zero_or_pos B with h0 | h0
    · exact .inl ⟨h0, by subst h0; rfl⟩
    · exact .inr ⟨B - 1, by omega, by congr 1; omega⟩
  case round =>
    clear H H2 hW
    obtain ⟨k, pz0, nz0, cz0, hk, hik, HH⟩ := hrel
    rcases hik with ⟨rfl, rfl⟩ | ⟨j, rfl, rfl⟩
    · have H := HH.out
      clear HH
      go_upto_region 11 with fail
      refine Kr.seqStart ?_
      have hk := H.c
      simp only [Kr.Cells] at hk
      (refine Kr.seqP (v := ?_) (by rfl) ?_ ?_; rotate_left; (focus (go_simp; first | done | rfl)); (try simp only [Act.put, List.getElem_toArray, List.getElem_cons_zero, List.getElem_cons_succ, List.setIfInBounds_toArray, List.set_cons_zero, List.set_cons_succ]))
      refine Kr.seqS (fun K hK => ?_)
      go_simp
      clear hk
      obtain ⟨y10, hy⟩ : ∃ y, wr.setCell ⟨br, 0, none⟩ (.slice pz0 nz0 cz0) = y := ⟨_, rfl⟩
      rw [hy]
      replace H := H.store 2 hy rfl rfl
      dsimp only [List.set] at H
      clear hy
      refine hK.out _ _ ?_; clear hK K
      (try simp only [Act.put, List.getElem_toArray, List.getElem_cons_zero, List.getElem_cons_succ, List.setIfInBounds_toArray, List.set_cons_zero, List.set_cons_succ])
      refine Kr.seqDone ?_
      have hk := H.c
      simp only [Kr.Cells] at hk
      go_wp2
      refine bodyPost_ret (v := .agg #[.slice pz0 nz0 cz0]) (by simp [results, Try.results47, go_sem, hk]) rfl ⟨pz0, nz0, cz0, rfl, by have h := (H.nw 0 rfl); rwa [Nat.pow_zero, Nat.div_one] at h, H.g⟩
    · have H := HH.out
      clear HH
      have hW : IntKind.i64.wrap ((j : Int) - 1) = (j : Int) - 1 := IntWalk.i64_in _ (by omega)
      have hj0 : (0 : Int) ≤ (j : Int) := by omega
      have HJ : Hid (j < 9223372036854775808) := Lib.hid (by omega)
      go_upto_region 8 with fail
      refine Kr.seqStart ?_
      have hk := H.c
      simp only [Kr.Cells] at hk
      iterate 3 (refine Kr.seqP (v := ?_) (by rfl) ?_ ?_; rotate_left; (focus (go_simp; first | done | rfl)); (try simp only [Act.put, List.getElem_toArray, List.getElem_cons_zero, List.getElem_cons_succ, List.setIfInBounds_toArray, List.set_cons_zero, List.set_cons_succ]))
      refine Kr.seqS (fun K hK => ?_)
      go_simp
      go_at_call 24
      refine (radd3_v (H.nw 0 rfl) (H.nw 0 rfl) (H.nw 2 rfl) (Nat.mod_lt _ M0.out) (Nat.mod_lt _ M0.out) VM.out).mono ?_
      rintro e y11 ⟨p11, n11, c11, rfl, hr, hg⟩
      clear hk
      replace H := H.grow hg
      replace H := H.num hr
      clear hr hg
      refine hK.out _ _ ?_; clear hK K
      (try simp only [Act.put, List.getElem_toArray, List.getElem_cons_zero, List.getElem_cons_succ, List.setIfInBounds_toArray, List.set_cons_zero, List.set_cons_succ])
      have hk := H.c
      simp only [Kr.Cells] at hk
      refine Kr.seqS (fun K hK => ?_)
      go_simp
      clear hk
      obtain ⟨y12, hy⟩ : ∃ y, y11.setCell ⟨bo, 0, none⟩ (.slice p11 n11 c11) = y := ⟨_, rfl⟩
      rw [hy]
      replace H := H.store 0 hy rfl rfl
      dsimp only [List.set] at H
      clear hy
      refine hK.out _ _ ?_; clear hK K
      (try simp only [Act.put, List.getElem_toArray, List.getElem_cons_zero, List.getElem_cons_succ, List.setIfInBounds_toArray, List.set_cons_zero, List.set_cons_succ])
      refine Kr.seqDone ?_
      cases hbt : x.testBit j with
      | false =>
        have HBT := Lib.hid hbt
        clear hbt
        go_upto_region 9 with fail
        refine Kr.seqStart ?_
        have hk := H.c
        simp only [Kr.Cells] at hk
        iterate 2 (refine Kr.seqP (v := ?_) (by rfl) ?_ ?_; rotate_left; (focus (go_simp; first | done | rfl)); (try simp only [Act.put, List.getElem_toArray, List.getElem_cons_zero, List.getElem_cons_succ, List.setIfInBounds_toArray, List.set_cons_zero, List.set_cons_succ]))
        refine Kr.seqS (fun K hK => ?_)
        go_simp
        go_at_call 85
        refine (bit3_v _ _ _ j _ _ HJ.out (H.nw 2 rfl)).mono ?_
        rintro e y13 ⟨rfl, hg⟩
        rw [HBT.out]
        clear hk
        replace H := H.grow hg
        clear hg
        refine hK.out _ _ ?_; clear hK K
        (try simp only [Act.put, List.getElem_toArray, List.getElem_cons_zero, List.getElem_cons_succ, List.setIfInBounds_toArray, List.set_cons_zero, List.set_cons_succ])
        refine Kr.seqDone ?_
        go_upto_region 7 with fail
        refine Kr.seqStart ?_
        iterate 3 (refine Kr.seqP (v := ?_) (by rfl) ?_ ?_; rotate_left; (focus (go_simp; first | done | rfl)); (try simp only [Act.put, List.getElem_toArray, List.getElem_cons_zero, List.getElem_cons_succ, List.setIfInBounds_toArray, List.set_cons_zero, List.set_cons_succ]))
        refine Kr.seqDone ?_
        go_wp2
        go_roundw
        case rel =>
          refine ⟨j, p11, n11, c11, by omega, ?_, Lib.hid (by rw [← modm_0 HBT.out]; exact H.pick [0, 2, 3, 4] rfl)⟩
          rcases Nat.eq_zero_or_pos j with h0 | h0
          · exact .inl ⟨h0, by subst h0; rfl⟩
          · exact .inr ⟨j - 1, by omega, by congr 1; omega⟩
        case measure => (simp [intOf] <;> omega)
      | true =>
        have HBT := Lib.hid hbt
        clear hbt
        go_upto_region 9 with fail
        refine Kr.seqStart ?_
        have hk := H.c
        simp only [Kr.Cells] at hk
        iterate 2 (refine Kr.seqP (v := ?_) (by rfl) ?_ ?_; rotate_left; (focus (go_simp; first | done | rfl)); (try simp only [Act.put, List.getElem_toArray, List.getElem_cons_zero, List.getElem_cons_succ, List.setIfInBounds_toArray, List.set_cons_zero, List.set_cons_succ]))
        refine Kr.seqS (fun K hK => ?_)
        go_simp
        go_at_call 85
        refine (bit3_v _ _ _ j _ _ HJ.out (H.nw 2 rfl)).mono ?_
        rintro e y14 ⟨rfl, hg⟩
        rw [HBT.out]
        clear hk
        replace H := H.grow hg
        clear hg
        refine hK.out _ _ ?_; clear hK K
        (try simp only [Act.put, List.getElem_toArray, List.getElem_cons_zero, List.getElem_cons_succ, List.setIfInBounds_toArray, List.set_cons_zero, List.set_cons_succ])
        refine Kr.seqDone ?_
        go_upto_region 10 with fail
        refine Kr.seqStart ?_
        have hk := H.c
        simp only [Kr.Cells] at hk
        iterate 3 (refine Kr.seqP (v := ?_) (by rfl) ?_ ?_; rotate_left; (focus (go_simp; first | done | rfl)); (try simp only [Act.put, List.getElem_toArray, List.getElem_cons_zero, List.getElem_cons_succ, List.setIfInBounds_toArray, List.set_cons_zero, List.set_cons_succ]))
        refine Kr.seqS (fun K hK => ?_)
        go_simp
        go_at_call 24
        refine (radd3_v (H.nw 0 rfl) (H.nw 4 rfl) (H.nw 3 rfl) (Nat.mod_lt _ M0.out) H1.out VM.out).mono ?_
        rintro e y15 ⟨p15, n15, c15, rfl, hr, hg⟩
        clear hk
        replace H := H.grow hg
        replace H := H.num hr
        clear hr hg
        refine hK.out _ _ ?_; clear hK K
        (try simp only [Act.put, List.getElem_toArray, List.getElem_cons_zero, List.getElem_cons_succ, List.setIfInBounds_toArray, List.set_cons_zero, List.set_cons_succ])
        have hk := H.c
        simp only [Kr.Cells] at hk
        refine Kr.seqS (fun K hK => ?_)
        go_simp
        clear hk
        obtain ⟨y16, hy⟩ : ∃ y, y15.setCell ⟨bo, 0, none⟩ (.slice p15 n15 c15) = y := ⟨_, rfl⟩
        rw [hy]
        replace H := H.store 0 hy rfl rfl
        dsimp only [List.set] at H
        clear hy
        refine hK.out _ _ ?_; clear hK K
        (try simp only [Act.put, List.getElem_toArray, List.getElem_cons_zero, List.getElem_cons_succ, List.setIfInBounds_toArray, List.set_cons_zero, List.set_cons_succ])
        refine Kr.seqDone ?_
        go_upto_region 7 with fail
        refine Kr.seqStart ?_
        iterate 3 (refine Kr.seqP (v := ?_) (by rfl) ?_ ?_; rotate_left; (focus (go_simp; first | done | rfl)); (try simp only [Act.put, List.getElem_toArray, List.getElem_cons_zero, List.getElem_cons_succ, List.setIfInBounds_toArray, List.set_cons_zero, List.set_cons_succ]))
        refine Kr.seqDone ?_
        go_wp2
        go_roundw
        case rel =>
          refine ⟨j, p15, n15, c15, by omega, ?_, Lib.hid (by rw [← modm_1 HBT.out]; exact H.pick [0, 3, 4, 5] rfl)⟩
          rcases Nat.eq_zero_or_pos j with h0 | h0
          · exact .inl ⟨h0, by subst h0; rfl⟩
          · exact .inr ⟨j - 1, by omega, by congr 1; omega⟩
        case measure => (simp [intOf] <;> omega)
theorem rmod3_v {pa : Option Addr} {na ca : Nat} {pm : Option Addr} {nm cm : Nat} {x m : Nat} {w : World} (ha : Nw w pa na ca (digs x)) (hm : Nw w pm nm cm (digs m)) (vx : x < pw 1000) (h0 : 0 < m) (vm : m < pw 900) :
    Calls Try.prog 47 #[.agg #[.slice pa na ca], .agg #[.slice pm nm cm]] w (Has (x % m) w) := by
  by_cases h1 : m = 1
  · subst h1; exact rmod3_one ha hm
  · exact rmod3_big ha hm vx (by omega) vm
set_option linter.unusedSimpArgs false in
set_option maxRecDepth 100000 in
set_option maxHeartbeats 16000000 in
theorem rpow3_v {pa : Option Addr} {na ca : Nat} {pe : Option Addr} {ne ce : Nat} {pm : Option Addr} {nm cm : Nat} {x e m : Nat} {w : World} (ha : Nw w pa na ca (digs x)) (he : Nw w pe ne ce (digs e)) (hm : Nw w pm nm cm (digs m)) (hx : x < m) (ve : e < pw 1000) (vm : m < pw 900) :
    Calls Try.prog 30 #[.agg #[.slice pa na ca], .agg #[.slice pe ne ce], .agg #[.slice pm nm cm]] w (Has (x ^ e % m) w) := by
  have HX := Lib.hid hx
  have VE := Lib.hid ve
  have VM := Lib.hid vm
  have M0 : Hid (0 < m) := Lib.hid (Nat.lt_of_le_of_lt (Nat.zero_le _) hx)
  clear hx ve vm
  have H := Sta.start w
  replace H := H.num ha
  replace H := H.num he
  replace H := H.num hm
  go_enter Try.func30, Try.ntmps30
  go_upto_region 0 with fail
  refine Kr.seqStart ?_
  refine Kr.seqS (fun K hK => ?_)
  go_simp
  obtain ⟨y1, hy⟩ : ∃ y, w.alloc (.cells #[.slice pa na ca] 24) = y := ⟨_, rfl⟩
  obtain ⟨ba, hb⟩ : ∃ b, w.heap.size = b := ⟨_, rfl⟩
  rw [hy, hb]
  replace H := H.alloc hy hb rfl
  clear hy hb
  refine hK.out _ _ ?_; clear hK K
  (try simp only [Act.put, List.getElem_toArray, List.getElem_cons_zero, List.getElem_cons_succ, List.setIfInBounds_toArray, List.set_cons_zero, List.set_cons_succ])
  refine Kr.seqS (fun K hK => ?_)
  go_simp
  obtain ⟨y2, hy⟩ : ∃ y, y1.alloc (.cells #[.slice pe ne ce] 24) = y := ⟨_, rfl⟩
  obtain ⟨be, hb⟩ : ∃ b, y1.heap.size = b := ⟨_, rfl⟩
  rw [hy, hb]
  replace H := H.alloc hy hb rfl
  clear hy hb
  refine hK.out _ _ ?_; clear hK K
  (try simp only [Act.put, List.getElem_toArray, List.getElem_cons_zero, List.getElem_cons_succ, List.setIfInBounds_toArray, List.set_cons_zero, List.set_cons_succ])
  refine Kr.seqS (fun K hK => ?_)
  go_simp
  obtain ⟨y3, hy⟩ : ∃ y, y2.alloc (.cells #[.slice pm nm cm] 24) = y := ⟨_, rfl⟩
  obtain ⟨bm, hb⟩ : ∃ b, y2.heap.size = b := ⟨_, rfl⟩
  rw [hy, hb]
  replace H := H.alloc hy hb rfl
  clear hy hb
  refine hK.out _ _ ?_; clear hK K
  (try simp only [Act.put, List.getElem_toArray, List.getElem_cons_zero, List.getElem_cons_succ, List.setIfInBounds_toArray, List.set_cons_zero, List.set_cons_succ])
  refine Kr.seqS (fun K hK => ?_)
  go_simp
  obtain ⟨y4, hy⟩ : ∃ y, y3.alloc (.cells #[.slice none 0 0] 24) = y := ⟨_, rfl⟩
  obtain ⟨br, hb⟩ : ∃ b, y3.heap.size = b := ⟨_, rfl⟩
  rw [hy, hb]
  replace H := H.alloc hy hb rfl
  clear hy hb
  refine hK.out _ _ ?_; clear hK K
  (try simp only [Act.put, List.getElem_toArray, List.getElem_cons_zero, List.getElem_cons_succ, List.setIfInBounds_toArray, List.set_cons_zero, List.set_cons_succ])
  refine Kr.seqDone ?_
  go_upto_region 1 with fail
  go_cut [7] from 9 to 11 (fun s7 W => ∃ (bo : Nat) (p15 : Option Addr) (n15 c15 : Nat) (p14 : Option Addr) (n14 c14 : Nat), s7 = .pointer (some ⟨bo, 0, none⟩) ∧ Hid (Sta w W [(bo, 0, .slice p15 n15 c15), (br, 0, .slice none 0 0), (bm, 0, .slice pm nm cm), (be, 0, .slice pe ne ce), (ba, 0, .slice pa na ca)] [N p15 n15 c15 (1 % m), N p14 n14 c14 (1), N pm nm cm (m), N pe ne ce (e), N pa na ca (x)]))
  case first =>
    refine Kr.startL (fun W' => Kr.Cells W' [(bm, 0, .slice pm nm cm)]) [] (by kernel_rfl) ?_
    have gd : Gr y4 y4.drew := (Gr.refl _).drew
    generalize y4.drew = d5 at gd ⊢
    replace H := H.grow gd
    clear gd
    (refine Kr.tS 1 [] (v := ?_) rfl (by kernel_rfl) (fun _ _ _ h => h) (by rfl) (H.sub [1] rfl) (fun wx hSx => ?_) ?_; rotate_left; (focus (simp only [Kr.Cells] at hSx; go_simp; first | done | rfl)); (try simp only [Act.put, List.getElem_toArray, List.getElem_cons_zero, List.getElem_cons_succ, List.setIfInBounds_toArray, List.set_cons_zero, List.set_cons_succ]))
    refine Kr.readyL (rs := [0, 3]) (by kernel_rfl) (by simp) ?_
    refine Kr.AllL.cons rfl (fun K hK => ?_) ?_
    · go_simp
      go_at_call 38
      refine (of3_v 1 (by decide) _).mono ?_
      rintro e y6 ⟨p6, n6, c6, rfl, hr, hg⟩
      replace H := H.grow hg
      replace H := H.num hr.toNw
      clear hr hg
      refine hK.out _ _ (fun _ => (H.sub [1] rfl)) ?_; clear hK K
      (try simp only [Act.put, List.getElem_toArray, List.getElem_cons_zero, List.getElem_cons_succ, List.setIfInBounds_toArray, List.set_cons_zero, List.set_cons_succ])
      refine Kr.readyL (rs := [2, 3]) (by kernel_rfl) (by simp) ?_
      refine Kr.AllL.cons rfl (fun K hK => ?_) ?_
      · go_simp
        go_at_call 47
        refine (rmod3_v (H.nw 0 rfl) (H.nw 1 rfl) (pw_pos' 999) M0.out VM.out).mono ?_
        rintro e y7 ⟨p7, n7, c7, rfl, hr, hg⟩
        replace H := H.grow hg
        replace H := H.num hr
        clear hr hg
        refine hK.out _ _ (fun _ => (H.sub [1] rfl)) ?_; clear hK K
        (try simp only [Act.put, List.getElem_toArray, List.getElem_cons_zero, List.getElem_cons_succ, List.setIfInBounds_toArray, List.set_cons_zero, List.set_cons_succ])
        refine Kr.readyL (rs := [3]) (by kernel_rfl) (by simp) ?_
        refine Kr.AllL.cons rfl (fun K hK => ?_) Kr.AllL.nil
        go_simp
        obtain ⟨y8, hy⟩ : ∃ y, y7.alloc (.cells #[.slice none 0 0] 24) = y := ⟨_, rfl⟩
        obtain ⟨bo, hb⟩ : ∃ b, y7.heap.size = b := ⟨_, rfl⟩
        rw [hy, hb]
        replace H := H.alloc hy hb rfl
        clear hy hb
        refine hK.out _ _ (fun _ => (H.sub [2] rfl)) ?_; clear hK K
        (try simp only [Act.put, List.getElem_toArray, List.getElem_cons_zero, List.getElem_cons_succ, List.setIfInBounds_toArray, List.set_cons_zero, List.set_cons_succ])
        refine Kr.readyL (rs := [4]) (by kernel_rfl) (by simp) ?_
        refine Kr.AllL.cons rfl (fun K hK => ?_) Kr.AllL.nil
        have hk := H.c
        simp only [Kr.Cells] at hk
        go_simp
        clear hk
        obtain ⟨y9, hy⟩ : ∃ y, y8.setCell ⟨bo, 0, none⟩ (.slice p7 n7 c7) = y := ⟨_, rfl⟩
        rw [hy]
        replace H := H.store 0 hy rfl rfl
        dsimp only [List.set] at H
        clear hy
        refine hK.out _ _ (fun _ => (H.sub [2] rfl)) ?_; clear hK K
        (try simp only [Act.put, List.getElem_toArray, List.getElem_cons_zero, List.getElem_cons_succ, List.setIfInBounds_toArray, List.set_cons_zero, List.set_cons_succ])
        refine Kr.doneL (by kernel_rfl) ?_ _
        go_wp2_with fail
        go_meet
        exact ⟨_, _, _, _, _, _, _, rfl, Lib.hid H⟩
      refine Kr.AllL.cons rfl (fun K hK => ?_) Kr.AllL.nil
      go_simp
      obtain ⟨y10, hy⟩ : ∃ y, y6.alloc (.cells #[.slice none 0 0] 24) = y := ⟨_, rfl⟩
      obtain ⟨bo, hb⟩ : ∃ b, y6.heap.size = b := ⟨_, rfl⟩
      rw [hy, hb]
      replace H := H.alloc hy hb rfl
      clear hy hb
      refine hK.out _ _ (fun _ => (H.sub [2] rfl)) ?_; clear hK K
      (try simp only [Act.put, List.getElem_toArray, List.getElem_cons_zero, List.getElem_cons_succ, List.setIfInBounds_toArray, List.set_cons_zero, List.set_cons_succ])
      refine Kr.readyL (rs := [2]) (by kernel_rfl) (by simp) ?_
      refine Kr.AllL.cons rfl (fun K hK => ?_) Kr.AllL.nil
      go_simp
      go_at_call 47
      refine (rmod3_v (H.nw 0 rfl) (H.nw 1 rfl) (pw_pos' 999) M0.out VM.out).mono ?_
      rintro e y11 ⟨p11, n11, c11, rfl, hr, hg⟩
      replace H := H.grow hg
      replace H := H.num hr
      clear hr hg
      refine hK.out _ _ (fun _ => (H.sub [2] rfl)) ?_; clear hK K
      (try simp only [Act.put, List.getElem_toArray, List.getElem_cons_zero, List.getElem_cons_succ, List.setIfInBounds_toArray, List.set_cons_zero, List.set_cons_succ])
      refine Kr.readyL (rs := [4]) (by kernel_rfl) (by simp) ?_
      refine Kr.AllL.cons rfl (fun K hK => ?_) Kr.AllL.nil
      have hk := H.c
      simp only [Kr.Cells] at hk
      go_simp
      clear hk
      obtain ⟨y12, hy⟩ : ∃ y, y11.setCell ⟨bo, 0, none⟩ (.slice p11 n11 c11) = y := ⟨_, rfl⟩
      rw [hy]
      replace H := H.store 0 hy rfl rfl
      dsimp only [List.set] at H
      clear hy
      refine hK.out _ _ (fun _ => (H.sub [2] rfl)) ?_; clear hK K
      (try simp only [Act.put, List.getElem_toArray, List.getElem_cons_zero, List.getElem_cons_succ, List.setIfInBounds_toArray, List.set_cons_zero, List.set_cons_succ])
      refine Kr.doneL (by kernel_rfl) ?_ _
      go_wp2_with fail
      go_meet
      exact ⟨_, _, _, _, _, _, _, rfl, Lib.hid H⟩
    refine Kr.AllL.cons rfl (fun K hK => ?_) Kr.AllL.nil
    go_simp
    obtain ⟨y13, hy⟩ : ∃ y, d5.alloc (.cells #[.slice none 0 0] 24) = y := ⟨_, rfl⟩
    obtain ⟨bo, hb⟩ : ∃ b, d5.heap.size = b := ⟨_, rfl⟩
    rw [hy, hb]
    replace H := H.alloc hy hb rfl
    clear hy hb
    refine hK.out _ _ (fun _ => (H.sub [2] rfl)) ?_; clear hK K
    (try simp only [Act.put, List.getElem_toArray, List.getElem_cons_zero, List.getElem_cons_succ, List.setIfInBounds_toArray, List.set_cons_zero, List.set_cons_succ])
    refine Kr.readyL (rs := [0]) (by kernel_rfl) (by simp) ?_
    refine Kr.AllL.cons rfl (fun K hK => ?_) Kr.AllL.nil
    go_simp
    go_at_call 38
    refine (of3_v 1 (by decide) _).mono ?_
    rintro e y14 ⟨p14, n14, c14, rfl, hr, hg⟩
    replace H := H.grow hg
    replace H := H.num hr.toNw
    clear hr hg
    refine hK.out _ _ (fun _ => (H.sub [2] rfl)) ?_; clear hK K
    (try simp only [Act.put, List.getElem_toArray, List.getElem_cons_zero, List.getElem_cons_succ, List.setIfInBounds_toArray, List.set_cons_zero, List.set_cons_succ])
    refine Kr.readyL (rs := [2]) (by kernel_rfl) (by simp) ?_
    refine Kr.AllL.cons rfl (fun K hK => ?_) Kr.AllL.nil
    go_simp
    go_at_call 47
    refine (rmod3_v (H.nw 0 rfl) (H.nw 1 rfl) (pw_pos' 999) M0.out VM.out).mono ?_
    rintro e y15 ⟨p15, n15, c15, rfl, hr, hg⟩
    replace H := H.grow hg
    replace H := H.num hr
    clear hr hg
    refine hK.out _ _ (fun _ => (H.sub [2] rfl)) ?_; clear hK K
    (try simp only [Act.put, List.getElem_toArray, List.getElem_cons_zero, List.getElem_cons_succ, List.setIfInBounds_toArray, List.set_cons_zero, List.set_cons_succ])
    refine Kr.readyL (rs := [4]) (by kernel_rfl) (by simp) ?_
    refine Kr.AllL.cons rfl (fun K hK => ?_) Kr.AllL.nil
    have hk := H.c
    simp only [Kr.Cells] at hk
    go_simp
    clear hk
    obtain ⟨y16, hy⟩ : ∃ y, y15.setCell ⟨bo, 0, none⟩ (.slice p15 n15 c15) = y := ⟨_, rfl⟩
    rw [hy]
    replace H := H.store 0 hy rfl rfl
    dsimp only [List.set] at H
    clear hy
    refine hK.out _ _ (fun _ => (H.sub [2] rfl)) ?_; clear hK K
    (try simp only [Act.put, List.getElem_toArray, List.getElem_cons_zero, List.getElem_cons_succ, List.setIfInBounds_toArray, List.set_cons_zero, List.set_cons_succ])
    refine Kr.doneL (by kernel_rfl) ?_ _
    go_wp2_with fail
    go_meet
    exact ⟨_, _, _, _, _, _, _, rfl, Lib.hid H⟩
  case rest =>
    clear H
    obtain ⟨bo, p15, n15, c15, p14, n14, c14, rfl, HH⟩ := hcut
    have H := HH.out
    clear HH
    obtain ⟨B, hB⟩ : ∃ B, Nv.nb (e) = B := ⟨_, rfl⟩
    have HNB := Lib.hid hB
    have hb : B ≤ 32 * 1000 := by rw [← hB]; exact nb_small VE.out
    have hW : IntKind.i64.wrap ((B : Int) - 1) = (B : Int) - 1 := IntWalk.i64_in _ (by omega)
    have HZ : Hid (e / 2 ^ B = 0) := Lib.hid (by rw [← hB]; exact nb_zero _)
    clear hB
    go_upto_region 2 with fail
    refine Kr.seqStart ?_
    have hk := H.c
    simp only [Kr.Cells] at hk
    (refine Kr.seqP (v := ?_) (by rfl) ?_ ?_; rotate_left; (focus (go_simp; first | done | rfl)); (try simp only [Act.put, List.getElem_toArray, List.getElem_cons_zero, List.getElem_cons_succ, List.setIfInBounds_toArray, List.set_cons_zero, List.set_cons_succ]))
    refine Kr.seqS (fun K hK => ?_)
    go_simp
    go_at_call 84
    refine (bits3_v _ _ _ _ _ (H.nw 3 rfl)).mono ?_
    rintro e y17 ⟨rfl, hg⟩
    rw [HNB.out]
    clear hk
    replace H := H.grow hg
    clear hg
    refine hK.out _ _ ?_; clear hK K
    (try simp only [Act.put, List.getElem_toArray, List.getElem_cons_zero, List.getElem_cons_succ, List.setIfInBounds_toArray, List.set_cons_zero, List.set_cons_succ])
    iterate 2 (refine Kr.seqP (v := ?_) (by rfl) ?_ ?_; rotate_left; (focus (go_simp; first | done | rfl)); (try simp only [Act.put, List.getElem_toArray, List.getElem_cons_zero, List.getElem_cons_succ, List.setIfInBounds_toArray, List.set_cons_zero, List.set_cons_succ]))
    refine Kr.seqDone ?_
    have H2 : Hid (Sta w y17 [(bo, 0, .slice p15 n15 c15), (br, 0, .slice none 0 0), (bm, 0, .slice pm nm cm), (be, 0, .slice pe ne ce), (ba, 0, .slice pa na ca)] [N p15 n15 c15 (x ^ (e / 2 ^ B) % m), N pa na ca (x), N pe ne ce (e), N pm nm cm (m)]) := Lib.hid (by rw [HZ.out, Nat.pow_zero]; exact H.pick [0, 4, 3, 2] rfl)
    go_wp2
    go_loopw [8] (fun i wr => ∃ (k : Nat) (pz0 : Option Addr) (nz0 cz0 : Nat), k ≤ B ∧ (k = 0 ∧ i = .int .i64 (-1) ∨ ∃ j : Nat, k = j + 1 ∧ i = .int .i64 (j : Int)) ∧ Hid (Sta w wr [(bo, 0, .slice pz0 nz0 cz0), (br, 0, .slice none 0 0), (bm, 0, .slice pm nm cm), (be, 0, .slice pe ne ce), (ba, 0, .slice pa na ca)] [N pz0 nz0 cz0 (x ^ (e / 2 ^ k) % m), N pa na ca (x), N pe ne ce (e), N pm nm cm (m)])) (fun i _ => (intOf i + 1).toNat)
    case atStart =>
      refine ⟨B, _, _, _, Nat.le_refl _, ?_, H2⟩
      rcases Nat.eq_zero_or_pos B with h0 | h0
      · exact .inl ⟨h0, by subst h0; rfl⟩
      · exact .inr ⟨B - 1, by omega, by congr 1; omega⟩
    case round =>
      clear H H2 hW
      obtain ⟨k, pz0, nz0, cz0, hk, hik, HH⟩ := hrel
      rcases hik with ⟨rfl, rfl⟩ | ⟨j, rfl, rfl⟩
      · have H := HH.out
        clear HH
        go_upto_region 8 with fail
        refine Kr.seqStart ?_
        have hk := H.c
        simp only [Kr.Cells] at hk
        (refine Kr.seqP (v := ?_) (by rfl) ?_ ?_; rotate_left; (focus (go_simp; first | done | rfl)); (try simp only [Act.put, List.getElem_toArray, List.getElem_cons_zero, List.getElem_cons_succ, List.setIfInBounds_toArray, List.set_cons_zero, List.set_cons_succ]))
        refine Kr.seqS (fun K hK => ?_)
        go_simp
        clear hk
        obtain ⟨y18, hy⟩ : ∃ y, wr.setCell ⟨br, 0, none⟩ (.slice pz0 nz0 cz0) = y := ⟨_, rfl⟩
        rw [hy]
        replace H := H.store 1 hy rfl rfl
        dsimp only [List.set] at H
        clear hy
        refine hK.out _ _ ?_; clear hK K
        (try simp only [Act.put, List.getElem_toArray, List.getElem_cons_zero, List.getElem_cons_succ, List.setIfInBounds_toArray, List.set_cons_zero, List.set_cons_succ])
        refine Kr.seqDone ?_
        have hk := H.c
        simp only [Kr.Cells] at hk
        go_wp2
        refine bodyPost_ret (v := .agg #[.slice pz0 nz0 cz0]) (by simp [results, Try.results30, go_sem, hk]) rfl ⟨pz0, nz0, cz0, rfl, by have h := (H.nw 0 rfl); rwa [Nat.pow_zero, Nat.div_one] at h, H.g⟩
      · have H := HH.out
        clear HH
        have hW : IntKind.i64.wrap ((j : Int) - 1) = (j : Int) - 1 := IntWalk.i64_in _ (by omega)
        have hj0 : (0 : Int) ≤ (j : Int) := by omega
        have HJ : Hid (j < 9223372036854775808) := Lib.hid (by omega)
        go_upto_region 5 with fail
        refine Kr.seqStart ?_
        have hk := H.c
        simp only [Kr.Cells] at hk
        iterate 3 (refine Kr.seqP (v := ?_) (by rfl) ?_ ?_; rotate_left; (focus (go_simp; first | done | rfl)); (try simp only [Act.put, List.getElem_toArray, List.getElem_cons_zero, List.getElem_cons_succ, List.setIfInBounds_toArray, List.set_cons_zero, List.set_cons_succ]))
        refine Kr.seqS (fun K hK => ?_)
        go_simp
        go_at_call 28
        refine (rmul3_v (H.nw 0 rfl) (H.nw 0 rfl) (H.nw 3 rfl) (Nat.mod_lt _ M0.out) (Nat.mod_lt _ M0.out) VM.out).mono ?_
        rintro e y19 ⟨p19, n19, c19, rfl, hr, hg⟩
        clear hk
        replace H := H.grow hg
        replace H := H.num hr
        clear hr hg
        refine hK.out _ _ ?_; clear hK K
        (try simp only [Act.put, List.getElem_toArray, List.getElem_cons_zero, List.getElem_cons_succ, List.setIfInBounds_toArray, List.set_cons_zero, List.set_cons_succ])
        have hk := H.c
        simp only [Kr.Cells] at hk
        refine Kr.seqS (fun K hK => ?_)
        go_simp
        clear hk
        obtain ⟨y20, hy⟩ : ∃ y, y19.setCell ⟨bo, 0, none⟩ (.slice p19 n19 c19) = y := ⟨_, rfl⟩
        rw [hy]
        replace H := H.store 0 hy rfl rfl
        dsimp only [List.set] at H
        clear hy
        refine hK.out _ _ ?_; clear hK K
        (try simp only [Act.put, List.getElem_toArray, List.getElem_cons_zero, List.getElem_cons_succ, List.setIfInBounds_toArray, List.set_cons_zero, List.set_cons_succ])
        refine Kr.seqDone ?_
        cases hbt : e.testBit j with
        | false =>
          have HBT := Lib.hid hbt
          clear hbt
          go_upto_region 6 with fail
          refine Kr.seqStart ?_
          have hk := H.c
          simp only [Kr.Cells] at hk
          iterate 2 (refine Kr.seqP (v := ?_) (by rfl) ?_ ?_; rotate_left; (focus (go_simp; first | done | rfl)); (try simp only [Act.put, List.getElem_toArray, List.getElem_cons_zero, List.getElem_cons_succ, List.setIfInBounds_toArray, List.set_cons_zero, List.set_cons_succ]))
          refine Kr.seqS (fun K hK => ?_)
          go_simp
          go_at_call 85
          refine (bit3_v _ _ _ j _ _ HJ.out (H.nw 3 rfl)).mono ?_
          rintro e y21 ⟨rfl, hg⟩
          rw [HBT.out]
          clear hk
          replace H := H.grow hg
          clear hg
          refine hK.out _ _ ?_; clear hK K
          (try simp only [Act.put, List.getElem_toArray, List.getElem_cons_zero, List.getElem_cons_succ, List.setIfInBounds_toArray, List.set_cons_zero, List.set_cons_succ])
          refine Kr.seqDone ?_
          go_upto_region 4 with fail
          refine Kr.seqStart ?_
          iterate 3 (refine Kr.seqP (v := ?_) (by rfl) ?_ ?_; rotate_left; (focus (go_simp; first | done | rfl)); (try simp only [Act.put, List.getElem_toArray, List.getElem_cons_zero, List.getElem_cons_succ, List.setIfInBounds_toArray, List.set_cons_zero, List.set_cons_succ]))
          refine Kr.seqDone ?_
          go_wp2
          go_roundw
          case rel =>
            refine ⟨j, p19, n19, c19, by omega, ?_, Lib.hid (by rw [← pow_0 HBT.out]; exact H.pick [0, 2, 3, 4] rfl)⟩
            rcases Nat.eq_zero_or_pos j with h0 | h0
            · exact .inl ⟨h0, by subst h0; rfl⟩
            · exact .inr ⟨j - 1, by omega, by congr 1; omega⟩
          case measure => (simp [intOf] <;> omega)
        | true =>
          have HBT := Lib.hid hbt
          clear hbt
          go_upto_region 6 with fail
          refine Kr.seqStart ?_
          have hk := H.c
          simp only [Kr.Cells] at hk
          iterate 2 (refine Kr.seqP (v := ?_) (by rfl) ?_ ?_; rotate_left; (focus (go_simp; first | done | rfl)); (try simp only [Act.put, List.getElem_toArray, List.getElem_cons_zero, List.getElem_cons_succ, List.setIfInBounds_toArray, List.set_cons_zero, List.set_cons_succ]))
          refine Kr.seqS (fun K hK => ?_)
          go_simp
          go_at_call 85
          refine (bit3_v _ _ _ j _ _ HJ.out (H.nw 3 rfl)).mono ?_
          rintro e y22 ⟨rfl, hg⟩
          rw [HBT.out]
          clear hk
          replace H := H.grow hg
          clear hg
          refine hK.out _ _ ?_; clear hK K
          (try simp only [Act.put, List.getElem_toArray, List.getElem_cons_zero, List.getElem_cons_succ, List.setIfInBounds_toArray, List.set_cons_zero, List.set_cons_succ])
          refine Kr.seqDone ?_
          go_upto_region 7 with fail
          refine Kr.seqStart ?_
          have hk := H.c
          simp only [Kr.Cells] at hk
          iterate 3 (refine Kr.seqP (v := ?_) (by rfl) ?_ ?_; rotate_left; (focus (go_simp; first | done | rfl)); (try simp only [Act.put, List.getElem_toArray, List.getElem_cons_zero, List.getElem_cons_succ, List.setIfInBounds_toArray, List.set_cons_zero, List.set_cons_succ]))
          refine Kr.seqS (fun K hK => ?_)
          go_simp
          go_at_call 28
          refine (rmul3_v (H.nw 0 rfl) (H.nw 2 rfl) (H.nw 4 rfl) (Nat.mod_lt _ M0.out) HX.out VM.out).mono ?_
          rintro e y23 ⟨p23, n23, c23, rfl, hr, hg⟩
          clear hk
          replace H := H.grow hg
          replace H := H.num hr
          clear hr hg
          refine hK.out _ _ ?_; clear hK K
          (try simp only [Act.put, List.getElem_toArray, List.getElem_cons_zero, List.getElem_cons_succ, List.setIfInBounds_toArray, List.set_cons_zero, List.set_cons_succ])
          have hk := H.c
          simp only [Kr.Cells] at hk
          refine Kr.seqS (fun K hK => ?_)
          go_simp
          clear hk
          obtain ⟨y24, hy⟩ : ∃ y, y23.setCell ⟨bo, 0, none⟩ (.slice p23 n23 c23) = y := ⟨_, rfl⟩
          rw [hy]
          replace H := H.store 0 hy rfl rfl
          dsimp only [List.set] at H
          clear hy
          refine hK.out _ _ ?_; clear hK K
          (try simp only [Act.put, List.getElem_toArray, List.getElem_cons_zero, List.getElem_cons_succ, List.setIfInBounds_toArray, List.set_cons_zero, List.set_cons_succ])
          refine Kr.seqDone ?_
          go_upto_region 4 with fail
          refine Kr.seqStart ?_
          iterate 3 (refine Kr.seqP (v := ?_) (by rfl) ?_ ?_; rotate_left; (focus (go_simp; first | done | rfl)); (try simp only [Act.put, List.getElem_toArray, List.getElem_cons_zero, List.getElem_cons_succ, List.setIfInBounds_toArray, List.set_cons_zero, List.set_cons_succ]))
          refine Kr.seqDone ?_
          go_wp2
          go_roundw
          case rel =>
            refine ⟨j, p23, n23, c23, by omega, ?_, Lib.hid (by rw [← pow_1 HBT.out]; exact H.pick [0, 3, 4, 5] rfl)⟩
            rcases Nat.eq_zero_or_pos j with h0 | h0
            · exact .inl ⟨h0, by subst h0; rfl⟩
            · exact .inr ⟨j - 1, by omega, by congr 1; omega⟩
          case measure => (simp [intOf] <;> omega)
end Go.Proofs.Ytlciocebbckdcaa.Mr


/- The contracts of the third reference's Times, Over, Gcd. -/
namespace Go.Proofs.Ytlciocebbckdcaa.Mr
open Go.RowKit Go.Shelf Go.Proofs.Ytlciocebbckdcaa.Nm Go.Proofs.Ytlciocebbckdcaa.Ne Go.Proofs.Ytlciocebbckdcaa.Nf Go.Proofs.Ytlciocebbckdcaa.Nk Go.Proofs.Ytlciocebbckdcaa.Nv Go.Proofs.Ytlciocebbckdcaa.Nr2 Go.Proofs.Ytlciocebbckdcaa.Mo Go.Proofs.Ytlciocebbckdcaa.Mr Go.Proofs.Ytlciocebbckdcaa.Kr

set_option linter.unusedSimpArgs false in
set_option maxRecDepth 100000 in
set_option maxHeartbeats 16000000 in
theorem rtimes3_v {pa : Option Addr} {na ca : Nat} {pb : Option Addr} {nb cb : Nat} {x y : Nat} {w : World} (ha : Nw w pa na ca (digs x)) (hb : Nw w pb nb cb (digs y)) (vx : x < pw 900) (vy : y < pw 1000) (vxy : x * y < pw 900) :
    Calls Try.prog 44 #[.agg #[.slice pa na ca], .agg #[.slice pb nb cb]] w (Has (x * y) w) := by
  have VY := Lib.hid vy
  have HNT : ∀ (j z : Nat) (W : World) (p : Option Addr) (n c : Nat), Nw W p n c (digs z) → z ≤ x * (y / 2 ^ j) → n ≤ 1000 := fun j z W p n c h hz => Nat.le_trans (nw_small (K := 900) h (Nat.lt_of_le_of_lt (Nat.le_trans hz (Nat.mul_le_mul_left x (Nat.div_le_self _ _))) vxy)) (by decide)
  replace HNT := Lib.hid HNT
  have hna : na ≤ 1000 := Nat.le_trans (nw_small ha vx) (by decide)
  clear vy vxy vx
  have H := Sta.start w
  replace H := H.num ha
  replace H := H.num hb
  go_enter Try.func44, Try.ntmps44
  obtain ⟨B, hB⟩ : ∃ B, Nv.nb (y) = B := ⟨_, rfl⟩
  have HNB := Lib.hid hB
  have hb : B ≤ 32 * 1000 := by rw [← hB]; exact nb_small VY.out
  have hW : IntKind.i64.wrap ((B : Int) - 1) = (B : Int) - 1 := IntWalk.i64_in _ (by omega)
  have HZ : Hid (y / 2 ^ B = 0) := Lib.hid (by rw [← hB]; exact nb_zero _)
  clear hB
  go_upto_region 0 with fail
  refine Kr.seqStart ?_
  refine Kr.seqS (fun K hK => ?_)
  go_simp
  obtain ⟨y1, hy⟩ : ∃ y, w.alloc (.cells #[.slice pa na ca] 24) = y := ⟨_, rfl⟩
  obtain ⟨ba, hb⟩ : ∃ b, w.heap.size = b := ⟨_, rfl⟩
  rw [hy, hb]
  replace H := H.alloc hy hb rfl
  clear hy hb
  refine hK.out _ _ ?_; clear hK K
  (try simp only [Act.put, List.getElem_toArray, List.getElem_cons_zero, List.getElem_cons_succ, List.setIfInBounds_toArray, List.set_cons_zero, List.set_cons_succ])
  refine Kr.seqS (fun K hK => ?_)
  go_simp
  obtain ⟨y2, hy⟩ : ∃ y, y1.alloc (.cells #[.slice pb nb cb] 24) = y := ⟨_, rfl⟩
  obtain ⟨bb, hb⟩ : ∃ b, y1.heap.size = b := ⟨_, rfl⟩
  rw [hy, hb]
  replace H := H.alloc hy hb rfl
  clear hy hb
  refine hK.out _ _ ?_; clear hK K
  (try simp only [Act.put, List.getElem_toArray, List.getElem_cons_zero, List.getElem_cons_succ, List.setIfInBounds_toArray, List.set_cons_zero, List.set_cons_succ])
  refine Kr.seqS (fun K hK => ?_)
  go_simp
  obtain ⟨y3, hy⟩ : ∃ y, y2.alloc (.cells #[.slice none 0 0] 24) = y := ⟨_, rfl⟩
  obtain ⟨br, hb⟩ : ∃ b, y2.heap.size = b := ⟨_, rfl⟩
  rw [hy, hb]
  replace H := H.alloc hy hb rfl
  clear hy hb
  refine hK.out _ _ ?_; clear hK K
  (try simp only [Act.put, List.getElem_toArray, List.getElem_cons_zero, List.getElem_cons_succ, List.setIfInBounds_toArray, List.set_cons_zero, List.set_cons_succ])
  refine Kr.seqDone ?_
  go_upto_region 1 with fail
  refine Kr.seqStart ?_
  refine Kr.seqS (fun K hK => ?_)
  go_simp
  obtain ⟨y4, hy⟩ : ∃ y, y3.alloc (.cells #[.slice none 0 0] 24) = y := ⟨_, rfl⟩
  obtain ⟨bo, hb⟩ : ∃ b, y3.heap.size = b := ⟨_, rfl⟩
  rw [hy, hb]
  replace H := H.alloc hy hb rfl
  clear hy hb
  refine hK.out _ _ ?_; clear hK K
  (try simp only [Act.put, List.getElem_toArray, List.getElem_cons_zero, List.getElem_cons_succ, List.setIfInBounds_toArray, List.set_cons_zero, List.set_cons_succ])
  refine Kr.seqDone ?_
  go_upto_region 2 with fail
  refine Kr.seqStart ?_
  have hk := H.c
  simp only [Kr.Cells] at hk
  (refine Kr.seqP (v := ?_) (by rfl) ?_ ?_; rotate_left; (focus (go_simp; first | done | rfl)); (try simp only [Act.put, List.getElem_toArray, List.getElem_cons_zero, List.getElem_cons_succ, List.setIfInBounds_toArray, List.set_cons_zero, List.set_cons_succ]))
  refine Kr.seqS (fun K hK => ?_)
  go_simp
  go_at_call 84
  refine (bits3_v _ _ _ _ _ (H.nw 0 rfl)).mono ?_
  rintro e y5 ⟨rfl, hg⟩
  rw [HNB.out]
  clear hk
  replace H := H.grow hg
  clear hg
  refine hK.out _ _ ?_; clear hK K
  (try simp only [Act.put, List.getElem_toArray, List.getElem_cons_zero, List.getElem_cons_succ, List.setIfInBounds_toArray, List.set_cons_zero, List.set_cons_succ])
  iterate 2 (refine Kr.seqP (v := ?_) (by rfl) ?_ ?_; rotate_left; (focus (go_simp; first | done | rfl)); (try simp only [Act.put, List.getElem_toArray, List.getElem_cons_zero, List.getElem_cons_succ, List.setIfInBounds_toArray, List.set_cons_zero, List.set_cons_succ]))
  refine Kr.seqDone ?_
  replace H := H.num (nw_none _)
  have H2 : Hid (Sta w y5 [(bo, 0, .slice none 0 0), (br, 0, .slice none 0 0), (bb, 0, .slice pb nb cb), (ba, 0, .slice pa na ca)] [N none 0 0 (x * (y / 2 ^ B)), N pa na ca (x), N pb nb cb (y)]) := Lib.hid (by rw [HZ.out, Nat.mul_zero]; exact H.pick [0, 2, 1] rfl)
  go_wp2
  go_loopw [6] (fun i wr => ∃ (k : Nat) (pz0 : Option Addr) (nz0 cz0 : Nat), k ≤ B ∧ (k = 0 ∧ i = .int .i64 (-1) ∨ ∃ j : Nat, k = j + 1 ∧ i = .int .i64 (j : Int)) ∧ Hid (Sta w wr [(bo, 0, .slice pz0 nz0 cz0), (br, 0, .slice none 0 0), (bb, 0, .slice pb nb cb), (ba, 0, .slice pa na ca)] [N pz0 nz0 cz0 (x * (y / 2 ^ k)), N pa na ca (x), N pb nb cb (y)])) (fun i _ => (intOf i + 1).toNat)
  case atStart =>
    refine ⟨B, _, _, _, Nat.le_refl _, ?_, H2⟩
    rcases Nat.eq_zero_or_pos B with h0 | h0
    · exact .inl ⟨h0, by subst h0; rfl⟩
    · exact .inr ⟨B - 1, by omega, by congr 1; omega⟩
  case round =>
    clear H H2 hW
    obtain ⟨k, pz0, nz0, cz0, hk, hik, HH⟩ := hrel
    rcases hik with ⟨rfl, rfl⟩ | ⟨j, rfl, rfl⟩
    · have H := HH.out
      clear HH
      go_upto_region 8 with fail
      refine Kr.seqStart ?_
      have hk := H.c
      simp only [Kr.Cells] at hk
      (refine Kr.seqP (v := ?_) (by rfl) ?_ ?_; rotate_left; (focus (go_simp; first | done | rfl)); (try simp only [Act.put, List.getElem_toArray, List.getElem_cons_zero, List.getElem_cons_succ, List.setIfInBounds_toArray, List.set_cons_zero, List.set_cons_succ]))
      refine Kr.seqS (fun K hK => ?_)
      go_simp
      clear hk
      obtain ⟨y6, hy⟩ : ∃ y, wr.setCell ⟨br, 0, none⟩ (.slice pz0 nz0 cz0) = y := ⟨_, rfl⟩
      rw [hy]
      replace H := H.store 1 hy rfl rfl
      dsimp only [List.set] at H
      clear hy
      refine hK.out _ _ ?_; clear hK K
      (try simp only [Act.put, List.getElem_toArray, List.getElem_cons_zero, List.getElem_cons_succ, List.setIfInBounds_toArray, List.set_cons_zero, List.set_cons_succ])
      refine Kr.seqDone ?_
      have hk := H.c
      simp only [Kr.Cells] at hk
      go_wp2
      refine bodyPost_ret (v := .agg #[.slice pz0 nz0 cz0]) (by simp [results, Try.results44, go_sem, hk]) rfl ⟨pz0, nz0, cz0, rfl, by have h := (H.nw 0 rfl); rwa [Nat.pow_zero, Nat.div_one] at h, H.g⟩
    · have H := HH.out
      clear HH
      have hW : IntKind.i64.wrap ((j : Int) - 1) = (j : Int) - 1 := IntWalk.i64_in _ (by omega)
      have hj0 : (0 : Int) ≤ (j : Int) := by omega
      have HJ : Hid (j < 9223372036854775808) := Lib.hid (by omega)
      go_upto_region 5 with fail
      refine Kr.seqStart ?_
      have hk := H.c
      simp only [Kr.Cells] at hk
      iterate 2 (refine Kr.seqP (v := ?_) (by rfl) ?_ ?_; rotate_left; (focus (go_simp; first | done | rfl)); (try simp only [Act.put, List.getElem_toArray, List.getElem_cons_zero, List.getElem_cons_succ, List.setIfInBounds_toArray, List.set_cons_zero, List.set_cons_succ]))
      refine Kr.seqS (fun K hK => ?_)
      go_simp
      go_at_call 43
      refine (rplus3_v (H.nw 0 rfl) (H.nw 0 rfl) (HNT.out (j + 1) _ _ _ _ _ (H.nw 0 rfl) (Nat.le_refl _)) (HNT.out (j + 1) _ _ _ _ _ (H.nw 0 rfl) (Nat.le_refl _))).mono ?_
      rintro e y7 ⟨p7, n7, c7, rfl, hr, hg⟩
      clear hk
      replace H := H.grow hg
      replace H := H.num hr
      clear hr hg
      refine hK.out _ _ ?_; clear hK K
      (try simp only [Act.put, List.getElem_toArray, List.getElem_cons_zero, List.getElem_cons_succ, List.setIfInBounds_toArray, List.set_cons_zero, List.set_cons_succ])
      have hk := H.c
      simp only [Kr.Cells] at hk
      refine Kr.seqS (fun K hK => ?_)
      go_simp
      clear hk
      obtain ⟨y8, hy⟩ : ∃ y, y7.setCell ⟨bo, 0, none⟩ (.slice p7 n7 c7) = y := ⟨_, rfl⟩
      rw [hy]
      replace H := H.store 0 hy rfl rfl
      dsimp only [List.set] at H
      clear hy
      refine hK.out _ _ ?_; clear hK K
      (try simp only [Act.put, List.getElem_toArray, List.getElem_cons_zero, List.getElem_cons_succ, List.setIfInBounds_toArray, List.set_cons_zero, List.set_cons_succ])
      refine Kr.seqDone ?_
      cases hbt : y.testBit j with
      | false =>
        have HBT := Lib.hid hbt
        clear hbt
        go_upto_region 6 with fail
        refine Kr.seqStart ?_
        have hk := H.c
        simp only [Kr.Cells] at hk
        iterate 2 (refine Kr.seqP (v := ?_) (by rfl) ?_ ?_; rotate_left; (focus (go_simp; first | done | rfl)); (try simp only [Act.put, List.getElem_toArray, List.getElem_cons_zero, List.getElem_cons_succ, List.setIfInBounds_toArray, List.set_cons_zero, List.set_cons_succ]))
        refine Kr.seqS (fun K hK => ?_)
        go_simp
        go_at_call 85
        refine (bit3_v _ _ _ j _ _ HJ.out (H.nw 3 rfl)).mono ?_
        rintro e y9 ⟨rfl, hg⟩
        rw [HBT.out]
        clear hk
        replace H := H.grow hg
        clear hg
        refine hK.out _ _ ?_; clear hK K
        (try simp only [Act.put, List.getElem_toArray, List.getElem_cons_zero, List.getElem_cons_succ, List.setIfInBounds_toArray, List.set_cons_zero, List.set_cons_succ])
        refine Kr.seqDone ?_
        go_upto_region 4 with fail
        refine Kr.seqStart ?_
        iterate 3 (refine Kr.seqP (v := ?_) (by rfl) ?_ ?_; rotate_left; (focus (go_simp; first | done | rfl)); (try simp only [Act.put, List.getElem_toArray, List.getElem_cons_zero, List.getElem_cons_succ, List.setIfInBounds_toArray, List.set_cons_zero, List.set_cons_succ]))
        refine Kr.seqDone ?_
        go_wp2
        go_roundw
        case rel =>
          refine ⟨j, p7, n7, c7, by omega, ?_, Lib.hid (by rw [← tim_0 HBT.out]; exact H.pick [0, 2, 3] rfl)⟩
          rcases Nat.eq_zero_or_pos j with h0 | h0
          · exact .inl ⟨h0, by subst h0; rfl⟩
          · exact .inr ⟨j - 1, by omega, by congr 1; omega⟩
        case measure => (simp [intOf] <;> omega)
      | true =>
        have HBT := Lib.hid hbt
        clear hbt
        go_upto_region 6 with fail
        refine Kr.seqStart ?_
        have hk := H.c
        simp only [Kr.Cells] at hk
        iterate 2 (refine Kr.seqP (v := ?_) (by rfl) ?_ ?_; rotate_left; (focus (go_simp; first | done | rfl)); (try simp only [Act.put, List.getElem_toArray, List.getElem_cons_zero, List.getElem_cons_succ, List.setIfInBounds_toArray, List.set_cons_zero, List.set_cons_succ]))
        refine Kr.seqS (fun K hK => ?_)
        go_simp
        go_at_call 85
        refine (bit3_v _ _ _ j _ _ HJ.out (H.nw 3 rfl)).mono ?_
        rintro e y10 ⟨rfl, hg⟩
        rw [HBT.out]
        clear hk
        replace H := H.grow hg
        clear hg
        refine hK.out _ _ ?_; clear hK K
        (try simp only [Act.put, List.getElem_toArray, List.getElem_cons_zero, List.getElem_cons_succ, List.setIfInBounds_toArray, List.set_cons_zero, List.set_cons_succ])
        refine Kr.seqDone ?_
        go_upto_region 7 with fail
        refine Kr.seqStart ?_
        have hk := H.c
        simp only [Kr.Cells] at hk
        iterate 2 (refine Kr.seqP (v := ?_) (by rfl) ?_ ?_; rotate_left; (focus (go_simp; first | done | rfl)); (try simp only [Act.put, List.getElem_toArray, List.getElem_cons_zero, List.getElem_cons_succ, List.setIfInBounds_toArray, List.set_cons_zero, List.set_cons_succ]))
        refine Kr.seqS (fun K hK => ?_)
        go_simp
        go_at_call 43
        refine (rplus3_v (H.nw 0 rfl) (H.nw 2 rfl) (HNT.out j _ _ _ _ _ (H.nw 0 rfl) (by rw [← tim_1 HBT.out]; exact Nat.le_add_right _ _)) hna).mono ?_
        rintro e y11 ⟨p11, n11, c11, rfl, hr, hg⟩
        clear hk
        replace H := H.grow hg
        replace H := H.num hr
        clear hr hg
        refine hK.out _ _ ?_; clear hK K
        (try simp only [Act.put, List.getElem_toArray, List.getElem_cons_zero, List.getElem_cons_succ, List.setIfInBounds_toArray, List.set_cons_zero, List.set_cons_succ])
        have hk := H.c
        simp only [Kr.Cells] at hk
        refine Kr.seqS (fun K hK => ?_)
        go_simp
        clear hk
        obtain ⟨y12, hy⟩ : ∃ y, y11.setCell ⟨bo, 0, none⟩ (.slice p11 n11 c11) = y := ⟨_, rfl⟩
        rw [hy]
        replace H := H.store 0 hy rfl rfl
        dsimp only [List.set] at H
        clear hy
        refine hK.out _ _ ?_; clear hK K
        (try simp only [Act.put, List.getElem_toArray, List.getElem_cons_zero, List.getElem_cons_succ, List.setIfInBounds_toArray, List.set_cons_zero, List.set_cons_succ])
        refine Kr.seqDone ?_
        go_upto_region 4 with fail
        refine Kr.seqStart ?_
        iterate 3 (refine Kr.seqP (v := ?_) (by rfl) ?_ ?_; rotate_left; (focus (go_simp; first | done | rfl)); (try simp only [Act.put, List.getElem_toArray, List.getElem_cons_zero, List.getElem_cons_succ, List.setIfInBounds_toArray, List.set_cons_zero, List.set_cons_succ]))
        refine Kr.seqDone ?_
        go_wp2
        go_roundw
        case rel =>
          refine ⟨j, p11, n11, c11, by omega, ?_, Lib.hid (by rw [← tim_1 HBT.out]; exact H.pick [0, 3, 4] rfl)⟩
          rcases Nat.eq_zero_or_pos j with h0 | h0
          · exact .inl ⟨h0, by subst h0; rfl⟩
          · exact .inr ⟨j - 1, by omega, by congr 1; omega⟩
        case measure => (simp [intOf] <;> omega)
set_option linter.unusedSimpArgs false in
set_option maxRecDepth 100000 in
set_option maxHeartbeats 16000000 in
theorem rover3_v {pa : Option Addr} {na ca : Nat} {pb : Option Addr} {nb cb : Nat} {x y : Nat} {w : World} (ha : Nw w pa na ca (digs x)) (hb : Nw w pb nb cb (digs y)) (vx : x < pw 900) (vy : y < pw 900) (y0 : 0 < y) :
    Calls Try.prog 89 #[.agg #[.slice pa na ca], .agg #[.slice pb nb cb]] w (Has (x / y) w) := by
  have VX : Hid (x < pw 1000) := Lib.hid (Nat.lt_of_lt_of_le vx (pw_mono (by decide)))
  have VY := Lib.hid vy
  have Y0 := Lib.hid y0
  have HNQ : ∀ (z : Nat) (W : World) (p : Option Addr) (n c : Nat), Nw W p n c (digs z) → z ≤ x + x + 1 → n ≤ 1000 := fun z W p n c h hz => Nat.le_trans (nw_small (K := 902) h (Nat.lt_of_le_of_lt hz (by have h2 : x + x < pw 901 := pw_dbl vx; have h3 : 1 < pw 901 := pw_pos' 900; have h4 : pw 901 + pw 901 ≤ pw 902 := Nat.le_of_lt (Nat.lt_of_lt_of_le (show pw 901 + pw 901 < pw 901 * 4294967296 by have := pw_pos 901; omega) (by rw [show (902 : Nat) = 901 + 1 from rfl, pw_add]; exact Nat.le_refl _)); omega))) (by decide)
  have HNR : ∀ (z : Nat) (W : World) (p : Option Addr) (n c : Nat), Nw W p n c (digs z) → z ≤ y + y + 1 → n ≤ 1000 := fun z W p n c h hz => Nat.le_trans (nw_small (K := 902) h (Nat.lt_of_le_of_lt hz (by have h2 : y + y < pw 901 := pw_dbl vy; have h3 : 1 < pw 901 := pw_pos' 900; have h4 : pw 901 + pw 901 ≤ pw 902 := Nat.le_of_lt (Nat.lt_of_lt_of_le (show pw 901 + pw 901 < pw 901 * 4294967296 by have := pw_pos 901; omega) (by rw [show (902 : Nat) = 901 + 1 from rfl, pw_add]; exact Nat.le_refl _)); omega))) (by decide)
  replace HNQ := Lib.hid HNQ
  replace HNR := Lib.hid HNR
  have HN1 : Hid (∀ (W : World) (p : Option Addr) (n c : Nat), Nw W p n c (digs 1) → n ≤ 1000) := Lib.hid (fun W p n c h => Nat.le_trans (nw_small (K := 1) h (by decide)) (by decide))
  clear vx vy y0
  have H := Sta.start w
  replace H := H.num ha
  replace H := H.num hb
  go_enter Try.func89, Try.ntmps89
  obtain ⟨B, hB⟩ : ∃ B, Nv.nb (x) = B := ⟨_, rfl⟩
  have HNB := Lib.hid hB
  have hb : B ≤ 32 * 1000 := by rw [← hB]; exact nb_small VX.out
  have hW : IntKind.i64.wrap ((B : Int) - 1) = (B : Int) - 1 := IntWalk.i64_in _ (by omega)
  have HZ : Hid (x / 2 ^ B = 0) := Lib.hid (by rw [← hB]; exact nb_zero _)
  clear hB
  go_upto_region 0 with fail
  refine Kr.seqStart ?_
  refine Kr.seqS (fun K hK => ?_)
  go_simp
  obtain ⟨y1, hy⟩ : ∃ y, w.alloc (.cells #[.slice pa na ca] 24) = y := ⟨_, rfl⟩
  obtain ⟨ba, hb⟩ : ∃ b, w.heap.size = b := ⟨_, rfl⟩
  rw [hy, hb]
  replace H := H.alloc hy hb rfl
  clear hy hb
  refine hK.out _ _ ?_; clear hK K
  (try simp only [Act.put, List.getElem_toArray, List.getElem_cons_zero, List.getElem_cons_succ, List.setIfInBounds_toArray, List.set_cons_zero, List.set_cons_succ])
  refine Kr.seqS (fun K hK => ?_)
  go_simp
  obtain ⟨y2, hy⟩ : ∃ y, y1.alloc (.cells #[.slice pb nb cb] 24) = y := ⟨_, rfl⟩
  obtain ⟨bb, hb⟩ : ∃ b, y1.heap.size = b := ⟨_, rfl⟩
  rw [hy, hb]
  replace H := H.alloc hy hb rfl
  clear hy hb
  refine hK.out _ _ ?_; clear hK K
  (try simp only [Act.put, List.getElem_toArray, List.getElem_cons_zero, List.getElem_cons_succ, List.setIfInBounds_toArray, List.set_cons_zero, List.set_cons_succ])
  refine Kr.seqS (fun K hK => ?_)
  go_simp
  obtain ⟨y3, hy⟩ : ∃ y, y2.alloc (.cells #[.slice none 0 0] 24) = y := ⟨_, rfl⟩
  obtain ⟨br, hb⟩ : ∃ b, y2.heap.size = b := ⟨_, rfl⟩
  rw [hy, hb]
  replace H := H.alloc hy hb rfl
  clear hy hb
  refine hK.out _ _ ?_; clear hK K
  (try simp only [Act.put, List.getElem_toArray, List.getElem_cons_zero, List.getElem_cons_succ, List.setIfInBounds_toArray, List.set_cons_zero, List.set_cons_succ])
  refine Kr.seqDone ?_
  go_upto_region 1 with fail
  refine Kr.seqStart ?_
  refine Kr.seqS (fun K hK => ?_)
  go_simp
  obtain ⟨y4, hy⟩ : ∃ y, y3.alloc (.cells #[.slice none 0 0] 24) = y := ⟨_, rfl⟩
  obtain ⟨bq, hb⟩ : ∃ b, y3.heap.size = b := ⟨_, rfl⟩
  rw [hy, hb]
  replace H := H.alloc hy hb rfl
  clear hy hb
  refine hK.out _ _ ?_; clear hK K
  (try simp only [Act.put, List.getElem_toArray, List.getElem_cons_zero, List.getElem_cons_succ, List.setIfInBounds_toArray, List.set_cons_zero, List.set_cons_succ])
  refine Kr.seqS (fun K hK => ?_)
  go_simp
  obtain ⟨y5, hy⟩ : ∃ y, y4.alloc (.cells #[.slice none 0 0] 24) = y := ⟨_, rfl⟩
  obtain ⟨bt, hb⟩ : ∃ b, y4.heap.size = b := ⟨_, rfl⟩
  rw [hy, hb]
  replace H := H.alloc hy hb rfl
  clear hy hb
  refine hK.out _ _ ?_; clear hK K
  (try simp only [Act.put, List.getElem_toArray, List.getElem_cons_zero, List.getElem_cons_succ, List.setIfInBounds_toArray, List.set_cons_zero, List.set_cons_succ])
  refine Kr.seqDone ?_
  go_upto_region 2 with fail
  refine Kr.seqStart ?_
  have hk := H.c
  simp only [Kr.Cells] at hk
  (refine Kr.seqP (v := ?_) (by rfl) ?_ ?_; rotate_left; (focus (go_simp; first | done | rfl)); (try simp only [Act.put, List.getElem_toArray, List.getElem_cons_zero, List.getElem_cons_succ, List.setIfInBounds_toArray, List.set_cons_zero, List.set_cons_succ]))
  refine Kr.seqS (fun K hK => ?_)
  go_simp
  go_at_call 84
  refine (bits3_v _ _ _ _ _ (H.nw 1 rfl)).mono ?_
  rintro e y6 ⟨rfl, hg⟩
  rw [HNB.out]
  clear hk
  replace H := H.grow hg
  clear hg
  refine hK.out _ _ ?_; clear hK K
  (try simp only [Act.put, List.getElem_toArray, List.getElem_cons_zero, List.getElem_cons_succ, List.setIfInBounds_toArray, List.set_cons_zero, List.set_cons_succ])
  iterate 2 (refine Kr.seqP (v := ?_) (by rfl) ?_ ?_; rotate_left; (focus (go_simp; first | done | rfl)); (try simp only [Act.put, List.getElem_toArray, List.getElem_cons_zero, List.getElem_cons_succ, List.setIfInBounds_toArray, List.set_cons_zero, List.set_cons_succ]))
  refine Kr.seqDone ?_
  replace H := H.num (nw_none _)
  replace H := H.num (nw_none _)
  have H2 : Hid (Sta w y6 [(bt, 0, .slice none 0 0), (bq, 0, .slice none 0 0), (br, 0, .slice none 0 0), (bb, 0, .slice pb nb cb), (ba, 0, .slice pa na ca)] [N none 0 0 (x / 2 ^ B / y), N none 0 0 (x / 2 ^ B % y), N pa na ca (x), N pb nb cb (y)]) := Lib.hid (by rw [HZ.out, Nat.zero_div, Nat.zero_mod]; exact H.pick [1, 0, 3, 2] rfl)
  go_wp2
  go_loopw [7] (fun i wr => ∃ (k : Nat) (pz0 : Option Addr) (nz0 cz0 : Nat) (pz1 : Option Addr) (nz1 cz1 : Nat), k ≤ B ∧ (k = 0 ∧ i = .int .i64 (-1) ∨ ∃ j : Nat, k = j + 1 ∧ i = .int .i64 (j : Int)) ∧ Hid (Sta w wr [(bt, 0, .slice pz1 nz1 cz1), (bq, 0, .slice pz0 nz0 cz0), (br, 0, .slice none 0 0), (bb, 0, .slice pb nb cb), (ba, 0, .slice pa na ca)] [N pz0 nz0 cz0 (x / 2 ^ k / y), N pz1 nz1 cz1 (x / 2 ^ k % y), N pa na ca (x), N pb nb cb (y)])) (fun i _ => (intOf i + 1).toNat)
  case atStart =>
    refine ⟨B, _, _, _, _, _, _, Nat.le_refl _, ?_, H2⟩
    rcases Nat.eq_zero_or_pos B with h0 | h0
    · exact .inl ⟨h0, by subst h0; rfl⟩
    · exact .inr ⟨B - 1, by omega, by congr 1; omega⟩
  case round =>
    clear H H2 hW
    obtain ⟨k, pz0, nz0, cz0, pz1, nz1, cz1, hk, hik, HH⟩ := hrel
    rcases hik with ⟨rfl, rfl⟩ | ⟨j, rfl, rfl⟩
    · have H := HH.out
      clear HH
      go_upto_region 10 with fail
      refine Kr.seqStart ?_
      have hk := H.c
      simp only [Kr.Cells] at hk
      (refine Kr.seqP (v := ?_) (by rfl) ?_ ?_; rotate_left; (focus (go_simp; first | done | rfl)); (try simp only [Act.put, List.getElem_toArray, List.getElem_cons_zero, List.getElem_cons_succ, List.setIfInBounds_toArray, List.set_cons_zero, List.set_cons_succ]))
      refine Kr.seqS (fun K hK => ?_)
      go_simp
      clear hk
      obtain ⟨y7, hy⟩ : ∃ y, wr.setCell ⟨br, 0, none⟩ (.slice pz0 nz0 cz0) = y := ⟨_, rfl⟩
      rw [hy]
      replace H := H.store 2 hy rfl rfl
      dsimp only [List.set] at H
      clear hy
      refine hK.out _ _ ?_; clear hK K
      (try simp only [Act.put, List.getElem_toArray, List.getElem_cons_zero, List.getElem_cons_succ, List.setIfInBounds_toArray, List.set_cons_zero, List.set_cons_succ])
      refine Kr.seqDone ?_
      have hk := H.c
      simp only [Kr.Cells] at hk
      go_wp2
      refine bodyPost_ret (v := .agg #[.slice pz0 nz0 cz0]) (by simp [results, Try.results89, go_sem, hk]) rfl ⟨pz0, nz0, cz0, rfl, by have h := (H.nw 0 rfl); rwa [Nat.pow_zero, Nat.div_one] at h, H.g⟩
    · have H := HH.out
      clear HH
      have hW : IntKind.i64.wrap ((j : Int) - 1) = (j : Int) - 1 := IntWalk.i64_in _ (by omega)
      have hj0 : (0 : Int) ≤ (j : Int) := by omega
      have HJ : Hid (j < 9223372036854775808) := Lib.hid (by omega)
      obtain ⟨E, hE⟩ : ∃ E, x / 2 ^ (j + 1) = E := ⟨_, rfl⟩
      obtain ⟨q, hq⟩ : ∃ q, E / y = q := ⟨_, rfl⟩
      obtain ⟨t, ht⟩ : ∃ t, E % y = t := ⟨_, rfl⟩
      have HEX : Hid (E ≤ x) := Lib.hid (by rw [← hE]; exact Nat.div_le_self _ _)
      rw [hE, hq, ht] at H
      have HE := Lib.hid hE; have HQ := Lib.hid hq; have HT := Lib.hid ht
      have HQX : Hid (q ≤ x) := Lib.hid (Nat.le_trans (by rw [← hq]; exact Nat.div_le_self _ _) HEX.out)
      have HTY : Hid (t < y) := Lib.hid (by rw [← ht]; exact Nat.mod_lt _ Y0.out)
      clear hE hq ht
      go_upto_region 5 with fail
      refine Kr.startL (fun W' => Kr.Cells W' [(bt, 0, .slice pz1 nz1 cz1), (bq, 0, .slice pz0 nz0 cz0)]) [6, 7] (by kernel_rfl) ?_
      have gd : Gr wr wr.drew := (Gr.refl _).drew
      generalize wr.drew = d8 at gd ⊢
      replace H := H.grow gd
      clear gd
      (refine Kr.tS 0 [2, 5, 6, 7] (v := ?_) rfl (by kernel_rfl) (fun _ _ _ h => h) (by rfl) (H.sub [0, 1] rfl) (fun wx hSx => ?_) ?_; rotate_left; (focus (simp only [Kr.Cells] at hSx; go_simp; first | done | rfl)); (try simp only [Act.put, List.getElem_toArray, List.getElem_cons_zero, List.getElem_cons_succ, List.setIfInBounds_toArray, List.set_cons_zero, List.set_cons_succ]))
      (refine Kr.tS 1 [2, 5, 6, 7] (v := ?_) rfl (by kernel_rfl) (fun _ _ _ h => h) (by rfl) (H.sub [0, 1] rfl) (fun wx hSx => ?_) ?_; rotate_left; (focus (simp only [Kr.Cells] at hSx; go_simp; first | done | rfl)); (try simp only [Act.put, List.getElem_toArray, List.getElem_cons_zero, List.getElem_cons_succ, List.setIfInBounds_toArray, List.set_cons_zero, List.set_cons_succ]))
      (refine Kr.tS 3 [5, 6, 7] (v := ?_) rfl (by kernel_rfl) (fun _ _ _ h => h) (by rfl) (H.sub [0, 1] rfl) (fun wx hSx => ?_) ?_; rotate_left; (focus (simp only [Kr.Cells] at hSx; go_simp; first | done | rfl)); (try simp only [Act.put, List.getElem_toArray, List.getElem_cons_zero, List.getElem_cons_succ, List.setIfInBounds_toArray, List.set_cons_zero, List.set_cons_succ]))
      (refine Kr.tS 4 [5, 6, 7] (v := ?_) rfl (by kernel_rfl) (fun _ _ _ h => h) (by rfl) (H.sub [0, 1] rfl) (fun wx hSx => ?_) ?_; rotate_left; (focus (simp only [Kr.Cells] at hSx; go_simp; first | done | rfl)); (try simp only [Act.put, List.getElem_toArray, List.getElem_cons_zero, List.getElem_cons_succ, List.setIfInBounds_toArray, List.set_cons_zero, List.set_cons_succ]))
      refine Kr.readyL (rs := [2]) (by kernel_rfl) (by simp) ?_
      refine Kr.AllL.cons rfl (fun K hK => ?_) Kr.AllL.nil
      go_simp
      go_at_call 43
      refine (rplus3_v (H.nw 1 rfl) (H.nw 1 rfl) (HNR.out _ _ _ _ _ (H.nw 1 rfl) (by have := HTY.out; omega)) (HNR.out _ _ _ _ _ (H.nw 1 rfl) (by have := HTY.out; omega))).mono ?_
      rintro e y9 ⟨p9, n9, c9, rfl, hr, hg⟩
      replace H := H.grow hg
      replace H := H.num hr
      clear hr hg
      refine hK.out _ _ (fun _ => (H.sub [0, 1] rfl)) ?_; clear hK K
      (try simp only [Act.put, List.getElem_toArray, List.getElem_cons_zero, List.getElem_cons_succ, List.setIfInBounds_toArray, List.set_cons_zero, List.set_cons_succ])
      refine Kr.readyL (rs := [5]) (by kernel_rfl) (by simp) ?_
      refine Kr.AllL.cons rfl (fun K hK => ?_) Kr.AllL.nil
      go_simp
      go_at_call 43
      refine (rplus3_v (H.nw 1 rfl) (H.nw 1 rfl) (HNQ.out _ _ _ _ _ (H.nw 1 rfl) (by have := HQX.out; omega)) (HNQ.out _ _ _ _ _ (H.nw 1 rfl) (by have := HQX.out; omega))).mono ?_
      rintro e y10 ⟨p10, n10, c10, rfl, hr, hg⟩
      replace H := H.grow hg
      replace H := H.num hr
      clear hr hg
      refine hK.out _ _ (fun _ => (H.sub [0, 1] rfl)) ?_; clear hK K
      (try simp only [Act.put, List.getElem_toArray, List.getElem_cons_zero, List.getElem_cons_succ, List.setIfInBounds_toArray, List.set_cons_zero, List.set_cons_succ])
      refine Kr.readyL (rs := [6]) (by kernel_rfl) (by simp) ?_
      refine Kr.AllL.cons rfl (fun K hK => ?_) Kr.AllL.nil
      have hk := H.c
      simp only [Kr.Cells] at hk
      go_simp
      clear hk
      obtain ⟨y11, hy⟩ : ∃ y, y10.setCell ⟨bt, 0, none⟩ (.slice p9 n9 c9) = y := ⟨_, rfl⟩
      rw [hy]
      replace H := H.store 0 hy rfl rfl
      dsimp only [List.set] at H
      clear hy
      refine hK.out _ _ (Kr.noStill (by kernel_rfl)) ?_; clear hK K
      (try simp only [Act.put, List.getElem_toArray, List.getElem_cons_zero, List.getElem_cons_succ, List.setIfInBounds_toArray, List.set_cons_zero, List.set_cons_succ])
      refine Kr.readyL (rs := [7]) (by kernel_rfl) (by simp) ?_
      refine Kr.AllL.cons rfl (fun K hK => ?_) Kr.AllL.nil
      have hk := H.c
      simp only [Kr.Cells] at hk
      go_simp
      clear hk
      obtain ⟨y12, hy⟩ : ∃ y, y11.setCell ⟨bq, 0, none⟩ (.slice p10 n10 c10) = y := ⟨_, rfl⟩
      rw [hy]
      replace H := H.store 1 hy rfl rfl
      dsimp only [List.set] at H
      clear hy
      refine hK.out _ _ (Kr.noStill (by kernel_rfl)) ?_; clear hK K
      (try simp only [Act.put, List.getElem_toArray, List.getElem_cons_zero, List.getElem_cons_succ, List.setIfInBounds_toArray, List.set_cons_zero, List.set_cons_succ])
      refine Kr.doneL (by kernel_rfl) ?_ _
      cases hbt : x.testBit j with
      | false =>
        have HBT := Lib.hid hbt
        clear hbt
        go_upto_region 6 with fail
        refine Kr.seqStart ?_
        have hk := H.c
        simp only [Kr.Cells] at hk
        iterate 2 (refine Kr.seqP (v := ?_) (by rfl) ?_ ?_; rotate_left; (focus (go_simp; first | done | rfl)); (try simp only [Act.put, List.getElem_toArray, List.getElem_cons_zero, List.getElem_cons_succ, List.setIfInBounds_toArray, List.set_cons_zero, List.set_cons_succ]))
        refine Kr.seqS (fun K hK => ?_)
        go_simp
        go_at_call 85
        refine (bit3_v _ _ _ j _ _ HJ.out (H.nw 4 rfl)).mono ?_
        rintro e y13 ⟨rfl, hg⟩
        rw [HBT.out]
        clear hk
        replace H := H.grow hg
        clear hg
        refine hK.out _ _ ?_; clear hK K
        (try simp only [Act.put, List.getElem_toArray, List.getElem_cons_zero, List.getElem_cons_succ, List.setIfInBounds_toArray, List.set_cons_zero, List.set_cons_succ])
        refine Kr.seqDone ?_
        by_cases hlt : t + t < y
        · have HLT := Lib.hid hlt
          clear hlt
          have HOV := Lib.hid (over_lo HQ.out.symm HT.out.symm (b := 0) (by have := HLT.out; omega))
          have HX2 : Hid (x / 2 ^ j = E + E + 0) := Lib.hid (by rw [← HE.out]; exact half_0 HBT.out)
          go_upto_region 8 with fail
          refine Kr.seqStart ?_
          have hk := H.c
          simp only [Kr.Cells] at hk
          iterate 2 (refine Kr.seqP (v := ?_) (by rfl) ?_ ?_; rotate_left; (focus (go_simp; first | done | rfl)); (try simp only [Act.put, List.getElem_toArray, List.getElem_cons_zero, List.getElem_cons_succ, List.setIfInBounds_toArray, List.set_cons_zero, List.set_cons_succ]))
          refine Kr.seqS (fun K hK => ?_)
          go_simp
          go_at_call 36
          refine (less3_v (H.nw 1 rfl) (H.nw 5 rfl)).mono ?_
          rintro e y14 ⟨rfl, hg⟩
          rw [decide_eq_true HLT.out]
          clear hk
          replace H := H.grow hg
          clear hg
          refine hK.out _ _ ?_; clear hK K
          (try simp only [Act.put, List.getElem_toArray, List.getElem_cons_zero, List.getElem_cons_succ, List.setIfInBounds_toArray, List.set_cons_zero, List.set_cons_succ])
          (refine Kr.seqP (v := ?_) (by rfl) ?_ ?_; rotate_left; (focus (go_simp; first | done | rfl)); (try simp only [Act.put, List.getElem_toArray, List.getElem_cons_zero, List.getElem_cons_succ, List.setIfInBounds_toArray, List.set_cons_zero, List.set_cons_succ]))
          refine Kr.seqDone ?_
          go_upto_region 4 with fail
          refine Kr.seqStart ?_
          iterate 3 (refine Kr.seqP (v := ?_) (by rfl) ?_ ?_; rotate_left; (focus (go_simp; first | done | rfl)); (try simp only [Act.put, List.getElem_toArray, List.getElem_cons_zero, List.getElem_cons_succ, List.setIfInBounds_toArray, List.set_cons_zero, List.set_cons_succ]))
          refine Kr.seqDone ?_
          go_wp2
          go_roundw
          case rel =>
            refine ⟨j, p10, n10, c10, p9, n9, c9, by omega, ?_, Lib.hid (by rw [HX2.out, HOV.out.1, HOV.out.2]; exact H.pick [0, 1, 4, 5] rfl)⟩
            rcases Nat.eq_zero_or_pos j with h0 | h0
            · exact .inl ⟨h0, by subst h0; rfl⟩
            · exact .inr ⟨j - 1, by omega, by congr 1; omega⟩
          case measure => (simp [intOf] <;> omega)
        · have HLT := Lib.hid hlt
          clear hlt
          have HLE := Lib.hid (Nat.le_of_not_lt HLT.out)
          have HOV := Lib.hid (over_hi HQ.out.symm HT.out.symm (b := 0) (by decide) Y0.out (by have := HLE.out; omega))
          have HX2 : Hid (x / 2 ^ j = E + E + 0) := Lib.hid (by rw [← HE.out]; exact half_0 HBT.out)
          go_upto_region 8 with fail
          refine Kr.seqStart ?_
          have hk := H.c
          simp only [Kr.Cells] at hk
          iterate 2 (refine Kr.seqP (v := ?_) (by rfl) ?_ ?_; rotate_left; (focus (go_simp; first | done | rfl)); (try simp only [Act.put, List.getElem_toArray, List.getElem_cons_zero, List.getElem_cons_succ, List.setIfInBounds_toArray, List.set_cons_zero, List.set_cons_succ]))
          refine Kr.seqS (fun K hK => ?_)
          go_simp
          go_at_call 36
          refine (less3_v (H.nw 1 rfl) (H.nw 5 rfl)).mono ?_
          rintro e y15 ⟨rfl, hg⟩
          rw [decide_eq_false HLT.out]
          clear hk
          replace H := H.grow hg
          clear hg
          refine hK.out _ _ ?_; clear hK K
          (try simp only [Act.put, List.getElem_toArray, List.getElem_cons_zero, List.getElem_cons_succ, List.setIfInBounds_toArray, List.set_cons_zero, List.set_cons_succ])
          (refine Kr.seqP (v := ?_) (by rfl) ?_ ?_; rotate_left; (focus (go_simp; first | done | rfl)); (try simp only [Act.put, List.getElem_toArray, List.getElem_cons_zero, List.getElem_cons_succ, List.setIfInBounds_toArray, List.set_cons_zero, List.set_cons_succ]))
          refine Kr.seqDone ?_
          go_upto_region 9 with fail
          refine Kr.startL (fun W' => Kr.Cells W' [(bt, 0, .slice p9 n9 c9), (bb, 0, .slice pb nb cb), (bq, 0, .slice p10 n10 c10)]) [6, 7] (by kernel_rfl) ?_
          have gd : Gr y15 y15.drew := (Gr.refl _).drew
          generalize y15.drew = d16 at gd ⊢
          replace H := H.grow gd
          clear gd
          (refine Kr.tS 0 [2, 4, 5, 6, 7] (v := ?_) rfl (by kernel_rfl) (fun _ _ _ h => h) (by rfl) (H.sub [0, 3, 1] rfl) (fun wx hSx => ?_) ?_; rotate_left; (focus (simp only [Kr.Cells] at hSx; go_simp; first | done | rfl)); (try simp only [Act.put, List.getElem_toArray, List.getElem_cons_zero, List.getElem_cons_succ, List.setIfInBounds_toArray, List.set_cons_zero, List.set_cons_succ]))
          (refine Kr.tS 1 [2, 4, 5, 6, 7] (v := ?_) rfl (by kernel_rfl) (fun _ _ _ h => h) (by rfl) (H.sub [0, 3, 1] rfl) (fun wx hSx => ?_) ?_; rotate_left; (focus (simp only [Kr.Cells] at hSx; go_simp; first | done | rfl)); (try simp only [Act.put, List.getElem_toArray, List.getElem_cons_zero, List.getElem_cons_succ, List.setIfInBounds_toArray, List.set_cons_zero, List.set_cons_succ]))
          (refine Kr.tS 3 [5, 6, 7] (v := ?_) rfl (by kernel_rfl) (fun _ _ _ h => h) (by rfl) (H.sub [0, 3, 1] rfl) (fun wx hSx => ?_) ?_; rotate_left; (focus (simp only [Kr.Cells] at hSx; go_simp; first | done | rfl)); (try simp only [Act.put, List.getElem_toArray, List.getElem_cons_zero, List.getElem_cons_succ, List.setIfInBounds_toArray, List.set_cons_zero, List.set_cons_succ]))
          refine Kr.readyL (rs := [2]) (by kernel_rfl) (by simp) ?_
          refine Kr.AllL.cons rfl (fun K hK => ?_) Kr.AllL.nil
          go_simp
          go_at_call 78
          refine (rminus3_v (H.nw 1 rfl) (H.nw 5 rfl) (HNR.out _ _ _ _ _ (H.nw 1 rfl) (by have := HTY.out; omega)) HLE.out).mono ?_
          rintro e y17 ⟨p17, n17, c17, rfl, hr, hg⟩
          replace H := H.grow hg
          replace H := H.num hr
          clear hr hg
          refine hK.out _ _ (fun _ => (H.sub [0, 3, 1] rfl)) ?_; clear hK K
          (try simp only [Act.put, List.getElem_toArray, List.getElem_cons_zero, List.getElem_cons_succ, List.setIfInBounds_toArray, List.set_cons_zero, List.set_cons_succ])
          refine Kr.readyL (rs := [4]) (by kernel_rfl) (by simp) ?_
          refine Kr.AllL.cons rfl (fun K hK => ?_) Kr.AllL.nil
          go_simp
          go_at_call 38
          refine (of3_v 1 (by decide) _).mono ?_
          rintro e y18 ⟨p18, n18, c18, rfl, hr, hg⟩
          replace H := H.grow hg
          replace H := H.num hr.toNw
          clear hr hg
          refine hK.out _ _ (fun _ => (H.sub [0, 3, 1] rfl)) ?_; clear hK K
          (try simp only [Act.put, List.getElem_toArray, List.getElem_cons_zero, List.getElem_cons_succ, List.setIfInBounds_toArray, List.set_cons_zero, List.set_cons_succ])
          refine Kr.readyL (rs := [5]) (by kernel_rfl) (by simp) ?_
          refine Kr.AllL.cons rfl (fun K hK => ?_) Kr.AllL.nil
          go_simp
          go_at_call 43
          refine (rplus3_v (H.nw 2 rfl) (H.nw 0 rfl) (HNQ.out _ _ _ _ _ (H.nw 2 rfl) (by have := HQX.out; omega)) (HN1.out _ _ _ _ (H.nw 0 rfl))).mono ?_
          rintro e y19 ⟨p19, n19, c19, rfl, hr, hg⟩
          replace H := H.grow hg
          replace H := H.num hr
          clear hr hg
          refine hK.out _ _ (fun _ => (H.sub [0, 3, 1] rfl)) ?_; clear hK K
          (try simp only [Act.put, List.getElem_toArray, List.getElem_cons_zero, List.getElem_cons_succ, List.setIfInBounds_toArray, List.set_cons_zero, List.set_cons_succ])
          refine Kr.readyL (rs := [6]) (by kernel_rfl) (by simp) ?_
          refine Kr.AllL.cons rfl (fun K hK => ?_) Kr.AllL.nil
          have hk := H.c
          simp only [Kr.Cells] at hk
          go_simp
          clear hk
          obtain ⟨y20, hy⟩ : ∃ y, y19.setCell ⟨bt, 0, none⟩ (.slice p17 n17 c17) = y := ⟨_, rfl⟩
          rw [hy]
          replace H := H.store 0 hy rfl rfl
          dsimp only [List.set] at H
          clear hy
          refine hK.out _ _ (Kr.noStill (by kernel_rfl)) ?_; clear hK K
          (try simp only [Act.put, List.getElem_toArray, List.getElem_cons_zero, List.getElem_cons_succ, List.setIfInBounds_toArray, List.set_cons_zero, List.set_cons_succ])
          refine Kr.readyL (rs := [7]) (by kernel_rfl) (by simp) ?_
          refine Kr.AllL.cons rfl (fun K hK => ?_) Kr.AllL.nil
          have hk := H.c
          simp only [Kr.Cells] at hk
          go_simp
          clear hk
          obtain ⟨y21, hy⟩ : ∃ y, y20.setCell ⟨bq, 0, none⟩ (.slice p19 n19 c19) = y := ⟨_, rfl⟩
          rw [hy]
          replace H := H.store 1 hy rfl rfl
          dsimp only [List.set] at H
          clear hy
          refine hK.out _ _ (Kr.noStill (by kernel_rfl)) ?_; clear hK K
          (try simp only [Act.put, List.getElem_toArray, List.getElem_cons_zero, List.getElem_cons_succ, List.setIfInBounds_toArray, List.set_cons_zero, List.set_cons_succ])
          refine Kr.doneL (by kernel_rfl) ?_ _
          go_upto_region 4 with fail
          refine Kr.seqStart ?_
          iterate 3 (refine Kr.seqP (v := ?_) (by rfl) ?_ ?_; rotate_left; (focus (go_simp; first | done | rfl)); (try simp only [Act.put, List.getElem_toArray, List.getElem_cons_zero, List.getElem_cons_succ, List.setIfInBounds_toArray, List.set_cons_zero, List.set_cons_succ]))
          refine Kr.seqDone ?_
          go_wp2
          go_roundw
          case rel =>
            refine ⟨j, p19, n19, c19, p17, n17, c17, by omega, ?_, Lib.hid (by rw [HX2.out, HOV.out.1, HOV.out.2]; exact H.pick [0, 2, 7, 8] rfl)⟩
            rcases Nat.eq_zero_or_pos j with h0 | h0
            · exact .inl ⟨h0, by subst h0; rfl⟩
            · exact .inr ⟨j - 1, by omega, by congr 1; omega⟩
          case measure => (simp [intOf] <;> omega)
      | true =>
        have HBT := Lib.hid hbt
        clear hbt
        go_upto_region 6 with fail
        refine Kr.seqStart ?_
        have hk := H.c
        simp only [Kr.Cells] at hk
        iterate 2 (refine Kr.seqP (v := ?_) (by rfl) ?_ ?_; rotate_left; (focus (go_simp; first | done | rfl)); (try simp only [Act.put, List.getElem_toArray, List.getElem_cons_zero, List.getElem_cons_succ, List.setIfInBounds_toArray, List.set_cons_zero, List.set_cons_succ]))
        refine Kr.seqS (fun K hK => ?_)
        go_simp
        go_at_call 85
        refine (bit3_v _ _ _ j _ _ HJ.out (H.nw 4 rfl)).mono ?_
        rintro e y22 ⟨rfl, hg⟩
        rw [HBT.out]
        clear hk
        replace H := H.grow hg
        clear hg
        refine hK.out _ _ ?_; clear hK K
        (try simp only [Act.put, List.getElem_toArray, List.getElem_cons_zero, List.getElem_cons_succ, List.setIfInBounds_toArray, List.set_cons_zero, List.set_cons_succ])
        refine Kr.seqDone ?_
        go_upto_region 7 with fail
        refine Kr.startL (fun W' => Kr.Cells W' [(bt, 0, .slice p9 n9 c9)]) [3] (by kernel_rfl) ?_
        have gd : Gr y22 y22.drew := (Gr.refl _).drew
        generalize y22.drew = d23 at gd ⊢
        replace H := H.grow gd
        clear gd
        (refine Kr.tS 0 [2, 3] (v := ?_) rfl (by kernel_rfl) (fun _ _ _ h => h) (by rfl) (H.sub [0] rfl) (fun wx hSx => ?_) ?_; rotate_left; (focus (simp only [Kr.Cells] at hSx; go_simp; first | done | rfl)); (try simp only [Act.put, List.getElem_toArray, List.getElem_cons_zero, List.getElem_cons_succ, List.setIfInBounds_toArray, List.set_cons_zero, List.set_cons_succ]))
        refine Kr.readyL (rs := [1]) (by kernel_rfl) (by simp) ?_
        refine Kr.AllL.cons rfl (fun K hK => ?_) Kr.AllL.nil
        go_simp
        go_at_call 38
        refine (of3_v 1 (by decide) _).mono ?_
        rintro e y24 ⟨p24, n24, c24, rfl, hr, hg⟩
        replace H := H.grow hg
        replace H := H.num hr.toNw
        clear hr hg
        refine hK.out _ _ (fun _ => (H.sub [0] rfl)) ?_; clear hK K
        (try simp only [Act.put, List.getElem_toArray, List.getElem_cons_zero, List.getElem_cons_succ, List.setIfInBounds_toArray, List.set_cons_zero, List.set_cons_succ])
        refine Kr.readyL (rs := [2]) (by kernel_rfl) (by simp) ?_
        refine Kr.AllL.cons rfl (fun K hK => ?_) Kr.AllL.nil
        go_simp
        go_at_call 43
        refine (rplus3_v (H.nw 2 rfl) (H.nw 0 rfl) (HNR.out _ _ _ _ _ (H.nw 2 rfl) (by have := HTY.out; omega)) (HN1.out _ _ _ _ (H.nw 0 rfl))).mono ?_
        rintro e y25 ⟨p25, n25, c25, rfl, hr, hg⟩
        replace H := H.grow hg
        replace H := H.num hr
        clear hr hg
        refine hK.out _ _ (fun _ => (H.sub [0] rfl)) ?_; clear hK K
        (try simp only [Act.put, List.getElem_toArray, List.getElem_cons_zero, List.getElem_cons_succ, List.setIfInBounds_toArray, List.set_cons_zero, List.set_cons_succ])
        refine Kr.readyL (rs := [3]) (by kernel_rfl) (by simp) ?_
        refine Kr.AllL.cons rfl (fun K hK => ?_) Kr.AllL.nil
        have hk := H.c
        simp only [Kr.Cells] at hk
        go_simp
        clear hk
        obtain ⟨y26, hy⟩ : ∃ y, y25.setCell ⟨bt, 0, none⟩ (.slice p25 n25 c25) = y := ⟨_, rfl⟩
        rw [hy]
        replace H := H.store 0 hy rfl rfl
        dsimp only [List.set] at H
        clear hy
        refine hK.out _ _ (Kr.noStill (by kernel_rfl)) ?_; clear hK K
        (try simp only [Act.put, List.getElem_toArray, List.getElem_cons_zero, List.getElem_cons_succ, List.setIfInBounds_toArray, List.set_cons_zero, List.set_cons_succ])
        refine Kr.doneL (by kernel_rfl) ?_ _
        by_cases hlt : t + t + 1 < y
        · have HLT := Lib.hid hlt
          clear hlt
          have HOV := Lib.hid (over_lo HQ.out.symm HT.out.symm (b := 1) (by have := HLT.out; omega))
          have HX2 : Hid (x / 2 ^ j = E + E + 1) := Lib.hid (by rw [← HE.out]; exact half_1 HBT.out)
          go_upto_region 8 with fail
          refine Kr.seqStart ?_
          have hk := H.c
          simp only [Kr.Cells] at hk
          iterate 2 (refine Kr.seqP (v := ?_) (by rfl) ?_ ?_; rotate_left; (focus (go_simp; first | done | rfl)); (try simp only [Act.put, List.getElem_toArray, List.getElem_cons_zero, List.getElem_cons_succ, List.setIfInBounds_toArray, List.set_cons_zero, List.set_cons_succ]))
          refine Kr.seqS (fun K hK => ?_)
          go_simp
          go_at_call 36
          refine (less3_v (H.nw 0 rfl) (H.nw 7 rfl)).mono ?_
          rintro e y27 ⟨rfl, hg⟩
          rw [decide_eq_true HLT.out]
          clear hk
          replace H := H.grow hg
          clear hg
          refine hK.out _ _ ?_; clear hK K
          (try simp only [Act.put, List.getElem_toArray, List.getElem_cons_zero, List.getElem_cons_succ, List.setIfInBounds_toArray, List.set_cons_zero, List.set_cons_succ])
          (refine Kr.seqP (v := ?_) (by rfl) ?_ ?_; rotate_left; (focus (go_simp; first | done | rfl)); (try simp only [Act.put, List.getElem_toArray, List.getElem_cons_zero, List.getElem_cons_succ, List.setIfInBounds_toArray, List.set_cons_zero, List.set_cons_succ]))
          refine Kr.seqDone ?_
          go_upto_region 4 with fail
          refine Kr.seqStart ?_
          iterate 3 (refine Kr.seqP (v := ?_) (by rfl) ?_ ?_; rotate_left; (focus (go_simp; first | done | rfl)); (try simp only [Act.put, List.getElem_toArray, List.getElem_cons_zero, List.getElem_cons_succ, List.setIfInBounds_toArray, List.set_cons_zero, List.set_cons_succ]))
          refine Kr.seqDone ?_
          go_wp2
          go_roundw
          case rel =>
            refine ⟨j, p10, n10, c10, p25, n25, c25, by omega, ?_, Lib.hid (by rw [HX2.out, HOV.out.1, HOV.out.2]; exact H.pick [2, 0, 6, 7] rfl)⟩
            rcases Nat.eq_zero_or_pos j with h0 | h0
            · exact .inl ⟨h0, by subst h0; rfl⟩
            · exact .inr ⟨j - 1, by omega, by congr 1; omega⟩
          case measure => (simp [intOf] <;> omega)
        · have HLT := Lib.hid hlt
          clear hlt
          have HLE := Lib.hid (Nat.le_of_not_lt HLT.out)
          have HOV := Lib.hid (over_hi HQ.out.symm HT.out.symm (b := 1) (by decide) Y0.out (by have := HLE.out; omega))
          have HX2 : Hid (x / 2 ^ j = E + E + 1) := Lib.hid (by rw [← HE.out]; exact half_1 HBT.out)
          go_upto_region 8 with fail
          refine Kr.seqStart ?_
          have hk := H.c
          simp only [Kr.Cells] at hk
          iterate 2 (refine Kr.seqP (v := ?_) (by rfl) ?_ ?_; rotate_left; (focus (go_simp; first | done | rfl)); (try simp only [Act.put, List.getElem_toArray, List.getElem_cons_zero, List.getElem_cons_succ, List.setIfInBounds_toArray, List.set_cons_zero, List.set_cons_succ]))
          refine Kr.seqS (fun K hK => ?_)
          go_simp
          go_at_call 36
          refine (less3_v (H.nw 0 rfl) (H.nw 7 rfl)).mono ?_
          rintro e y28 ⟨rfl, hg⟩
          rw [decide_eq_false HLT.out]
          clear hk
          replace H := H.grow hg
          clear hg
          refine hK.out _ _ ?_; clear hK K
          (try simp only [Act.put, List.getElem_toArray, List.getElem_cons_zero, List.getElem_cons_succ, List.setIfInBounds_toArray, List.set_cons_zero, List.set_cons_succ])
          (refine Kr.seqP (v := ?_) (by rfl) ?_ ?_; rotate_left; (focus (go_simp; first | done | rfl)); (try simp only [Act.put, List.getElem_toArray, List.getElem_cons_zero, List.getElem_cons_succ, List.setIfInBounds_toArray, List.set_cons_zero, List.set_cons_succ]))
          refine Kr.seqDone ?_
          go_upto_region 9 with fail
          refine Kr.startL (fun W' => Kr.Cells W' [(bt, 0, .slice p25 n25 c25), (bb, 0, .slice pb nb cb), (bq, 0, .slice p10 n10 c10)]) [6, 7] (by kernel_rfl) ?_
          have gd : Gr y28 y28.drew := (Gr.refl _).drew
          generalize y28.drew = d29 at gd ⊢
          replace H := H.grow gd
          clear gd
          (refine Kr.tS 0 [2, 4, 5, 6, 7] (v := ?_) rfl (by kernel_rfl) (fun _ _ _ h => h) (by rfl) (H.sub [0, 3, 1] rfl) (fun wx hSx => ?_) ?_; rotate_left; (focus (simp only [Kr.Cells] at hSx; go_simp; first | done | rfl)); (try simp only [Act.put, List.getElem_toArray, List.getElem_cons_zero, List.getElem_cons_succ, List.setIfInBounds_toArray, List.set_cons_zero, List.set_cons_succ]))
          (refine Kr.tS 1 [2, 4, 5, 6, 7] (v := ?_) rfl (by kernel_rfl) (fun _ _ _ h => h) (by rfl) (H.sub [0, 3, 1] rfl) (fun wx hSx => ?_) ?_; rotate_left; (focus (simp only [Kr.Cells] at hSx; go_simp; first | done | rfl)); (try simp only [Act.put, List.getElem_toArray, List.getElem_cons_zero, List.getElem_cons_succ, List.setIfInBounds_toArray, List.set_cons_zero, List.set_cons_succ]))
          (refine Kr.tS 3 [5, 6, 7] (v := ?_) rfl (by kernel_rfl) (fun _ _ _ h => h) (by rfl) (H.sub [0, 3, 1] rfl) (fun wx hSx => ?_) ?_; rotate_left; (focus (simp only [Kr.Cells] at hSx; go_simp; first | done | rfl)); (try simp only [Act.put, List.getElem_toArray, List.getElem_cons_zero, List.getElem_cons_succ, List.setIfInBounds_toArray, List.set_cons_zero, List.set_cons_succ]))
          refine Kr.readyL (rs := [2]) (by kernel_rfl) (by simp) ?_
          refine Kr.AllL.cons rfl (fun K hK => ?_) Kr.AllL.nil
          go_simp
          go_at_call 78
          refine (rminus3_v (H.nw 0 rfl) (H.nw 7 rfl) (HNR.out _ _ _ _ _ (H.nw 0 rfl) (by have := HTY.out; omega)) HLE.out).mono ?_
          rintro e y30 ⟨p30, n30, c30, rfl, hr, hg⟩
          replace H := H.grow hg
          replace H := H.num hr
          clear hr hg
          refine hK.out _ _ (fun _ => (H.sub [0, 3, 1] rfl)) ?_; clear hK K
          (try simp only [Act.put, List.getElem_toArray, List.getElem_cons_zero, List.getElem_cons_succ, List.setIfInBounds_toArray, List.set_cons_zero, List.set_cons_succ])
          refine Kr.readyL (rs := [4]) (by kernel_rfl) (by simp) ?_
          refine Kr.AllL.cons rfl (fun K hK => ?_) Kr.AllL.nil
          go_simp
          go_at_call 38
          refine (of3_v 1 (by decide) _).mono ?_
          rintro e y31 ⟨p31, n31, c31, rfl, hr, hg⟩
          replace H := H.grow hg
          replace H := H.num hr.toNw
          clear hr hg
          refine hK.out _ _ (fun _ => (H.sub [0, 3, 1] rfl)) ?_; clear hK K
          (try simp only [Act.put, List.getElem_toArray, List.getElem_cons_zero, List.getElem_cons_succ, List.setIfInBounds_toArray, List.set_cons_zero, List.set_cons_succ])
          refine Kr.readyL (rs := [5]) (by kernel_rfl) (by simp) ?_
          refine Kr.AllL.cons rfl (fun K hK => ?_) Kr.AllL.nil
          go_simp
          go_at_call 43
          refine (rplus3_v (H.nw 4 rfl) (H.nw 0 rfl) (HNQ.out _ _ _ _ _ (H.nw 4 rfl) (by have := HQX.out; omega)) (HN1.out _ _ _ _ (H.nw 0 rfl))).mono ?_
          rintro e y32 ⟨p32, n32, c32, rfl, hr, hg⟩
          replace H := H.grow hg
          replace H := H.num hr
          clear hr hg
          refine hK.out _ _ (fun _ => (H.sub [0, 3, 1] rfl)) ?_; clear hK K
          (try simp only [Act.put, List.getElem_toArray, List.getElem_cons_zero, List.getElem_cons_succ, List.setIfInBounds_toArray, List.set_cons_zero, List.set_cons_succ])
          refine Kr.readyL (rs := [6]) (by kernel_rfl) (by simp) ?_
          refine Kr.AllL.cons rfl (fun K hK => ?_) Kr.AllL.nil
          have hk := H.c
          simp only [Kr.Cells] at hk
          go_simp
          clear hk
          obtain ⟨y33, hy⟩ : ∃ y, y32.setCell ⟨bt, 0, none⟩ (.slice p30 n30 c30) = y := ⟨_, rfl⟩
          rw [hy]
          replace H := H.store 0 hy rfl rfl
          dsimp only [List.set] at H
          clear hy
          refine hK.out _ _ (Kr.noStill (by kernel_rfl)) ?_; clear hK K
          (try simp only [Act.put, List.getElem_toArray, List.getElem_cons_zero, List.getElem_cons_succ, List.setIfInBounds_toArray, List.set_cons_zero, List.set_cons_succ])
          refine Kr.readyL (rs := [7]) (by kernel_rfl) (by simp) ?_
          refine Kr.AllL.cons rfl (fun K hK => ?_) Kr.AllL.nil
          have hk := H.c
          simp only [Kr.Cells] at hk
          go_simp
          clear hk
          obtain ⟨y34, hy⟩ : ∃ y, y33.setCell ⟨bq, 0, none⟩ (.slice p32 n32 c32) = y := ⟨_, rfl⟩
          rw [hy]
          replace H := H.store 1 hy rfl rfl
          dsimp only [List.set] at H
          clear hy
          refine hK.out _ _ (Kr.noStill (by kernel_rfl)) ?_; clear hK K
          (try simp only [Act.put, List.getElem_toArray, List.getElem_cons_zero, List.getElem_cons_succ, List.setIfInBounds_toArray, List.set_cons_zero, List.set_cons_succ])
          refine Kr.doneL (by kernel_rfl) ?_ _
          go_upto_region 4 with fail
          refine Kr.seqStart ?_
          iterate 3 (refine Kr.seqP (v := ?_) (by rfl) ?_ ?_; rotate_left; (focus (go_simp; first | done | rfl)); (try simp only [Act.put, List.getElem_toArray, List.getElem_cons_zero, List.getElem_cons_succ, List.setIfInBounds_toArray, List.set_cons_zero, List.set_cons_succ]))
          refine Kr.seqDone ?_
          go_wp2
          go_roundw
          case rel =>
            refine ⟨j, p32, n32, c32, p30, n30, c30, by omega, ?_, Lib.hid (by rw [HX2.out, HOV.out.1, HOV.out.2]; exact H.pick [0, 2, 9, 10] rfl)⟩
            rcases Nat.eq_zero_or_pos j with h0 | h0
            · exact .inl ⟨h0, by subst h0; rfl⟩
            · exact .inr ⟨j - 1, by omega, by congr 1; omega⟩
          case measure => (simp [intOf] <;> omega)
set_option linter.unusedSimpArgs false in
set_option maxRecDepth 100000 in
set_option maxHeartbeats 16000000 in
theorem rgcd3_v {pa : Option Addr} {na ca : Nat} {pb : Option Addr} {nb cb : Nat} {x y : Nat} {w : World} (ha : Nw w pa na ca (digs x)) (hb : Nw w pb nb cb (digs y)) (vx : x < pw 900) (vy : y < pw 900) :
    Calls Try.prog 33 #[.agg #[.slice pa na ca], .agg #[.slice pb nb cb]] w (Has (Nat.gcd x y) w) := by
  have VX := Lib.hid vx
  have VY := Lib.hid vy
  clear vx vy
  have H := Sta.start w
  replace H := H.num ha
  replace H := H.num hb
  go_enter Try.func33, Try.ntmps33
  go_upto_region 0 with fail
  refine Kr.seqStart ?_
  refine Kr.seqS (fun K hK => ?_)
  go_simp
  obtain ⟨y1, hy⟩ : ∃ y, w.alloc (.cells #[.slice pa na ca] 24) = y := ⟨_, rfl⟩
  obtain ⟨ba, hb⟩ : ∃ b, w.heap.size = b := ⟨_, rfl⟩
  rw [hy, hb]
  replace H := H.alloc hy hb rfl
  clear hy hb
  refine hK.out _ _ ?_; clear hK K
  (try simp only [Act.put, List.getElem_toArray, List.getElem_cons_zero, List.getElem_cons_succ, List.setIfInBounds_toArray, List.set_cons_zero, List.set_cons_succ])
  refine Kr.seqS (fun K hK => ?_)
  go_simp
  obtain ⟨y2, hy⟩ : ∃ y, y1.alloc (.cells #[.slice pb nb cb] 24) = y := ⟨_, rfl⟩
  obtain ⟨bb, hb⟩ : ∃ b, y1.heap.size = b := ⟨_, rfl⟩
  rw [hy, hb]
  replace H := H.alloc hy hb rfl
  clear hy hb
  refine hK.out _ _ ?_; clear hK K
  (try simp only [Act.put, List.getElem_toArray, List.getElem_cons_zero, List.getElem_cons_succ, List.setIfInBounds_toArray, List.set_cons_zero, List.set_cons_succ])
  refine Kr.seqS (fun K hK => ?_)
  go_simp
  obtain ⟨y3, hy⟩ : ∃ y, y2.alloc (.cells #[.slice none 0 0] 24) = y := ⟨_, rfl⟩
  obtain ⟨br, hb⟩ : ∃ b, y2.heap.size = b := ⟨_, rfl⟩
  rw [hy, hb]
  replace H := H.alloc hy hb rfl
  clear hy hb
  refine hK.out _ _ ?_; clear hK K
  (try simp only [Act.put, List.getElem_toArray, List.getElem_cons_zero, List.getElem_cons_succ, List.setIfInBounds_toArray, List.set_cons_zero, List.set_cons_succ])
  refine Kr.seqDone ?_
  have H2 := Lib.hid (H.pick [1, 0] rfl)
  go_wp2
  go_loopw [] (fun wr => ∃ (x' y' : Nat) (p0 : Option Addr) (n0 c0 : Nat) (p1 : Option Addr) (n1 c1 : Nat), Hid (x' < pw 900) ∧ Hid (y' < pw 900) ∧ Hid (Nat.gcd x' y' = Nat.gcd x y) ∧ Hid (Sta w wr [(br, 0, .slice none 0 0), (bb, 0, .slice p1 n1 c1), (ba, 0, .slice p0 n0 c0)] [N p0 n0 c0 (x'), N p1 n1 c1 (y')])) (fun wr => numAt wr ⟨bb, 0, none⟩)
  case atStart => exact ⟨x, y, _, _, _, _, _, _, VX, VY, rfl, H2⟩
  case round =>
    clear H H2 VX VY
    obtain ⟨x', y', p0, n0, c0, p1, n1, c1, VX, VY, HGC, HH⟩ := hrel
    have H := HH.out
    clear HH
    have HMe := Lib.hid ((numAt_eq (H.at 1 rfl) (H.nw 1 rfl)).trans (val_digs y'))
    have HLN := Lib.hid (H.nw 1 rfl).len
    by_cases h : y' = 0
    · subst h
      have hn : n1 = 0 := by rw [← HLN.out, digs_zero]; rfl
      subst hn
      have HXG : Hid (x' = Nat.gcd x y) := Lib.hid (by rw [← HGC.out, Nat.gcd_zero_right])
      clear HLN HMe
      rw [HXG.out] at H
      have hk := H.c
      simp only [Kr.Cells] at hk
      go_upto_region 3 with fail
      clear hk
      refine Kr.seqStart ?_
      have hk := H.c
      simp only [Kr.Cells] at hk
      (refine Kr.seqP (v := ?_) (by rfl) ?_ ?_; rotate_left; (focus (go_simp; first | done | rfl)); (try simp only [Act.put, List.getElem_toArray, List.getElem_cons_zero, List.getElem_cons_succ, List.setIfInBounds_toArray, List.set_cons_zero, List.set_cons_succ]))
      refine Kr.seqS (fun K hK => ?_)
      go_simp
      clear hk
      obtain ⟨y4, hy⟩ : ∃ y, wr.setCell ⟨br, 0, none⟩ (.slice p0 n0 c0) = y := ⟨_, rfl⟩
      rw [hy]
      replace H := H.store 0 hy rfl rfl
      dsimp only [List.set] at H
      clear hy
      refine hK.out _ _ ?_; clear hK K
      (try simp only [Act.put, List.getElem_toArray, List.getElem_cons_zero, List.getElem_cons_succ, List.setIfInBounds_toArray, List.set_cons_zero, List.set_cons_succ])
      refine Kr.seqDone ?_
      have hk := H.c
      simp only [Kr.Cells] at hk
      go_wp2
      refine bodyPost_ret (v := .agg #[.slice p0 n0 c0]) (by simp [results, Try.results33, go_sem, hk]) rfl ⟨p0, n0, c0, rfl, H.nw 0 rfl, H.g⟩
    · have YP := Lib.hid (Nat.pos_of_ne_zero h)
      have hn : 0 < n1 := Nat.pos_of_ne_zero fun e => by rw [e] at HLN; have h2 := val_digs y'; rw [List.eq_nil_of_length_eq_zero HLN.out] at h2; exact h h2.symm
      clear HLN h
      have hk := H.c
      simp only [Kr.Cells] at hk
      go_upto_region 2 with fail
      clear hk
      refine Kr.startL (fun W' => Kr.Cells W' [(bb, 0, .slice p1 n1 c1), (ba, 0, .slice p0 n0 c0)]) [4, 5] (by kernel_rfl) ?_
      have gd : Gr wr wr.drew := (Gr.refl _).drew
      generalize wr.drew = d5 at gd ⊢
      replace H := H.grow gd
      clear gd
      (refine Kr.tS 0 [4, 5] (v := ?_) rfl (by kernel_rfl) (fun _ _ _ h => h) (by rfl) (H.sub [1, 2] rfl) (fun wx hSx => ?_) ?_; rotate_left; (focus (simp only [Kr.Cells] at hSx; go_simp; first | done | rfl)); (try simp only [Act.put, List.getElem_toArray, List.getElem_cons_zero, List.getElem_cons_succ, List.setIfInBounds_toArray, List.set_cons_zero, List.set_cons_succ]))
      (refine Kr.tS 1 [3, 4, 5] (v := ?_) rfl (by kernel_rfl) (fun _ _ _ h => h) (by rfl) (H.sub [1, 2] rfl) (fun wx hSx => ?_) ?_; rotate_left; (focus (simp only [Kr.Cells] at hSx; go_simp; first | done | rfl)); (try simp only [Act.put, List.getElem_toArray, List.getElem_cons_zero, List.getElem_cons_succ, List.setIfInBounds_toArray, List.set_cons_zero, List.set_cons_succ]))
      (refine Kr.tS 2 [3, 4, 5] (v := ?_) rfl (by kernel_rfl) (fun _ _ _ h => h) (by rfl) (H.sub [1, 2] rfl) (fun wx hSx => ?_) ?_; rotate_left; (focus (simp only [Kr.Cells] at hSx; go_simp; first | done | rfl)); (try simp only [Act.put, List.getElem_toArray, List.getElem_cons_zero, List.getElem_cons_succ, List.setIfInBounds_toArray, List.set_cons_zero, List.set_cons_succ]))
      refine Kr.readyL (rs := [3]) (by kernel_rfl) (by simp) ?_
      refine Kr.AllL.cons rfl (fun K hK => ?_) Kr.AllL.nil
      go_simp
      go_at_call 47
      refine (rmod3_v (H.nw 0 rfl) (H.nw 1 rfl) (Nat.lt_of_lt_of_le VX.out (pw_mono (by decide))) YP.out VY.out).mono ?_
      rintro e y6 ⟨p6, n6, c6, rfl, hr, hg⟩
      replace H := H.grow hg
      replace H := H.num hr
      clear hr hg
      refine hK.out _ _ (fun _ => (H.sub [1, 2] rfl)) ?_; clear hK K
      (try simp only [Act.put, List.getElem_toArray, List.getElem_cons_zero, List.getElem_cons_succ, List.setIfInBounds_toArray, List.set_cons_zero, List.set_cons_succ])
      refine Kr.readyL (rs := [4]) (by kernel_rfl) (by simp) ?_
      refine Kr.AllL.cons rfl (fun K hK => ?_) Kr.AllL.nil
      have hk := H.c
      simp only [Kr.Cells] at hk
      go_simp
      clear hk
      obtain ⟨y7, hy⟩ : ∃ y, y6.setCell ⟨ba, 0, none⟩ (.slice p1 n1 c1) = y := ⟨_, rfl⟩
      rw [hy]
      replace H := H.store 2 hy rfl rfl
      dsimp only [List.set] at H
      clear hy
      refine hK.out _ _ (Kr.noStill (by kernel_rfl)) ?_; clear hK K
      (try simp only [Act.put, List.getElem_toArray, List.getElem_cons_zero, List.getElem_cons_succ, List.setIfInBounds_toArray, List.set_cons_zero, List.set_cons_succ])
      refine Kr.readyL (rs := [5]) (by kernel_rfl) (by simp) ?_
      refine Kr.AllL.cons rfl (fun K hK => ?_) Kr.AllL.nil
      have hk := H.c
      simp only [Kr.Cells] at hk
      go_simp
      clear hk
      obtain ⟨y8, hy⟩ : ∃ y, y7.setCell ⟨bb, 0, none⟩ (.slice p6 n6 c6) = y := ⟨_, rfl⟩
      rw [hy]
      replace H := H.store 1 hy rfl rfl
      dsimp only [List.set] at H
      clear hy
      refine hK.out _ _ (Kr.noStill (by kernel_rfl)) ?_; clear hK K
      (try simp only [Act.put, List.getElem_toArray, List.getElem_cons_zero, List.getElem_cons_succ, List.setIfInBounds_toArray, List.set_cons_zero, List.set_cons_succ])
      refine Kr.doneL (by kernel_rfl) ?_ _
      go_wp2
      go_roundw
      case rel => exact ⟨y', x' % y', _, _, _, _, _, _, VY, Lib.hid (Nat.lt_trans (Nat.mod_lt _ YP.out) VY.out), Lib.hid (by rw [← HGC.out, Nat.gcd_comm x' y', Nat.gcd_rec y' x', Nat.gcd_comm y']), Lib.hid (H.pick [2, 0] rfl)⟩
      case measure => rw [HMe.out, numAt_eq (H.at 1 rfl) (H.nw 0 rfl), val_digs]; exact Nat.mod_lt _ YP.out
end Go.Proofs.Ytlciocebbckdcaa.Mr


/- The contracts of the third reference's Inverse and Crt. -/
namespace Go.Proofs.Ytlciocebbckdcaa.Mr
open Go.RowKit Go.Shelf Go.Proofs.Ytlciocebbckdcaa.Nm Go.Proofs.Ytlciocebbckdcaa.Ne Go.Proofs.Ytlciocebbckdcaa.Nf Go.Proofs.Ytlciocebbckdcaa.Nk Go.Proofs.Ytlciocebbckdcaa.Nv Go.Proofs.Ytlciocebbckdcaa.Nr2 Go.Proofs.Ytlciocebbckdcaa.Mo Go.Proofs.Ytlciocebbckdcaa.Mr Go.Proofs.Ytlciocebbckdcaa.Kr

theorem inv_unique {a m u v : Nat} (hu : IsInv a m u) (hv : IsInv a m v) : u = v := by
  obtain ⟨h1, h2⟩ := hu
  obtain ⟨h3, h4⟩ := hv
  have e1 : u * (a * v % m) % m = v * (a * u % m) % m := by
    rw [Nat.mul_mod_mod, Nat.mul_mod_mod, show u * (a * v) = v * (a * u) by rw [Nat.mul_left_comm, Nat.mul_left_comm v a u, Nat.mul_comm u v]]
  rw [h2, h4, Nat.mul_mod_mod, Nat.mul_mod_mod, Nat.mul_one, Nat.mul_one, Nat.mod_eq_of_lt h1, Nat.mod_eq_of_lt h3] at e1
  exact e1
theorem inv3_step {a m x y r s : Nat} (_hx : x < m) (hm : 0 < m) (h1 : (m : Int) ∣ (r : Int) - x * a) (h2 : (m : Int) ∣ (s : Int) - y * a) :
    (m : Int) ∣ ((r % s : Nat) : Int) - ((x + m - r / s % m * y % m) % m : Nat) * a := by
  obtain ⟨t, ht⟩ : ∃ t, r / s % m * y % m = t := ⟨_, rfl⟩
  have htm : t < m := by rw [← ht]; exact Nat.mod_lt _ hm
  obtain ⟨u, hu⟩ := h1
  obtain ⟨v, hv⟩ := h2
  have e1 : ∃ k : Int, (t : Int) = (r / s : Nat) * y - m * k := by
    have h := Nat.div_add_mod (r / s % m * y) m
    have h' := Nat.div_add_mod (r / s) m
    rw [ht] at h
    refine ⟨(r / s % m * y / m : Nat) + (r / s / m : Nat) * y, ?_⟩
    have h3 : ((r / s % m : Nat) : Int) = (r / s : Nat) - m * (r / s / m : Nat) := by have := congrArg (Nat.cast : Nat → Int) h'; push_cast at this; omega
    have h4 := congrArg (Nat.cast : Nat → Int) h
    rw [Int.natCast_add, Int.natCast_mul, Int.natCast_mul, h3, Int.sub_mul] at h4
    rw [Int.mul_add, ← Int.mul_assoc]
    omega
  have e2 : ∃ k : Int, ((((x + m - t) % m : Nat)) : Int) = x - t - m * k := by
    have h := Nat.div_add_mod (x + m - t) m
    refine ⟨((x + m - t) / m : Nat) - 1, ?_⟩
    have h4 := congrArg (Nat.cast : Nat → Int) h
    rw [Int.natCast_add, Int.natCast_mul] at h4
    rw [Int.mul_sub, Int.mul_one]
    omega
  rw [ht]
  obtain ⟨k1, e1⟩ := e1
  obtain ⟨k2, e2⟩ := e2
  have e3 : ((r % s : Nat) : Int) = r - (r / s : Nat) * s := by
    have h := Nat.div_add_mod r s
    have h4 := congrArg (Nat.cast : Nat → Int) h
    rw [Int.natCast_add, Int.natCast_mul] at h4
    rw [Int.mul_comm]
    omega
  refine ⟨u - (r / s : Nat) * v - k1 * a + k2 * a, ?_⟩
  rw [e2, e1, e3]
  generalize ((r / s : Nat) : Int) = Q
  have hr : (r : Int) = m * u + x * a := by omega
  have hs : (s : Int) = m * v + y * a := by omega
  rw [hr, hs]
  simp only [Int.mul_add, Int.mul_sub, Int.sub_mul, Int.mul_assoc]
  rw [show Q * (↑m * v) = ↑m * (Q * v) from Int.mul_left_comm .., show Q * ((y : Int) * ↑a) = Q * (↑y * ↑a) from rfl]
  omega
theorem inv3_end {a m x : Nat} (hx : x < m) (h : (m : Int) ∣ ((1 : Nat) : Int) - x * a) : IsInv a m x := isInv_of hx (by rwa [Int.mul_comm])

set_option linter.unusedSimpArgs false in
set_option maxRecDepth 100000 in
set_option maxHeartbeats 16000000 in
theorem rinv3_v {pa : Option Addr} {na ca : Nat} {pm : Option Addr} {nm cm : Nat} {a m : Nat} {w : World} (ha : Nw w pa na ca (digs a)) (hm : Nw w pm nm cm (digs m)) (va : a < m) (vm : m < pw 900) :
    Calls Try.prog 34 #[.agg #[.slice pa na ca], .agg #[.slice pm nm cm]] w (fun e w' => ∃ (p5 : Option Addr) (n5 c5 z : Nat), e = .returned (.tuple #[.agg #[.slice p5 n5 c5], .bool (decide (Nat.gcd a m = 1))]) ∧ (Nat.gcd a m = 1 → IsInv a m z) ∧ Nw w' p5 n5 c5 (digs z) ∧ Gr w w') := by
  have VA := Lib.hid va
  have VM := Lib.hid vm
  have M0 : Hid (0 < m) := Lib.hid (Nat.lt_of_le_of_lt (Nat.zero_le _) va)
  clear va vm
  have H := Sta.start w
  replace H := H.num ha
  replace H := H.num hm
  go_enter Try.func34, Try.ntmps34
  go_upto_region 0 with fail
  refine Kr.seqStart ?_
  refine Kr.seqS (fun K hK => ?_)
  go_simp
  obtain ⟨y1, hy⟩ : ∃ y, w.alloc (.cells #[.slice pa na ca] 24) = y := ⟨_, rfl⟩
  obtain ⟨ba, hb⟩ : ∃ b, w.heap.size = b := ⟨_, rfl⟩
  rw [hy, hb]
  replace H := H.alloc hy hb rfl
  clear hy hb
  refine hK.out _ _ ?_; clear hK K
  (try simp only [Act.put, List.getElem_toArray, List.getElem_cons_zero, List.getElem_cons_succ, List.setIfInBounds_toArray, List.set_cons_zero, List.set_cons_succ])
  refine Kr.seqS (fun K hK => ?_)
  go_simp
  obtain ⟨y2, hy⟩ : ∃ y, y1.alloc (.cells #[.slice pm nm cm] 24) = y := ⟨_, rfl⟩
  obtain ⟨bm, hb⟩ : ∃ b, y1.heap.size = b := ⟨_, rfl⟩
  rw [hy, hb]
  replace H := H.alloc hy hb rfl
  clear hy hb
  refine hK.out _ _ ?_; clear hK K
  (try simp only [Act.put, List.getElem_toArray, List.getElem_cons_zero, List.getElem_cons_succ, List.setIfInBounds_toArray, List.set_cons_zero, List.set_cons_succ])
  refine Kr.seqS (fun K hK => ?_)
  go_simp
  obtain ⟨y3, hy⟩ : ∃ y, y2.alloc (.cells #[.slice none 0 0] 24) = y := ⟨_, rfl⟩
  obtain ⟨bz, hb⟩ : ∃ b, y2.heap.size = b := ⟨_, rfl⟩
  rw [hy, hb]
  replace H := H.alloc hy hb rfl
  clear hy hb
  refine hK.out _ _ ?_; clear hK K
  (try simp only [Act.put, List.getElem_toArray, List.getElem_cons_zero, List.getElem_cons_succ, List.setIfInBounds_toArray, List.set_cons_zero, List.set_cons_succ])
  (refine Kr.seqP (v := ?_) (by rfl) ?_ ?_; rotate_left; (focus (go_simp; first | done | rfl)); (try simp only [Act.put, List.getElem_toArray, List.getElem_cons_zero, List.getElem_cons_succ, List.setIfInBounds_toArray, List.set_cons_zero, List.set_cons_succ]))
  refine Kr.seqDone ?_
  go_upto_region 1 with fail
  go_cut [6, 7] from 11 to 12 (fun s6 s7 W => ∃ (br : Nat) (bs : Nat), s6 = .pointer (some ⟨br, 0, none⟩) ∧ s7 = .pointer (some ⟨bs, 0, none⟩) ∧ Hid (Sta w W [(br, 0, .slice pm nm cm), (bs, 0, .slice pa na ca), (bz, 0, .slice none 0 0), (bm, 0, .slice pm nm cm), (ba, 0, .slice pa na ca)] [N pm nm cm (m), N pa na ca (a)]))
  case first =>
    refine Kr.startL (fun W' => Kr.Cells W' [(bm, 0, .slice pm nm cm), (ba, 0, .slice pa na ca)]) [] (by kernel_rfl) ?_
    have gd : Gr y3 y3.drew := (Gr.refl _).drew
    generalize y3.drew = d4 at gd ⊢
    replace H := H.grow gd
    clear gd
    (refine Kr.tS 0 [] (v := ?_) rfl (by kernel_rfl) (fun _ _ _ h => h) (by rfl) (H.sub [1, 2] rfl) (fun wx hSx => ?_) ?_; rotate_left; (focus (simp only [Kr.Cells] at hSx; go_simp; first | done | rfl)); (try simp only [Act.put, List.getElem_toArray, List.getElem_cons_zero, List.getElem_cons_succ, List.setIfInBounds_toArray, List.set_cons_zero, List.set_cons_succ]))
    (refine Kr.tS 1 [] (v := ?_) rfl (by kernel_rfl) (fun _ _ _ h => h) (by rfl) (H.sub [1, 2] rfl) (fun wx hSx => ?_) ?_; rotate_left; (focus (simp only [Kr.Cells] at hSx; go_simp; first | done | rfl)); (try simp only [Act.put, List.getElem_toArray, List.getElem_cons_zero, List.getElem_cons_succ, List.setIfInBounds_toArray, List.set_cons_zero, List.set_cons_succ]))
    refine Kr.readyL (rs := [2, 3]) (by kernel_rfl) (by simp) ?_
    refine Kr.AllL.cons rfl (fun K hK => ?_) ?_
    · go_simp
      obtain ⟨y5, hy⟩ : ∃ y, d4.alloc (.cells #[.slice none 0 0] 24) = y := ⟨_, rfl⟩
      obtain ⟨br, hb⟩ : ∃ b, d4.heap.size = b := ⟨_, rfl⟩
      rw [hy, hb]
      replace H := H.alloc hy hb rfl
      clear hy hb
      refine hK.out _ _ (fun _ => (H.sub [2, 3] rfl)) ?_; clear hK K
      (try simp only [Act.put, List.getElem_toArray, List.getElem_cons_zero, List.getElem_cons_succ, List.setIfInBounds_toArray, List.set_cons_zero, List.set_cons_succ])
      refine Kr.readyL (rs := [3]) (by kernel_rfl) (by simp) ?_
      refine Kr.AllL.cons rfl (fun K hK => ?_) Kr.AllL.nil
      go_simp
      obtain ⟨y6, hy⟩ : ∃ y, y5.alloc (.cells #[.slice none 0 0] 24) = y := ⟨_, rfl⟩
      obtain ⟨bs, hb⟩ : ∃ b, y5.heap.size = b := ⟨_, rfl⟩
      rw [hy, hb]
      replace H := H.alloc hy hb rfl
      clear hy hb
      refine hK.out _ _ (fun _ => (H.sub [3, 4] rfl)) ?_; clear hK K
      (try simp only [Act.put, List.getElem_toArray, List.getElem_cons_zero, List.getElem_cons_succ, List.setIfInBounds_toArray, List.set_cons_zero, List.set_cons_succ])
      refine Kr.readyL (rs := [4]) (by kernel_rfl) (by simp) ?_
      refine Kr.AllL.cons rfl (fun K hK => ?_) Kr.AllL.nil
      have hk := H.c
      simp only [Kr.Cells] at hk
      go_simp
      clear hk
      obtain ⟨y7, hy⟩ : ∃ y, y6.setCell ⟨br, 0, none⟩ (.slice pm nm cm) = y := ⟨_, rfl⟩
      rw [hy]
      replace H := H.store 1 hy rfl rfl
      dsimp only [List.set] at H
      clear hy
      refine hK.out _ _ (fun _ => (H.sub [3, 4] rfl)) ?_; clear hK K
      (try simp only [Act.put, List.getElem_toArray, List.getElem_cons_zero, List.getElem_cons_succ, List.setIfInBounds_toArray, List.set_cons_zero, List.set_cons_succ])
      refine Kr.readyL (rs := [5]) (by kernel_rfl) (by simp) ?_
      refine Kr.AllL.cons rfl (fun K hK => ?_) Kr.AllL.nil
      have hk := H.c
      simp only [Kr.Cells] at hk
      go_simp
      clear hk
      obtain ⟨y8, hy⟩ : ∃ y, y7.setCell ⟨bs, 0, none⟩ (.slice pa na ca) = y := ⟨_, rfl⟩
      rw [hy]
      replace H := H.store 0 hy rfl rfl
      dsimp only [List.set] at H
      clear hy
      refine hK.out _ _ (fun _ => (H.sub [3, 4] rfl)) ?_; clear hK K
      (try simp only [Act.put, List.getElem_toArray, List.getElem_cons_zero, List.getElem_cons_succ, List.setIfInBounds_toArray, List.set_cons_zero, List.set_cons_succ])
      refine Kr.doneL (by kernel_rfl) ?_ _
      go_wp2_with fail
      go_meet
      exact ⟨_, _, rfl, rfl, Lib.hid (H.pickC [1, 0, 2, 3, 4] (by decide) rfl)⟩
    refine Kr.AllL.cons rfl (fun K hK => ?_) Kr.AllL.nil
    go_simp
    obtain ⟨y9, hy⟩ : ∃ y, d4.alloc (.cells #[.slice none 0 0] 24) = y := ⟨_, rfl⟩
    obtain ⟨bs, hb⟩ : ∃ b, d4.heap.size = b := ⟨_, rfl⟩
    rw [hy, hb]
    replace H := H.alloc hy hb rfl
    clear hy hb
    refine hK.out _ _ (fun _ => (H.sub [2, 3] rfl)) ?_; clear hK K
    (try simp only [Act.put, List.getElem_toArray, List.getElem_cons_zero, List.getElem_cons_succ, List.setIfInBounds_toArray, List.set_cons_zero, List.set_cons_succ])
    refine Kr.readyL (rs := [2]) (by kernel_rfl) (by simp) ?_
    refine Kr.AllL.cons rfl (fun K hK => ?_) Kr.AllL.nil
    go_simp
    obtain ⟨y10, hy⟩ : ∃ y, y9.alloc (.cells #[.slice none 0 0] 24) = y := ⟨_, rfl⟩
    obtain ⟨br, hb⟩ : ∃ b, y9.heap.size = b := ⟨_, rfl⟩
    rw [hy, hb]
    replace H := H.alloc hy hb rfl
    clear hy hb
    refine hK.out _ _ (fun _ => (H.sub [3, 4] rfl)) ?_; clear hK K
    (try simp only [Act.put, List.getElem_toArray, List.getElem_cons_zero, List.getElem_cons_succ, List.setIfInBounds_toArray, List.set_cons_zero, List.set_cons_succ])
    refine Kr.readyL (rs := [4]) (by kernel_rfl) (by simp) ?_
    refine Kr.AllL.cons rfl (fun K hK => ?_) Kr.AllL.nil
    have hk := H.c
    simp only [Kr.Cells] at hk
    go_simp
    clear hk
    obtain ⟨y11, hy⟩ : ∃ y, y10.setCell ⟨br, 0, none⟩ (.slice pm nm cm) = y := ⟨_, rfl⟩
    rw [hy]
    replace H := H.store 0 hy rfl rfl
    dsimp only [List.set] at H
    clear hy
    refine hK.out _ _ (fun _ => (H.sub [3, 4] rfl)) ?_; clear hK K
    (try simp only [Act.put, List.getElem_toArray, List.getElem_cons_zero, List.getElem_cons_succ, List.setIfInBounds_toArray, List.set_cons_zero, List.set_cons_succ])
    refine Kr.readyL (rs := [5]) (by kernel_rfl) (by simp) ?_
    refine Kr.AllL.cons rfl (fun K hK => ?_) Kr.AllL.nil
    have hk := H.c
    simp only [Kr.Cells] at hk
    go_simp
    clear hk
    obtain ⟨y12, hy⟩ : ∃ y, y11.setCell ⟨bs, 0, none⟩ (.slice pa na ca) = y := ⟨_, rfl⟩
    rw [hy]
    replace H := H.store 1 hy rfl rfl
    dsimp only [List.set] at H
    clear hy
    refine hK.out _ _ (fun _ => (H.sub [3, 4] rfl)) ?_; clear hK K
    (try simp only [Act.put, List.getElem_toArray, List.getElem_cons_zero, List.getElem_cons_succ, List.setIfInBounds_toArray, List.set_cons_zero, List.set_cons_succ])
    refine Kr.doneL (by kernel_rfl) ?_ _
    go_wp2_with fail
    go_meet
    exact ⟨_, _, rfl, rfl, Lib.hid H⟩
  case rest =>
    clear H
    obtain ⟨br, bs, rfl, rfl, HH⟩ := hcut
    have H := HH.out
    clear HH
    go_upto_region 2 with fail
    go_cut [8, 9] from 13 to 16 (fun s8 s9 W => ∃ (bu : Nat) (bv : Nat) (p69 : Option Addr) (n69 c69 : Nat) (p68 : Option Addr) (n68 c68 : Nat), s8 = .pointer (some ⟨bu, 0, none⟩) ∧ s9 = .pointer (some ⟨bv, 0, none⟩) ∧ Hid (Sta w W [(bu, 0, .slice none 0 0), (bv, 0, .slice p69 n69 c69), (br, 0, .slice pm nm cm), (bs, 0, .slice pa na ca), (bz, 0, .slice none 0 0), (bm, 0, .slice pm nm cm), (ba, 0, .slice pa na ca)] [N p69 n69 c69 (1 % m), N p68 n68 c68 (1), N pm nm cm (m), N pa na ca (a)]))
    case first =>
      refine Kr.startL (fun W' => Kr.Cells W' [(bm, 0, .slice pm nm cm)]) [] (by kernel_rfl) ?_
      have gd : Gr wc wc.drew := (Gr.refl _).drew
      generalize wc.drew = d13 at gd ⊢
      replace H := H.grow gd
      clear gd
      (refine Kr.tP 0 (v := ?_) rfl (by kernel_rfl) (fun _ _ _ h => h) (by rfl) (fun _ => (H.sub [3] rfl)) (fun wx => ?_) ?_; rotate_left; (focus (go_simp; first | done | rfl)); (try simp only [Act.put, List.getElem_toArray, List.getElem_cons_zero, List.getElem_cons_succ, List.setIfInBounds_toArray, List.set_cons_zero, List.set_cons_succ]))
      (refine Kr.tS 2 [] (v := ?_) rfl (by kernel_rfl) (fun _ _ _ h => h) (by rfl) (H.sub [3] rfl) (fun wx hSx => ?_) ?_; rotate_left; (focus (simp only [Kr.Cells] at hSx; go_simp; first | done | rfl)); (try simp only [Act.put, List.getElem_toArray, List.getElem_cons_zero, List.getElem_cons_succ, List.setIfInBounds_toArray, List.set_cons_zero, List.set_cons_succ]))
      refine Kr.readyL (rs := [1, 4, 5]) (by kernel_rfl) (by simp) ?_
      refine Kr.AllL.cons rfl (fun K hK => ?_) ?_
      · go_simp
        go_at_call 38
        refine (of3_v 1 (by decide) _).mono ?_
        rintro e y14 ⟨p14, n14, c14, rfl, hr, hg⟩
        replace H := H.grow hg
        replace H := H.num hr.toNw
        clear hr hg
        refine hK.out _ _ (fun _ => (H.sub [3] rfl)) ?_; clear hK K
        (try simp only [Act.put, List.getElem_toArray, List.getElem_cons_zero, List.getElem_cons_succ, List.setIfInBounds_toArray, List.set_cons_zero, List.set_cons_succ])
        refine Kr.readyL (rs := [3, 4, 5]) (by kernel_rfl) (by simp) ?_
        refine Kr.AllL.cons rfl (fun K hK => ?_) ?_
        · go_simp
          go_at_call 47
          refine (rmod3_v (H.nw 0 rfl) (H.nw 1 rfl) (pw_pos' 999) M0.out VM.out).mono ?_
          rintro e y15 ⟨p15, n15, c15, rfl, hr, hg⟩
          replace H := H.grow hg
          replace H := H.num hr
          clear hr hg
          refine hK.out _ _ (fun _ => (H.sub [3] rfl)) ?_; clear hK K
          (try simp only [Act.put, List.getElem_toArray, List.getElem_cons_zero, List.getElem_cons_succ, List.setIfInBounds_toArray, List.set_cons_zero, List.set_cons_succ])
          refine Kr.readyL (rs := [4, 5]) (by kernel_rfl) (by simp) ?_
          refine Kr.AllL.cons rfl (fun K hK => ?_) ?_
          · go_simp
            obtain ⟨y16, hy⟩ : ∃ y, y15.alloc (.cells #[.slice none 0 0] 24) = y := ⟨_, rfl⟩
            obtain ⟨bu, hb⟩ : ∃ b, y15.heap.size = b := ⟨_, rfl⟩
            rw [hy, hb]
            replace H := H.alloc hy hb rfl
            clear hy hb
            refine hK.out _ _ (fun _ => (H.sub [4] rfl)) ?_; clear hK K
            (try simp only [Act.put, List.getElem_toArray, List.getElem_cons_zero, List.getElem_cons_succ, List.setIfInBounds_toArray, List.set_cons_zero, List.set_cons_succ])
            refine Kr.readyL (rs := [5]) (by kernel_rfl) (by simp) ?_
            refine Kr.AllL.cons rfl (fun K hK => ?_) Kr.AllL.nil
            go_simp
            obtain ⟨y17, hy⟩ : ∃ y, y16.alloc (.cells #[.slice none 0 0] 24) = y := ⟨_, rfl⟩
            obtain ⟨bv, hb⟩ : ∃ b, y16.heap.size = b := ⟨_, rfl⟩
            rw [hy, hb]
            replace H := H.alloc hy hb rfl
            clear hy hb
            refine hK.out _ _ (fun _ => (H.sub [5] rfl)) ?_; clear hK K
            (try simp only [Act.put, List.getElem_toArray, List.getElem_cons_zero, List.getElem_cons_succ, List.setIfInBounds_toArray, List.set_cons_zero, List.set_cons_succ])
            refine Kr.readyL (rs := [6]) (by kernel_rfl) (by simp) ?_
            refine Kr.AllL.cons rfl (fun K hK => ?_) Kr.AllL.nil
            have hk := H.c
            simp only [Kr.Cells] at hk
            go_simp
            clear hk
            obtain ⟨y18, hy⟩ : ∃ y, y17.setCell ⟨bu, 0, none⟩ (.slice none 0 0) = y := ⟨_, rfl⟩
            rw [hy]
            replace H := H.store 1 hy rfl rfl
            dsimp only [List.set] at H
            clear hy
            refine hK.out _ _ (fun _ => (H.sub [5] rfl)) ?_; clear hK K
            (try simp only [Act.put, List.getElem_toArray, List.getElem_cons_zero, List.getElem_cons_succ, List.setIfInBounds_toArray, List.set_cons_zero, List.set_cons_succ])
            refine Kr.readyL (rs := [7]) (by kernel_rfl) (by simp) ?_
            refine Kr.AllL.cons rfl (fun K hK => ?_) Kr.AllL.nil
            have hk := H.c
            simp only [Kr.Cells] at hk
            go_simp
            clear hk
            obtain ⟨y19, hy⟩ : ∃ y, y18.setCell ⟨bv, 0, none⟩ (.slice p15 n15 c15) = y := ⟨_, rfl⟩
            rw [hy]
            replace H := H.store 0 hy rfl rfl
            dsimp only [List.set] at H
            clear hy
            refine hK.out _ _ (fun _ => (H.sub [5] rfl)) ?_; clear hK K
            (try simp only [Act.put, List.getElem_toArray, List.getElem_cons_zero, List.getElem_cons_succ, List.setIfInBounds_toArray, List.set_cons_zero, List.set_cons_succ])
            refine Kr.doneL (by kernel_rfl) ?_ _
            go_wp2_with fail
            go_meet
            exact ⟨_, _, _, _, _, _, _, _, rfl, rfl, Lib.hid (H.pickC [1, 0, 2, 3, 4, 5, 6] (by decide) rfl)⟩
          refine Kr.AllL.cons rfl (fun K hK => ?_) Kr.AllL.nil
          go_simp
          obtain ⟨y20, hy⟩ : ∃ y, y15.alloc (.cells #[.slice none 0 0] 24) = y := ⟨_, rfl⟩
          obtain ⟨bv, hb⟩ : ∃ b, y15.heap.size = b := ⟨_, rfl⟩
          rw [hy, hb]
          replace H := H.alloc hy hb rfl
          clear hy hb
          refine hK.out _ _ (fun _ => (H.sub [4] rfl)) ?_; clear hK K
          (try simp only [Act.put, List.getElem_toArray, List.getElem_cons_zero, List.getElem_cons_succ, List.setIfInBounds_toArray, List.set_cons_zero, List.set_cons_succ])
          refine Kr.readyL (rs := [4]) (by kernel_rfl) (by simp) ?_
          refine Kr.AllL.cons rfl (fun K hK => ?_) Kr.AllL.nil
          go_simp
          obtain ⟨y21, hy⟩ : ∃ y, y20.alloc (.cells #[.slice none 0 0] 24) = y := ⟨_, rfl⟩
          obtain ⟨bu, hb⟩ : ∃ b, y20.heap.size = b := ⟨_, rfl⟩
          rw [hy, hb]
          replace H := H.alloc hy hb rfl
          clear hy hb
          refine hK.out _ _ (fun _ => (H.sub [5] rfl)) ?_; clear hK K
          (try simp only [Act.put, List.getElem_toArray, List.getElem_cons_zero, List.getElem_cons_succ, List.setIfInBounds_toArray, List.set_cons_zero, List.set_cons_succ])
          refine Kr.readyL (rs := [6]) (by kernel_rfl) (by simp) ?_
          refine Kr.AllL.cons rfl (fun K hK => ?_) Kr.AllL.nil
          have hk := H.c
          simp only [Kr.Cells] at hk
          go_simp
          clear hk
          obtain ⟨y22, hy⟩ : ∃ y, y21.setCell ⟨bu, 0, none⟩ (.slice none 0 0) = y := ⟨_, rfl⟩
          rw [hy]
          replace H := H.store 0 hy rfl rfl
          dsimp only [List.set] at H
          clear hy
          refine hK.out _ _ (fun _ => (H.sub [5] rfl)) ?_; clear hK K
          (try simp only [Act.put, List.getElem_toArray, List.getElem_cons_zero, List.getElem_cons_succ, List.setIfInBounds_toArray, List.set_cons_zero, List.set_cons_succ])
          refine Kr.readyL (rs := [7]) (by kernel_rfl) (by simp) ?_
          refine Kr.AllL.cons rfl (fun K hK => ?_) Kr.AllL.nil
          have hk := H.c
          simp only [Kr.Cells] at hk
          go_simp
          clear hk
          obtain ⟨y23, hy⟩ : ∃ y, y22.setCell ⟨bv, 0, none⟩ (.slice p15 n15 c15) = y := ⟨_, rfl⟩
          rw [hy]
          replace H := H.store 1 hy rfl rfl
          dsimp only [List.set] at H
          clear hy
          refine hK.out _ _ (fun _ => (H.sub [5] rfl)) ?_; clear hK K
          (try simp only [Act.put, List.getElem_toArray, List.getElem_cons_zero, List.getElem_cons_succ, List.setIfInBounds_toArray, List.set_cons_zero, List.set_cons_succ])
          refine Kr.doneL (by kernel_rfl) ?_ _
          go_wp2_with fail
          go_meet
          exact ⟨_, _, _, _, _, _, _, _, rfl, rfl, Lib.hid H⟩
        refine Kr.AllL.cons rfl (fun K hK => ?_) ?_
        · go_simp
          obtain ⟨y24, hy⟩ : ∃ y, y14.alloc (.cells #[.slice none 0 0] 24) = y := ⟨_, rfl⟩
          obtain ⟨bu, hb⟩ : ∃ b, y14.heap.size = b := ⟨_, rfl⟩
          rw [hy, hb]
          replace H := H.alloc hy hb rfl
          clear hy hb
          refine hK.out _ _ (fun _ => (H.sub [4] rfl)) ?_; clear hK K
          (try simp only [Act.put, List.getElem_toArray, List.getElem_cons_zero, List.getElem_cons_succ, List.setIfInBounds_toArray, List.set_cons_zero, List.set_cons_succ])
          refine Kr.readyL (rs := [3, 5]) (by kernel_rfl) (by simp) ?_
          refine Kr.AllL.cons rfl (fun K hK => ?_) ?_
          · go_simp
            go_at_call 47
            refine (rmod3_v (H.nw 0 rfl) (H.nw 1 rfl) (pw_pos' 999) M0.out VM.out).mono ?_
            rintro e y25 ⟨p25, n25, c25, rfl, hr, hg⟩
            replace H := H.grow hg
            replace H := H.num hr
            clear hr hg
            refine hK.out _ _ (fun _ => (H.sub [4] rfl)) ?_; clear hK K
            (try simp only [Act.put, List.getElem_toArray, List.getElem_cons_zero, List.getElem_cons_succ, List.setIfInBounds_toArray, List.set_cons_zero, List.set_cons_succ])
            refine Kr.readyL (rs := [5]) (by kernel_rfl) (by simp) ?_
            refine Kr.AllL.cons rfl (fun K hK => ?_) Kr.AllL.nil
            go_simp
            obtain ⟨y26, hy⟩ : ∃ y, y25.alloc (.cells #[.slice none 0 0] 24) = y := ⟨_, rfl⟩
            obtain ⟨bv, hb⟩ : ∃ b, y25.heap.size = b := ⟨_, rfl⟩
            rw [hy, hb]
            replace H := H.alloc hy hb rfl
            clear hy hb
            refine hK.out _ _ (fun _ => (H.sub [5] rfl)) ?_; clear hK K
            (try simp only [Act.put, List.getElem_toArray, List.getElem_cons_zero, List.getElem_cons_succ, List.setIfInBounds_toArray, List.set_cons_zero, List.set_cons_succ])
            refine Kr.readyL (rs := [6]) (by kernel_rfl) (by simp) ?_
            refine Kr.AllL.cons rfl (fun K hK => ?_) Kr.AllL.nil
            have hk := H.c
            simp only [Kr.Cells] at hk
            go_simp
            clear hk
            obtain ⟨y27, hy⟩ : ∃ y, y26.setCell ⟨bu, 0, none⟩ (.slice none 0 0) = y := ⟨_, rfl⟩
            rw [hy]
            replace H := H.store 1 hy rfl rfl
            dsimp only [List.set] at H
            clear hy
            refine hK.out _ _ (fun _ => (H.sub [5] rfl)) ?_; clear hK K
            (try simp only [Act.put, List.getElem_toArray, List.getElem_cons_zero, List.getElem_cons_succ, List.setIfInBounds_toArray, List.set_cons_zero, List.set_cons_succ])
            refine Kr.readyL (rs := [7]) (by kernel_rfl) (by simp) ?_
            refine Kr.AllL.cons rfl (fun K hK => ?_) Kr.AllL.nil
            have hk := H.c
            simp only [Kr.Cells] at hk
            go_simp
            clear hk
            obtain ⟨y28, hy⟩ : ∃ y, y27.setCell ⟨bv, 0, none⟩ (.slice p25 n25 c25) = y := ⟨_, rfl⟩
            rw [hy]
            replace H := H.store 0 hy rfl rfl
            dsimp only [List.set] at H
            clear hy
            refine hK.out _ _ (fun _ => (H.sub [5] rfl)) ?_; clear hK K
            (try simp only [Act.put, List.getElem_toArray, List.getElem_cons_zero, List.getElem_cons_succ, List.setIfInBounds_toArray, List.set_cons_zero, List.set_cons_succ])
            refine Kr.doneL (by kernel_rfl) ?_ _
            go_wp2_with fail
            go_meet
            exact ⟨_, _, _, _, _, _, _, _, rfl, rfl, Lib.hid (H.pickC [1, 0, 2, 3, 4, 5, 6] (by decide) rfl)⟩
          refine Kr.AllL.cons rfl (fun K hK => ?_) Kr.AllL.nil
          go_simp
          obtain ⟨y29, hy⟩ : ∃ y, y24.alloc (.cells #[.slice none 0 0] 24) = y := ⟨_, rfl⟩
          obtain ⟨bv, hb⟩ : ∃ b, y24.heap.size = b := ⟨_, rfl⟩
          rw [hy, hb]
          replace H := H.alloc hy hb rfl
          clear hy hb
          refine hK.out _ _ (fun _ => (H.sub [5] rfl)) ?_; clear hK K
          (try simp only [Act.put, List.getElem_toArray, List.getElem_cons_zero, List.getElem_cons_succ, List.setIfInBounds_toArray, List.set_cons_zero, List.set_cons_succ])
          refine Kr.readyL (rs := [3]) (by kernel_rfl) (by simp) ?_
          refine Kr.AllL.cons rfl (fun K hK => ?_) Kr.AllL.nil
          go_simp
          go_at_call 47
          refine (rmod3_v (H.nw 0 rfl) (H.nw 1 rfl) (pw_pos' 999) M0.out VM.out).mono ?_
          rintro e y30 ⟨p30, n30, c30, rfl, hr, hg⟩
          replace H := H.grow hg
          replace H := H.num hr
          clear hr hg
          refine hK.out _ _ (fun _ => (H.sub [5] rfl)) ?_; clear hK K
          (try simp only [Act.put, List.getElem_toArray, List.getElem_cons_zero, List.getElem_cons_succ, List.setIfInBounds_toArray, List.set_cons_zero, List.set_cons_succ])
          refine Kr.readyL (rs := [6]) (by kernel_rfl) (by simp) ?_
          refine Kr.AllL.cons rfl (fun K hK => ?_) Kr.AllL.nil
          have hk := H.c
          simp only [Kr.Cells] at hk
          go_simp
          clear hk
          obtain ⟨y31, hy⟩ : ∃ y, y30.setCell ⟨bu, 0, none⟩ (.slice none 0 0) = y := ⟨_, rfl⟩
          rw [hy]
          replace H := H.store 1 hy rfl rfl
          dsimp only [List.set] at H
          clear hy
          refine hK.out _ _ (fun _ => (H.sub [5] rfl)) ?_; clear hK K
          (try simp only [Act.put, List.getElem_toArray, List.getElem_cons_zero, List.getElem_cons_succ, List.setIfInBounds_toArray, List.set_cons_zero, List.set_cons_succ])
          refine Kr.readyL (rs := [7]) (by kernel_rfl) (by simp) ?_
          refine Kr.AllL.cons rfl (fun K hK => ?_) Kr.AllL.nil
          have hk := H.c
          simp only [Kr.Cells] at hk
          go_simp
          clear hk
          obtain ⟨y32, hy⟩ : ∃ y, y31.setCell ⟨bv, 0, none⟩ (.slice p30 n30 c30) = y := ⟨_, rfl⟩
          rw [hy]
          replace H := H.store 0 hy rfl rfl
          dsimp only [List.set] at H
          clear hy
          refine hK.out _ _ (fun _ => (H.sub [5] rfl)) ?_; clear hK K
          (try simp only [Act.put, List.getElem_toArray, List.getElem_cons_zero, List.getElem_cons_succ, List.setIfInBounds_toArray, List.set_cons_zero, List.set_cons_succ])
          refine Kr.doneL (by kernel_rfl) ?_ _
          go_wp2_with fail
          go_meet
          exact ⟨_, _, _, _, _, _, _, _, rfl, rfl, Lib.hid (H.pickC [1, 0, 2, 3, 4, 5, 6] (by decide) rfl)⟩
        refine Kr.AllL.cons rfl (fun K hK => ?_) Kr.AllL.nil
        go_simp
        obtain ⟨y33, hy⟩ : ∃ y, y14.alloc (.cells #[.slice none 0 0] 24) = y := ⟨_, rfl⟩
        obtain ⟨bv, hb⟩ : ∃ b, y14.heap.size = b := ⟨_, rfl⟩
        rw [hy, hb]
        replace H := H.alloc hy hb rfl
        clear hy hb
        refine hK.out _ _ (fun _ => (H.sub [4] rfl)) ?_; clear hK K
        (try simp only [Act.put, List.getElem_toArray, List.getElem_cons_zero, List.getElem_cons_succ, List.setIfInBounds_toArray, List.set_cons_zero, List.set_cons_succ])
        refine Kr.readyL (rs := [3, 4]) (by kernel_rfl) (by simp) ?_
        refine Kr.AllL.cons rfl (fun K hK => ?_) ?_
        · go_simp
          go_at_call 47
          refine (rmod3_v (H.nw 0 rfl) (H.nw 1 rfl) (pw_pos' 999) M0.out VM.out).mono ?_
          rintro e y34 ⟨p34, n34, c34, rfl, hr, hg⟩
          replace H := H.grow hg
          replace H := H.num hr
          clear hr hg
          refine hK.out _ _ (fun _ => (H.sub [4] rfl)) ?_; clear hK K
          (try simp only [Act.put, List.getElem_toArray, List.getElem_cons_zero, List.getElem_cons_succ, List.setIfInBounds_toArray, List.set_cons_zero, List.set_cons_succ])
          refine Kr.readyL (rs := [4]) (by kernel_rfl) (by simp) ?_
          refine Kr.AllL.cons rfl (fun K hK => ?_) Kr.AllL.nil
          go_simp
          obtain ⟨y35, hy⟩ : ∃ y, y34.alloc (.cells #[.slice none 0 0] 24) = y := ⟨_, rfl⟩
          obtain ⟨bu, hb⟩ : ∃ b, y34.heap.size = b := ⟨_, rfl⟩
          rw [hy, hb]
          replace H := H.alloc hy hb rfl
          clear hy hb
          refine hK.out _ _ (fun _ => (H.sub [5] rfl)) ?_; clear hK K
          (try simp only [Act.put, List.getElem_toArray, List.getElem_cons_zero, List.getElem_cons_succ, List.setIfInBounds_toArray, List.set_cons_zero, List.set_cons_succ])
          refine Kr.readyL (rs := [6]) (by kernel_rfl) (by simp) ?_
          refine Kr.AllL.cons rfl (fun K hK => ?_) Kr.AllL.nil
          have hk := H.c
          simp only [Kr.Cells] at hk
          go_simp
          clear hk
          obtain ⟨y36, hy⟩ : ∃ y, y35.setCell ⟨bu, 0, none⟩ (.slice none 0 0) = y := ⟨_, rfl⟩
          rw [hy]
          replace H := H.store 0 hy rfl rfl
          dsimp only [List.set] at H
          clear hy
          refine hK.out _ _ (fun _ => (H.sub [5] rfl)) ?_; clear hK K
          (try simp only [Act.put, List.getElem_toArray, List.getElem_cons_zero, List.getElem_cons_succ, List.setIfInBounds_toArray, List.set_cons_zero, List.set_cons_succ])
          refine Kr.readyL (rs := [7]) (by kernel_rfl) (by simp) ?_
          refine Kr.AllL.cons rfl (fun K hK => ?_) Kr.AllL.nil
          have hk := H.c
          simp only [Kr.Cells] at hk
          go_simp
          clear hk
          obtain ⟨y37, hy⟩ : ∃ y, y36.setCell ⟨bv, 0, none⟩ (.slice p34 n34 c34) = y := ⟨_, rfl⟩
          rw [hy]
          replace H := H.store 1 hy rfl rfl
          dsimp only [List.set] at H
          clear hy
          refine hK.out _ _ (fun _ => (H.sub [5] rfl)) ?_; clear hK K
          (try simp only [Act.put, List.getElem_toArray, List.getElem_cons_zero, List.getElem_cons_succ, List.setIfInBounds_toArray, List.set_cons_zero, List.set_cons_succ])
          refine Kr.doneL (by kernel_rfl) ?_ _
          go_wp2_with fail
          go_meet
          exact ⟨_, _, _, _, _, _, _, _, rfl, rfl, Lib.hid H⟩
        refine Kr.AllL.cons rfl (fun K hK => ?_) Kr.AllL.nil
        go_simp
        obtain ⟨y38, hy⟩ : ∃ y, y33.alloc (.cells #[.slice none 0 0] 24) = y := ⟨_, rfl⟩
        obtain ⟨bu, hb⟩ : ∃ b, y33.heap.size = b := ⟨_, rfl⟩
        rw [hy, hb]
        replace H := H.alloc hy hb rfl
        clear hy hb
        refine hK.out _ _ (fun _ => (H.sub [5] rfl)) ?_; clear hK K
        (try simp only [Act.put, List.getElem_toArray, List.getElem_cons_zero, List.getElem_cons_succ, List.setIfInBounds_toArray, List.set_cons_zero, List.set_cons_succ])
        refine Kr.readyL (rs := [3]) (by kernel_rfl) (by simp) ?_
        refine Kr.AllL.cons rfl (fun K hK => ?_) Kr.AllL.nil
        go_simp
        go_at_call 47
        refine (rmod3_v (H.nw 0 rfl) (H.nw 1 rfl) (pw_pos' 999) M0.out VM.out).mono ?_
        rintro e y39 ⟨p39, n39, c39, rfl, hr, hg⟩
        replace H := H.grow hg
        replace H := H.num hr
        clear hr hg
        refine hK.out _ _ (fun _ => (H.sub [5] rfl)) ?_; clear hK K
        (try simp only [Act.put, List.getElem_toArray, List.getElem_cons_zero, List.getElem_cons_succ, List.setIfInBounds_toArray, List.set_cons_zero, List.set_cons_succ])
        refine Kr.readyL (rs := [6]) (by kernel_rfl) (by simp) ?_
        refine Kr.AllL.cons rfl (fun K hK => ?_) Kr.AllL.nil
        have hk := H.c
        simp only [Kr.Cells] at hk
        go_simp
        clear hk
        obtain ⟨y40, hy⟩ : ∃ y, y39.setCell ⟨bu, 0, none⟩ (.slice none 0 0) = y := ⟨_, rfl⟩
        rw [hy]
        replace H := H.store 0 hy rfl rfl
        dsimp only [List.set] at H
        clear hy
        refine hK.out _ _ (fun _ => (H.sub [5] rfl)) ?_; clear hK K
        (try simp only [Act.put, List.getElem_toArray, List.getElem_cons_zero, List.getElem_cons_succ, List.setIfInBounds_toArray, List.set_cons_zero, List.set_cons_succ])
        refine Kr.readyL (rs := [7]) (by kernel_rfl) (by simp) ?_
        refine Kr.AllL.cons rfl (fun K hK => ?_) Kr.AllL.nil
        have hk := H.c
        simp only [Kr.Cells] at hk
        go_simp
        clear hk
        obtain ⟨y41, hy⟩ : ∃ y, y40.setCell ⟨bv, 0, none⟩ (.slice p39 n39 c39) = y := ⟨_, rfl⟩
        rw [hy]
        replace H := H.store 1 hy rfl rfl
        dsimp only [List.set] at H
        clear hy
        refine hK.out _ _ (fun _ => (H.sub [5] rfl)) ?_; clear hK K
        (try simp only [Act.put, List.getElem_toArray, List.getElem_cons_zero, List.getElem_cons_succ, List.setIfInBounds_toArray, List.set_cons_zero, List.set_cons_succ])
        refine Kr.doneL (by kernel_rfl) ?_ _
        go_wp2_with fail
        go_meet
        exact ⟨_, _, _, _, _, _, _, _, rfl, rfl, Lib.hid H⟩
      refine Kr.AllL.cons rfl (fun K hK => ?_) ?_
      · go_simp
        obtain ⟨y42, hy⟩ : ∃ y, d13.alloc (.cells #[.slice none 0 0] 24) = y := ⟨_, rfl⟩
        obtain ⟨bu, hb⟩ : ∃ b, d13.heap.size = b := ⟨_, rfl⟩
        rw [hy, hb]
        replace H := H.alloc hy hb rfl
        clear hy hb
        refine hK.out _ _ (fun _ => (H.sub [4] rfl)) ?_; clear hK K
        (try simp only [Act.put, List.getElem_toArray, List.getElem_cons_zero, List.getElem_cons_succ, List.setIfInBounds_toArray, List.set_cons_zero, List.set_cons_succ])
        refine Kr.readyL (rs := [1, 5]) (by kernel_rfl) (by simp) ?_
        refine Kr.AllL.cons rfl (fun K hK => ?_) ?_
        · go_simp
          go_at_call 38
          refine (of3_v 1 (by decide) _).mono ?_
          rintro e y43 ⟨p43, n43, c43, rfl, hr, hg⟩
          replace H := H.grow hg
          replace H := H.num hr.toNw
          clear hr hg
          refine hK.out _ _ (fun _ => (H.sub [4] rfl)) ?_; clear hK K
          (try simp only [Act.put, List.getElem_toArray, List.getElem_cons_zero, List.getElem_cons_succ, List.setIfInBounds_toArray, List.set_cons_zero, List.set_cons_succ])
          refine Kr.readyL (rs := [3, 5]) (by kernel_rfl) (by simp) ?_
          refine Kr.AllL.cons rfl (fun K hK => ?_) ?_
          · go_simp
            go_at_call 47
            refine (rmod3_v (H.nw 0 rfl) (H.nw 1 rfl) (pw_pos' 999) M0.out VM.out).mono ?_
            rintro e y44 ⟨p44, n44, c44, rfl, hr, hg⟩
            replace H := H.grow hg
            replace H := H.num hr
            clear hr hg
            refine hK.out _ _ (fun _ => (H.sub [4] rfl)) ?_; clear hK K
            (try simp only [Act.put, List.getElem_toArray, List.getElem_cons_zero, List.getElem_cons_succ, List.setIfInBounds_toArray, List.set_cons_zero, List.set_cons_succ])
            refine Kr.readyL (rs := [5]) (by kernel_rfl) (by simp) ?_
            refine Kr.AllL.cons rfl (fun K hK => ?_) Kr.AllL.nil
            go_simp
            obtain ⟨y45, hy⟩ : ∃ y, y44.alloc (.cells #[.slice none 0 0] 24) = y := ⟨_, rfl⟩
            obtain ⟨bv, hb⟩ : ∃ b, y44.heap.size = b := ⟨_, rfl⟩
            rw [hy, hb]
            replace H := H.alloc hy hb rfl
            clear hy hb
            refine hK.out _ _ (fun _ => (H.sub [5] rfl)) ?_; clear hK K
            (try simp only [Act.put, List.getElem_toArray, List.getElem_cons_zero, List.getElem_cons_succ, List.setIfInBounds_toArray, List.set_cons_zero, List.set_cons_succ])
            refine Kr.readyL (rs := [6]) (by kernel_rfl) (by simp) ?_
            refine Kr.AllL.cons rfl (fun K hK => ?_) Kr.AllL.nil
            have hk := H.c
            simp only [Kr.Cells] at hk
            go_simp
            clear hk
            obtain ⟨y46, hy⟩ : ∃ y, y45.setCell ⟨bu, 0, none⟩ (.slice none 0 0) = y := ⟨_, rfl⟩
            rw [hy]
            replace H := H.store 1 hy rfl rfl
            dsimp only [List.set] at H
            clear hy
            refine hK.out _ _ (fun _ => (H.sub [5] rfl)) ?_; clear hK K
            (try simp only [Act.put, List.getElem_toArray, List.getElem_cons_zero, List.getElem_cons_succ, List.setIfInBounds_toArray, List.set_cons_zero, List.set_cons_succ])
            refine Kr.readyL (rs := [7]) (by kernel_rfl) (by simp) ?_
            refine Kr.AllL.cons rfl (fun K hK => ?_) Kr.AllL.nil
            have hk := H.c
            simp only [Kr.Cells] at hk
            go_simp
            clear hk
            obtain ⟨y47, hy⟩ : ∃ y, y46.setCell ⟨bv, 0, none⟩ (.slice p44 n44 c44) = y := ⟨_, rfl⟩
            rw [hy]
            replace H := H.store 0 hy rfl rfl
            dsimp only [List.set] at H
            clear hy
            refine hK.out _ _ (fun _ => (H.sub [5] rfl)) ?_; clear hK K
            (try simp only [Act.put, List.getElem_toArray, List.getElem_cons_zero, List.getElem_cons_succ, List.setIfInBounds_toArray, List.set_cons_zero, List.set_cons_succ])
            refine Kr.doneL (by kernel_rfl) ?_ _
            go_wp2_with fail
            go_meet
            exact ⟨_, _, _, _, _, _, _, _, rfl, rfl, Lib.hid (H.pickC [1, 0, 2, 3, 4, 5, 6] (by decide) rfl)⟩
          refine Kr.AllL.cons rfl (fun K hK => ?_) Kr.AllL.nil
          go_simp
          obtain ⟨y48, hy⟩ : ∃ y, y43.alloc (.cells #[.slice none 0 0] 24) = y := ⟨_, rfl⟩
          obtain ⟨bv, hb⟩ : ∃ b, y43.heap.size = b := ⟨_, rfl⟩
          rw [hy, hb]
          replace H := H.alloc hy hb rfl
          clear hy hb
          refine hK.out _ _ (fun _ => (H.sub [5] rfl)) ?_; clear hK K
          (try simp only [Act.put, List.getElem_toArray, List.getElem_cons_zero, List.getElem_cons_succ, List.setIfInBounds_toArray, List.set_cons_zero, List.set_cons_succ])
          refine Kr.readyL (rs := [3]) (by kernel_rfl) (by simp) ?_
          refine Kr.AllL.cons rfl (fun K hK => ?_) Kr.AllL.nil
          go_simp
          go_at_call 47
          refine (rmod3_v (H.nw 0 rfl) (H.nw 1 rfl) (pw_pos' 999) M0.out VM.out).mono ?_
          rintro e y49 ⟨p49, n49, c49, rfl, hr, hg⟩
          replace H := H.grow hg
          replace H := H.num hr
          clear hr hg
          refine hK.out _ _ (fun _ => (H.sub [5] rfl)) ?_; clear hK K
          (try simp only [Act.put, List.getElem_toArray, List.getElem_cons_zero, List.getElem_cons_succ, List.setIfInBounds_toArray, List.set_cons_zero, List.set_cons_succ])
          refine Kr.readyL (rs := [6]) (by kernel_rfl) (by simp) ?_
          refine Kr.AllL.cons rfl (fun K hK => ?_) Kr.AllL.nil
          have hk := H.c
          simp only [Kr.Cells] at hk
          go_simp
          clear hk
          obtain ⟨y50, hy⟩ : ∃ y, y49.setCell ⟨bu, 0, none⟩ (.slice none 0 0) = y := ⟨_, rfl⟩
          rw [hy]
          replace H := H.store 1 hy rfl rfl
          dsimp only [List.set] at H
          clear hy
          refine hK.out _ _ (fun _ => (H.sub [5] rfl)) ?_; clear hK K
          (try simp only [Act.put, List.getElem_toArray, List.getElem_cons_zero, List.getElem_cons_succ, List.setIfInBounds_toArray, List.set_cons_zero, List.set_cons_succ])
          refine Kr.readyL (rs := [7]) (by kernel_rfl) (by simp) ?_
          refine Kr.AllL.cons rfl (fun K hK => ?_) Kr.AllL.nil
          have hk := H.c
          simp only [Kr.Cells] at hk
          go_simp
          clear hk
          obtain ⟨y51, hy⟩ : ∃ y, y50.setCell ⟨bv, 0, none⟩ (.slice p49 n49 c49) = y := ⟨_, rfl⟩
          rw [hy]
          replace H := H.store 0 hy rfl rfl
          dsimp only [List.set] at H
          clear hy
          refine hK.out _ _ (fun _ => (H.sub [5] rfl)) ?_; clear hK K
          (try simp only [Act.put, List.getElem_toArray, List.getElem_cons_zero, List.getElem_cons_succ, List.setIfInBounds_toArray, List.set_cons_zero, List.set_cons_succ])
          refine Kr.doneL (by kernel_rfl) ?_ _
          go_wp2_with fail
          go_meet
          exact ⟨_, _, _, _, _, _, _, _, rfl, rfl, Lib.hid (H.pickC [1, 0, 2, 3, 4, 5, 6] (by decide) rfl)⟩
        refine Kr.AllL.cons rfl (fun K hK => ?_) Kr.AllL.nil
        go_simp
        obtain ⟨y52, hy⟩ : ∃ y, y42.alloc (.cells #[.slice none 0 0] 24) = y := ⟨_, rfl⟩
        obtain ⟨bv, hb⟩ : ∃ b, y42.heap.size = b := ⟨_, rfl⟩
        rw [hy, hb]
        replace H := H.alloc hy hb rfl
        clear hy hb
        refine hK.out _ _ (fun _ => (H.sub [5] rfl)) ?_; clear hK K
        (try simp only [Act.put, List.getElem_toArray, List.getElem_cons_zero, List.getElem_cons_succ, List.setIfInBounds_toArray, List.set_cons_zero, List.set_cons_succ])
        refine Kr.readyL (rs := [1]) (by kernel_rfl) (by simp) ?_
        refine Kr.AllL.cons rfl (fun K hK => ?_) Kr.AllL.nil
        go_simp
        go_at_call 38
        refine (of3_v 1 (by decide) _).mono ?_
        rintro e y53 ⟨p53, n53, c53, rfl, hr, hg⟩
        replace H := H.grow hg
        replace H := H.num hr.toNw
        clear hr hg
        refine hK.out _ _ (fun _ => (H.sub [5] rfl)) ?_; clear hK K
        (try simp only [Act.put, List.getElem_toArray, List.getElem_cons_zero, List.getElem_cons_succ, List.setIfInBounds_toArray, List.set_cons_zero, List.set_cons_succ])
        refine Kr.readyL (rs := [3]) (by kernel_rfl) (by simp) ?_
        refine Kr.AllL.cons rfl (fun K hK => ?_) Kr.AllL.nil
        go_simp
        go_at_call 47
        refine (rmod3_v (H.nw 0 rfl) (H.nw 1 rfl) (pw_pos' 999) M0.out VM.out).mono ?_
        rintro e y54 ⟨p54, n54, c54, rfl, hr, hg⟩
        replace H := H.grow hg
        replace H := H.num hr
        clear hr hg
        refine hK.out _ _ (fun _ => (H.sub [5] rfl)) ?_; clear hK K
        (try simp only [Act.put, List.getElem_toArray, List.getElem_cons_zero, List.getElem_cons_succ, List.setIfInBounds_toArray, List.set_cons_zero, List.set_cons_succ])
        refine Kr.readyL (rs := [6]) (by kernel_rfl) (by simp) ?_
        refine Kr.AllL.cons rfl (fun K hK => ?_) Kr.AllL.nil
        have hk := H.c
        simp only [Kr.Cells] at hk
        go_simp
        clear hk
        obtain ⟨y55, hy⟩ : ∃ y, y54.setCell ⟨bu, 0, none⟩ (.slice none 0 0) = y := ⟨_, rfl⟩
        rw [hy]
        replace H := H.store 1 hy rfl rfl
        dsimp only [List.set] at H
        clear hy
        refine hK.out _ _ (fun _ => (H.sub [5] rfl)) ?_; clear hK K
        (try simp only [Act.put, List.getElem_toArray, List.getElem_cons_zero, List.getElem_cons_succ, List.setIfInBounds_toArray, List.set_cons_zero, List.set_cons_succ])
        refine Kr.readyL (rs := [7]) (by kernel_rfl) (by simp) ?_
        refine Kr.AllL.cons rfl (fun K hK => ?_) Kr.AllL.nil
        have hk := H.c
        simp only [Kr.Cells] at hk
        go_simp
        clear hk
        obtain ⟨y56, hy⟩ : ∃ y, y55.setCell ⟨bv, 0, none⟩ (.slice p54 n54 c54) = y := ⟨_, rfl⟩
        rw [hy]
        replace H := H.store 0 hy rfl rfl
        dsimp only [List.set] at H
        clear hy
        refine hK.out _ _ (fun _ => (H.sub [5] rfl)) ?_; clear hK K
        (try simp only [Act.put, List.getElem_toArray, List.getElem_cons_zero, List.getElem_cons_succ, List.setIfInBounds_toArray, List.set_cons_zero, List.set_cons_succ])
        refine Kr.doneL (by kernel_rfl) ?_ _
        go_wp2_with fail
        go_meet
        exact ⟨_, _, _, _, _, _, _, _, rfl, rfl, Lib.hid (H.pickC [1, 0, 2, 3, 4, 5, 6] (by decide) rfl)⟩
      refine Kr.AllL.cons rfl (fun K hK => ?_) Kr.AllL.nil
      go_simp
      obtain ⟨y57, hy⟩ : ∃ y, d13.alloc (.cells #[.slice none 0 0] 24) = y := ⟨_, rfl⟩
      obtain ⟨bv, hb⟩ : ∃ b, d13.heap.size = b := ⟨_, rfl⟩
      rw [hy, hb]
      replace H := H.alloc hy hb rfl
      clear hy hb
      refine hK.out _ _ (fun _ => (H.sub [4] rfl)) ?_; clear hK K
      (try simp only [Act.put, List.getElem_toArray, List.getElem_cons_zero, List.getElem_cons_succ, List.setIfInBounds_toArray, List.set_cons_zero, List.set_cons_succ])
      refine Kr.readyL (rs := [1, 4]) (by kernel_rfl) (by simp) ?_
      refine Kr.AllL.cons rfl (fun K hK => ?_) ?_
      · go_simp
        go_at_call 38
        refine (of3_v 1 (by decide) _).mono ?_
        rintro e y58 ⟨p58, n58, c58, rfl, hr, hg⟩
        replace H := H.grow hg
        replace H := H.num hr.toNw
        clear hr hg
        refine hK.out _ _ (fun _ => (H.sub [4] rfl)) ?_; clear hK K
        (try simp only [Act.put, List.getElem_toArray, List.getElem_cons_zero, List.getElem_cons_succ, List.setIfInBounds_toArray, List.set_cons_zero, List.set_cons_succ])
        refine Kr.readyL (rs := [3, 4]) (by kernel_rfl) (by simp) ?_
        refine Kr.AllL.cons rfl (fun K hK => ?_) ?_
        · go_simp
          go_at_call 47
          refine (rmod3_v (H.nw 0 rfl) (H.nw 1 rfl) (pw_pos' 999) M0.out VM.out).mono ?_
          rintro e y59 ⟨p59, n59, c59, rfl, hr, hg⟩
          replace H := H.grow hg
          replace H := H.num hr
          clear hr hg
          refine hK.out _ _ (fun _ => (H.sub [4] rfl)) ?_; clear hK K
          (try simp only [Act.put, List.getElem_toArray, List.getElem_cons_zero, List.getElem_cons_succ, List.setIfInBounds_toArray, List.set_cons_zero, List.set_cons_succ])
          refine Kr.readyL (rs := [4]) (by kernel_rfl) (by simp) ?_
          refine Kr.AllL.cons rfl (fun K hK => ?_) Kr.AllL.nil
          go_simp
          obtain ⟨y60, hy⟩ : ∃ y, y59.alloc (.cells #[.slice none 0 0] 24) = y := ⟨_, rfl⟩
          obtain ⟨bu, hb⟩ : ∃ b, y59.heap.size = b := ⟨_, rfl⟩
          rw [hy, hb]
          replace H := H.alloc hy hb rfl
          clear hy hb
          refine hK.out _ _ (fun _ => (H.sub [5] rfl)) ?_; clear hK K
          (try simp only [Act.put, List.getElem_toArray, List.getElem_cons_zero, List.getElem_cons_succ, List.setIfInBounds_toArray, List.set_cons_zero, List.set_cons_succ])
          refine Kr.readyL (rs := [6]) (by kernel_rfl) (by simp) ?_
          refine Kr.AllL.cons rfl (fun K hK => ?_) Kr.AllL.nil
          have hk := H.c
          simp only [Kr.Cells] at hk
          go_simp
          clear hk
          obtain ⟨y61, hy⟩ : ∃ y, y60.setCell ⟨bu, 0, none⟩ (.slice none 0 0) = y := ⟨_, rfl⟩
          rw [hy]
          replace H := H.store 0 hy rfl rfl
          dsimp only [List.set] at H
          clear hy
          refine hK.out _ _ (fun _ => (H.sub [5] rfl)) ?_; clear hK K
          (try simp only [Act.put, List.getElem_toArray, List.getElem_cons_zero, List.getElem_cons_succ, List.setIfInBounds_toArray, List.set_cons_zero, List.set_cons_succ])
          refine Kr.readyL (rs := [7]) (by kernel_rfl) (by simp) ?_
          refine Kr.AllL.cons rfl (fun K hK => ?_) Kr.AllL.nil
          have hk := H.c
          simp only [Kr.Cells] at hk
          go_simp
          clear hk
          obtain ⟨y62, hy⟩ : ∃ y, y61.setCell ⟨bv, 0, none⟩ (.slice p59 n59 c59) = y := ⟨_, rfl⟩
          rw [hy]
          replace H := H.store 1 hy rfl rfl
          dsimp only [List.set] at H
          clear hy
          refine hK.out _ _ (fun _ => (H.sub [5] rfl)) ?_; clear hK K
          (try simp only [Act.put, List.getElem_toArray, List.getElem_cons_zero, List.getElem_cons_succ, List.setIfInBounds_toArray, List.set_cons_zero, List.set_cons_succ])
          refine Kr.doneL (by kernel_rfl) ?_ _
          go_wp2_with fail
          go_meet
          exact ⟨_, _, _, _, _, _, _, _, rfl, rfl, Lib.hid H⟩
        refine Kr.AllL.cons rfl (fun K hK => ?_) Kr.AllL.nil
        go_simp
        obtain ⟨y63, hy⟩ : ∃ y, y58.alloc (.cells #[.slice none 0 0] 24) = y := ⟨_, rfl⟩
        obtain ⟨bu, hb⟩ : ∃ b, y58.heap.size = b := ⟨_, rfl⟩
        rw [hy, hb]
        replace H := H.alloc hy hb rfl
        clear hy hb
        refine hK.out _ _ (fun _ => (H.sub [5] rfl)) ?_; clear hK K
        (try simp only [Act.put, List.getElem_toArray, List.getElem_cons_zero, List.getElem_cons_succ, List.setIfInBounds_toArray, List.set_cons_zero, List.set_cons_succ])
        refine Kr.readyL (rs := [3]) (by kernel_rfl) (by simp) ?_
        refine Kr.AllL.cons rfl (fun K hK => ?_) Kr.AllL.nil
        go_simp
        go_at_call 47
        refine (rmod3_v (H.nw 0 rfl) (H.nw 1 rfl) (pw_pos' 999) M0.out VM.out).mono ?_
        rintro e y64 ⟨p64, n64, c64, rfl, hr, hg⟩
        replace H := H.grow hg
        replace H := H.num hr
        clear hr hg
        refine hK.out _ _ (fun _ => (H.sub [5] rfl)) ?_; clear hK K
        (try simp only [Act.put, List.getElem_toArray, List.getElem_cons_zero, List.getElem_cons_succ, List.setIfInBounds_toArray, List.set_cons_zero, List.set_cons_succ])
        refine Kr.readyL (rs := [6]) (by kernel_rfl) (by simp) ?_
        refine Kr.AllL.cons rfl (fun K hK => ?_) Kr.AllL.nil
        have hk := H.c
        simp only [Kr.Cells] at hk
        go_simp
        clear hk
        obtain ⟨y65, hy⟩ : ∃ y, y64.setCell ⟨bu, 0, none⟩ (.slice none 0 0) = y := ⟨_, rfl⟩
        rw [hy]
        replace H := H.store 0 hy rfl rfl
        dsimp only [List.set] at H
        clear hy
        refine hK.out _ _ (fun _ => (H.sub [5] rfl)) ?_; clear hK K
        (try simp only [Act.put, List.getElem_toArray, List.getElem_cons_zero, List.getElem_cons_succ, List.setIfInBounds_toArray, List.set_cons_zero, List.set_cons_succ])
        refine Kr.readyL (rs := [7]) (by kernel_rfl) (by simp) ?_
        refine Kr.AllL.cons rfl (fun K hK => ?_) Kr.AllL.nil
        have hk := H.c
        simp only [Kr.Cells] at hk
        go_simp
        clear hk
        obtain ⟨y66, hy⟩ : ∃ y, y65.setCell ⟨bv, 0, none⟩ (.slice p64 n64 c64) = y := ⟨_, rfl⟩
        rw [hy]
        replace H := H.store 1 hy rfl rfl
        dsimp only [List.set] at H
        clear hy
        refine hK.out _ _ (fun _ => (H.sub [5] rfl)) ?_; clear hK K
        (try simp only [Act.put, List.getElem_toArray, List.getElem_cons_zero, List.getElem_cons_succ, List.setIfInBounds_toArray, List.set_cons_zero, List.set_cons_succ])
        refine Kr.doneL (by kernel_rfl) ?_ _
        go_wp2_with fail
        go_meet
        exact ⟨_, _, _, _, _, _, _, _, rfl, rfl, Lib.hid H⟩
      refine Kr.AllL.cons rfl (fun K hK => ?_) Kr.AllL.nil
      go_simp
      obtain ⟨y67, hy⟩ : ∃ y, y57.alloc (.cells #[.slice none 0 0] 24) = y := ⟨_, rfl⟩
      obtain ⟨bu, hb⟩ : ∃ b, y57.heap.size = b := ⟨_, rfl⟩
      rw [hy, hb]
      replace H := H.alloc hy hb rfl
      clear hy hb
      refine hK.out _ _ (fun _ => (H.sub [5] rfl)) ?_; clear hK K
      (try simp only [Act.put, List.getElem_toArray, List.getElem_cons_zero, List.getElem_cons_succ, List.setIfInBounds_toArray, List.set_cons_zero, List.set_cons_succ])
      refine Kr.readyL (rs := [1]) (by kernel_rfl) (by simp) ?_
      refine Kr.AllL.cons rfl (fun K hK => ?_) Kr.AllL.nil
      go_simp
      go_at_call 38
      refine (of3_v 1 (by decide) _).mono ?_
      rintro e y68 ⟨p68, n68, c68, rfl, hr, hg⟩
      replace H := H.grow hg
      replace H := H.num hr.toNw
      clear hr hg
      refine hK.out _ _ (fun _ => (H.sub [5] rfl)) ?_; clear hK K
      (try simp only [Act.put, List.getElem_toArray, List.getElem_cons_zero, List.getElem_cons_succ, List.setIfInBounds_toArray, List.set_cons_zero, List.set_cons_succ])
      refine Kr.readyL (rs := [3]) (by kernel_rfl) (by simp) ?_
      refine Kr.AllL.cons rfl (fun K hK => ?_) Kr.AllL.nil
      go_simp
      go_at_call 47
      refine (rmod3_v (H.nw 0 rfl) (H.nw 1 rfl) (pw_pos' 999) M0.out VM.out).mono ?_
      rintro e y69 ⟨p69, n69, c69, rfl, hr, hg⟩
      replace H := H.grow hg
      replace H := H.num hr
      clear hr hg
      refine hK.out _ _ (fun _ => (H.sub [5] rfl)) ?_; clear hK K
      (try simp only [Act.put, List.getElem_toArray, List.getElem_cons_zero, List.getElem_cons_succ, List.setIfInBounds_toArray, List.set_cons_zero, List.set_cons_succ])
      refine Kr.readyL (rs := [6]) (by kernel_rfl) (by simp) ?_
      refine Kr.AllL.cons rfl (fun K hK => ?_) Kr.AllL.nil
      have hk := H.c
      simp only [Kr.Cells] at hk
      go_simp
      clear hk
      obtain ⟨y70, hy⟩ : ∃ y, y69.setCell ⟨bu, 0, none⟩ (.slice none 0 0) = y := ⟨_, rfl⟩
      rw [hy]
      replace H := H.store 0 hy rfl rfl
      dsimp only [List.set] at H
      clear hy
      refine hK.out _ _ (fun _ => (H.sub [5] rfl)) ?_; clear hK K
      (try simp only [Act.put, List.getElem_toArray, List.getElem_cons_zero, List.getElem_cons_succ, List.setIfInBounds_toArray, List.set_cons_zero, List.set_cons_succ])
      refine Kr.readyL (rs := [7]) (by kernel_rfl) (by simp) ?_
      refine Kr.AllL.cons rfl (fun K hK => ?_) Kr.AllL.nil
      have hk := H.c
      simp only [Kr.Cells] at hk
      go_simp
      clear hk
      obtain ⟨y71, hy⟩ : ∃ y, y70.setCell ⟨bv, 0, none⟩ (.slice p69 n69 c69) = y := ⟨_, rfl⟩
      rw [hy]
      replace H := H.store 1 hy rfl rfl
      dsimp only [List.set] at H
      clear hy
      refine hK.out _ _ (fun _ => (H.sub [5] rfl)) ?_; clear hK K
      (try simp only [Act.put, List.getElem_toArray, List.getElem_cons_zero, List.getElem_cons_succ, List.setIfInBounds_toArray, List.set_cons_zero, List.set_cons_succ])
      refine Kr.doneL (by kernel_rfl) ?_ _
      go_wp2_with fail
      go_meet
      exact ⟨_, _, _, _, _, _, _, _, rfl, rfl, Lib.hid H⟩
    case rest =>
      clear H
      obtain ⟨bu, bv, p69, n69, c69, p68, n68, c68, rfl, rfl, HH⟩ := hcut
      have H := HH.out
      clear HH
      replace H := H.num (nw_none _)
      have H2 := Lib.hid (H.pick [3, 4, 0, 1, 4, 3] rfl)
      go_wp2
      go_loopw [] (fun wr => ∃ (r : Nat) (s : Nat) (x : Nat) (y : Nat) (p0 : Option Addr) (n0 c0 : Nat) (p1 : Option Addr) (n1 c1 : Nat) (p2 : Option Addr) (n2 c2 : Nat) (p3 : Option Addr) (n3 c3 : Nat), Hid (r < pw 900) ∧ Hid (s < pw 900) ∧ Hid (x < m) ∧ Hid (y < m) ∧ Hid (Nat.gcd r s = Nat.gcd a m) ∧ Hid ((m : Int) ∣ (r : Int) - x * a) ∧ Hid ((m : Int) ∣ (s : Int) - y * a) ∧ Hid (Sta w wr [(bu, 0, .slice p2 n2 c2), (bv, 0, .slice p3 n3 c3), (br, 0, .slice p0 n0 c0), (bs, 0, .slice p1 n1 c1), (bz, 0, .slice none 0 0), (bm, 0, .slice pm nm cm), (ba, 0, .slice pa na ca)] [N p0 n0 c0 (r), N p1 n1 c1 (s), N p2 n2 c2 (x), N p3 n3 c3 (y), N pa na ca (a), N pm nm cm (m)])) (fun wr => numAt wr ⟨bs, 0, none⟩)
      case atStart =>
        refine ⟨m, a, 0, 1 % m, _, _, _, _, _, _, _, _, _, _, _, _, VM, Lib.hid (Nat.lt_trans VA.out VM.out), M0, Lib.hid (Nat.mod_lt _ M0.out), Lib.hid (Nat.gcd_comm m a), Lib.hid ⟨1, by simp⟩, Lib.hid ?_, H2⟩
        by_cases h1 : m = 1
        · subst h1; exact ⟨_, (Int.one_mul _).symm⟩
        · rw [Nat.mod_eq_of_lt (show 1 < m by have := M0.out; omega)]; exact ⟨0, by simp⟩
      case round =>
        clear H H2
        obtain ⟨r, s, x, y, p0, n0, c0, p1, n1, c1, p2, n2, c2, p3, n3, c3, VR, VS, VX, VY, HGC, HD1, HD2, HH⟩ := hrel
        have H := HH.out
        clear HH
        have HMe := Lib.hid ((numAt_eq (H.at 3 rfl) (H.nw 1 rfl)).trans (val_digs s))
        have HLN := Lib.hid (H.nw 1 rfl).len
        by_cases h : s = 0
        · subst h
          have hn : n1 = 0 := by rw [← HLN.out, digs_zero]; rfl
          subst hn
          have HXG : Hid (r = Nat.gcd a m) := Lib.hid (by rw [← HGC.out, Nat.gcd_zero_right])
          clear HLN HMe
          have hk := H.c
          simp only [Kr.Cells] at hk
          go_upto_region 7 with fail
          clear hk
          refine Kr.startL (fun W' => Kr.Cells W' [(bu, 0, .slice p2 n2 c2), (br, 0, .slice p0 n0 c0)]) [] (by kernel_rfl) ?_
          have gd : Gr wr wr.drew := (Gr.refl _).drew
          generalize wr.drew = d72 at gd ⊢
          replace H := H.grow gd
          clear gd
          (refine Kr.tS 0 [] (v := ?_) rfl (by kernel_rfl) (fun _ _ _ h => h) (by rfl) (H.sub [0, 2] rfl) (fun wx hSx => ?_) ?_; rotate_left; (focus (simp only [Kr.Cells] at hSx; go_simp; first | done | rfl)); (try simp only [Act.put, List.getElem_toArray, List.getElem_cons_zero, List.getElem_cons_succ, List.setIfInBounds_toArray, List.set_cons_zero, List.set_cons_succ]))
          (refine Kr.tS 1 [] (v := ?_) rfl (by kernel_rfl) (fun _ _ _ h => h) (by rfl) (H.sub [0, 2] rfl) (fun wx hSx => ?_) ?_; rotate_left; (focus (simp only [Kr.Cells] at hSx; go_simp; first | done | rfl)); (try simp only [Act.put, List.getElem_toArray, List.getElem_cons_zero, List.getElem_cons_succ, List.setIfInBounds_toArray, List.set_cons_zero, List.set_cons_succ]))
          refine Kr.readyL (rs := [2]) (by kernel_rfl) (by simp) ?_
          refine Kr.AllL.cons rfl (fun K hK => ?_) Kr.AllL.nil
          go_simp
          go_at_call 38
          refine (of3_v 1 (by decide) _).mono ?_
          rintro e y73 ⟨p73, n73, c73, rfl, hr, hg⟩
          replace H := H.grow hg
          replace H := H.num hr.toNw
          clear hr hg
          refine hK.out _ _ (fun _ => (H.sub [0, 2] rfl)) ?_; clear hK K
          (try simp only [Act.put, List.getElem_toArray, List.getElem_cons_zero, List.getElem_cons_succ, List.setIfInBounds_toArray, List.set_cons_zero, List.set_cons_succ])
          refine Kr.readyL (rs := [3]) (by kernel_rfl) (by simp) ?_
          refine Kr.AllL.cons rfl (fun K hK => ?_) Kr.AllL.nil
          go_simp
          go_at_call 37
          refine (same3r_v (H.nw 1 rfl) (H.nw 0 rfl)).mono ?_
          rintro e y74 ⟨rfl, hg⟩
          replace H := H.grow hg
          clear hg
          refine hK.out _ _ (fun _ => (H.sub [0, 2] rfl)) ?_; clear hK K
          (try simp only [Act.put, List.getElem_toArray, List.getElem_cons_zero, List.getElem_cons_succ, List.setIfInBounds_toArray, List.set_cons_zero, List.set_cons_succ])
          refine Kr.readyL (rs := [4]) (by kernel_rfl) (by simp) ?_
          refine Kr.AllL.cons rfl (fun K hK => ?_) Kr.AllL.nil
          have hk := H.c
          simp only [Kr.Cells] at hk
          go_simp
          clear hk
          obtain ⟨y75, hy⟩ : ∃ y, y74.setCell ⟨bz, 0, none⟩ (.slice p2 n2 c2) = y := ⟨_, rfl⟩
          rw [hy]
          replace H := H.store 4 hy rfl rfl
          dsimp only [List.set] at H
          clear hy
          refine hK.out _ _ (fun _ => (H.sub [0, 2] rfl)) ?_; clear hK K
          (try simp only [Act.put, List.getElem_toArray, List.getElem_cons_zero, List.getElem_cons_succ, List.setIfInBounds_toArray, List.set_cons_zero, List.set_cons_succ])
          (refine Kr.tP 5 (v := ?_) rfl (by kernel_rfl) (fun _ _ _ h => h) (by rfl) (fun _ => (H.sub [0, 2] rfl)) (fun wx => ?_) ?_; rotate_left; (focus (go_simp; first | done | rfl)); (try simp only [Act.put, List.getElem_toArray, List.getElem_cons_zero, List.getElem_cons_succ, List.setIfInBounds_toArray, List.set_cons_zero, List.set_cons_succ]))
          refine Kr.doneL (by kernel_rfl) ?_ _
          have hk := H.c
          simp only [Kr.Cells] at hk
          go_wp2
          refine bodyPost_ret (v := .tuple #[.agg #[.slice p2 n2 c2], .bool (decide (r = 1))]) (by simp [results, Try.results34, go_sem, hk]) rfl ⟨p2, n2, c2, x, by rw [HXG.out], fun e => inv3_end VX.out (by rw [← e, ← HXG.out]; exact HD1.out), (H.nw 3 rfl), H.g⟩
        · have SP := Lib.hid (Nat.pos_of_ne_zero h)
          have hn : 0 < n1 := Nat.pos_of_ne_zero fun e => by rw [e] at HLN; have h2 := val_digs s; rw [List.eq_nil_of_length_eq_zero HLN.out] at h2; exact h h2.symm
          clear HLN h
          have hk := H.c
          simp only [Kr.Cells] at hk
          go_upto_region 4 with fail
          clear hk
          refine Kr.seqStart ?_
          have hk := H.c
          simp only [Kr.Cells] at hk
          iterate 2 (refine Kr.seqP (v := ?_) (by rfl) ?_ ?_; rotate_left; (focus (go_simp; first | done | rfl)); (try simp only [Act.put, List.getElem_toArray, List.getElem_cons_zero, List.getElem_cons_succ, List.setIfInBounds_toArray, List.set_cons_zero, List.set_cons_succ]))
          refine Kr.seqS (fun K hK => ?_)
          go_simp
          go_at_call 89
          refine (rover3_v (H.nw 0 rfl) (H.nw 1 rfl) VR.out VS.out SP.out).mono ?_
          rintro e y76 ⟨p76, n76, c76, rfl, hr, hg⟩
          clear hk
          replace H := H.grow hg
          replace H := H.num hr
          clear hr hg
          refine hK.out _ _ ?_; clear hK K
          (try simp only [Act.put, List.getElem_toArray, List.getElem_cons_zero, List.getElem_cons_succ, List.setIfInBounds_toArray, List.set_cons_zero, List.set_cons_succ])
          refine Kr.seqS (fun K hK => ?_)
          go_simp
          obtain ⟨y77, hy⟩ : ∃ y, y76.alloc (.cells #[.slice none 0 0] 24) = y := ⟨_, rfl⟩
          obtain ⟨bq, hb⟩ : ∃ b, y76.heap.size = b := ⟨_, rfl⟩
          rw [hy, hb]
          replace H := H.alloc hy hb rfl
          clear hy hb
          refine hK.out _ _ ?_; clear hK K
          (try simp only [Act.put, List.getElem_toArray, List.getElem_cons_zero, List.getElem_cons_succ, List.setIfInBounds_toArray, List.set_cons_zero, List.set_cons_succ])
          have hk := H.c
          simp only [Kr.Cells] at hk
          refine Kr.seqS (fun K hK => ?_)
          go_simp
          clear hk
          obtain ⟨y78, hy⟩ : ∃ y, y77.setCell ⟨bq, 0, none⟩ (.slice p76 n76 c76) = y := ⟨_, rfl⟩
          rw [hy]
          replace H := H.store 0 hy rfl rfl
          dsimp only [List.set] at H
          clear hy
          refine hK.out _ _ ?_; clear hK K
          (try simp only [Act.put, List.getElem_toArray, List.getElem_cons_zero, List.getElem_cons_succ, List.setIfInBounds_toArray, List.set_cons_zero, List.set_cons_succ])
          refine Kr.seqDone ?_
          go_upto_region 5 with fail
          refine Kr.startL (fun W' => Kr.Cells W' [(bs, 0, .slice p1 n1 c1), (br, 0, .slice p0 n0 c0)]) [4, 5] (by kernel_rfl) ?_
          have gd : Gr y78 y78.drew := (Gr.refl _).drew
          generalize y78.drew = d79 at gd ⊢
          replace H := H.grow gd
          clear gd
          (refine Kr.tS 0 [4, 5] (v := ?_) rfl (by kernel_rfl) (fun _ _ _ h => h) (by rfl) (H.sub [4, 3] rfl) (fun wx hSx => ?_) ?_; rotate_left; (focus (simp only [Kr.Cells] at hSx; go_simp; first | done | rfl)); (try simp only [Act.put, List.getElem_toArray, List.getElem_cons_zero, List.getElem_cons_succ, List.setIfInBounds_toArray, List.set_cons_zero, List.set_cons_succ]))
          (refine Kr.tS 1 [3, 4, 5] (v := ?_) rfl (by kernel_rfl) (fun _ _ _ h => h) (by rfl) (H.sub [4, 3] rfl) (fun wx hSx => ?_) ?_; rotate_left; (focus (simp only [Kr.Cells] at hSx; go_simp; first | done | rfl)); (try simp only [Act.put, List.getElem_toArray, List.getElem_cons_zero, List.getElem_cons_succ, List.setIfInBounds_toArray, List.set_cons_zero, List.set_cons_succ]))
          (refine Kr.tS 2 [3, 4, 5] (v := ?_) rfl (by kernel_rfl) (fun _ _ _ h => h) (by rfl) (H.sub [4, 3] rfl) (fun wx hSx => ?_) ?_; rotate_left; (focus (simp only [Kr.Cells] at hSx; go_simp; first | done | rfl)); (try simp only [Act.put, List.getElem_toArray, List.getElem_cons_zero, List.getElem_cons_succ, List.setIfInBounds_toArray, List.set_cons_zero, List.set_cons_succ]))
          refine Kr.readyL (rs := [3]) (by kernel_rfl) (by simp) ?_
          refine Kr.AllL.cons rfl (fun K hK => ?_) Kr.AllL.nil
          go_simp
          go_at_call 47
          refine (rmod3_v (H.nw 1 rfl) (H.nw 2 rfl) (Nat.lt_of_lt_of_le VR.out (pw_mono (by decide))) SP.out VS.out).mono ?_
          rintro e y80 ⟨p80, n80, c80, rfl, hr, hg⟩
          replace H := H.grow hg
          replace H := H.num hr
          clear hr hg
          refine hK.out _ _ (fun _ => (H.sub [4, 3] rfl)) ?_; clear hK K
          (try simp only [Act.put, List.getElem_toArray, List.getElem_cons_zero, List.getElem_cons_succ, List.setIfInBounds_toArray, List.set_cons_zero, List.set_cons_succ])
          refine Kr.readyL (rs := [4]) (by kernel_rfl) (by simp) ?_
          refine Kr.AllL.cons rfl (fun K hK => ?_) Kr.AllL.nil
          have hk := H.c
          simp only [Kr.Cells] at hk
          go_simp
          clear hk
          obtain ⟨y81, hy⟩ : ∃ y, y80.setCell ⟨br, 0, none⟩ (.slice p1 n1 c1) = y := ⟨_, rfl⟩
          rw [hy]
          replace H := H.store 3 hy rfl rfl
          dsimp only [List.set] at H
          clear hy
          refine hK.out _ _ (Kr.noStill (by kernel_rfl)) ?_; clear hK K
          (try simp only [Act.put, List.getElem_toArray, List.getElem_cons_zero, List.getElem_cons_succ, List.setIfInBounds_toArray, List.set_cons_zero, List.set_cons_succ])
          refine Kr.readyL (rs := [5]) (by kernel_rfl) (by simp) ?_
          refine Kr.AllL.cons rfl (fun K hK => ?_) Kr.AllL.nil
          have hk := H.c
          simp only [Kr.Cells] at hk
          go_simp
          clear hk
          obtain ⟨y82, hy⟩ : ∃ y, y81.setCell ⟨bs, 0, none⟩ (.slice p80 n80 c80) = y := ⟨_, rfl⟩
          rw [hy]
          replace H := H.store 4 hy rfl rfl
          dsimp only [List.set] at H
          clear hy
          refine hK.out _ _ (Kr.noStill (by kernel_rfl)) ?_; clear hK K
          (try simp only [Act.put, List.getElem_toArray, List.getElem_cons_zero, List.getElem_cons_succ, List.setIfInBounds_toArray, List.set_cons_zero, List.set_cons_succ])
          refine Kr.doneL (by kernel_rfl) ?_ _
          go_upto_region 6 with fail
          refine Kr.startL (fun W' => Kr.Cells W' [(bv, 0, .slice p3 n3 c3), (bu, 0, .slice p2 n2 c2), (bq, 0, .slice p76 n76 c76), (bm, 0, .slice pm nm cm)]) [10, 11] (by kernel_rfl) ?_
          have gd : Gr y82 y82.drew := (Gr.refl _).drew
          generalize y82.drew = d83 at gd ⊢
          replace H := H.grow gd
          clear gd
          (refine Kr.tS 0 [10, 11] (v := ?_) rfl (by kernel_rfl) (fun _ _ _ h => h) (by rfl) (H.sub [2, 1, 0, 6] rfl) (fun wx hSx => ?_) ?_; rotate_left; (focus (simp only [Kr.Cells] at hSx; go_simp; first | done | rfl)); (try simp only [Act.put, List.getElem_toArray, List.getElem_cons_zero, List.getElem_cons_succ, List.setIfInBounds_toArray, List.set_cons_zero, List.set_cons_succ]))
          (refine Kr.tS 1 [9, 10, 11] (v := ?_) rfl (by kernel_rfl) (fun _ _ _ h => h) (by rfl) (H.sub [2, 1, 0, 6] rfl) (fun wx hSx => ?_) ?_; rotate_left; (focus (simp only [Kr.Cells] at hSx; go_simp; first | done | rfl)); (try simp only [Act.put, List.getElem_toArray, List.getElem_cons_zero, List.getElem_cons_succ, List.setIfInBounds_toArray, List.set_cons_zero, List.set_cons_succ]))
          (refine Kr.tS 2 [4, 7, 9, 10, 11] (v := ?_) rfl (by kernel_rfl) (fun _ _ _ h => h) (by rfl) (H.sub [2, 1, 0, 6] rfl) (fun wx hSx => ?_) ?_; rotate_left; (focus (simp only [Kr.Cells] at hSx; go_simp; first | done | rfl)); (try simp only [Act.put, List.getElem_toArray, List.getElem_cons_zero, List.getElem_cons_succ, List.setIfInBounds_toArray, List.set_cons_zero, List.set_cons_succ]))
          (refine Kr.tS 3 [4, 7, 9, 10, 11] (v := ?_) rfl (by kernel_rfl) (fun _ _ _ h => h) (by rfl) (H.sub [2, 1, 0, 6] rfl) (fun wx hSx => ?_) ?_; rotate_left; (focus (simp only [Kr.Cells] at hSx; go_simp; first | done | rfl)); (try simp only [Act.put, List.getElem_toArray, List.getElem_cons_zero, List.getElem_cons_succ, List.setIfInBounds_toArray, List.set_cons_zero, List.set_cons_succ]))
          (refine Kr.tS 5 [7, 9, 10, 11] (v := ?_) rfl (by kernel_rfl) (fun _ _ _ h => h) (by rfl) (H.sub [2, 1, 0, 6] rfl) (fun wx hSx => ?_) ?_; rotate_left; (focus (simp only [Kr.Cells] at hSx; go_simp; first | done | rfl)); (try simp only [Act.put, List.getElem_toArray, List.getElem_cons_zero, List.getElem_cons_succ, List.setIfInBounds_toArray, List.set_cons_zero, List.set_cons_succ]))
          (refine Kr.tS 6 [7, 9, 10, 11] (v := ?_) rfl (by kernel_rfl) (fun _ _ _ h => h) (by rfl) (H.sub [2, 1, 0, 6] rfl) (fun wx hSx => ?_) ?_; rotate_left; (focus (simp only [Kr.Cells] at hSx; go_simp; first | done | rfl)); (try simp only [Act.put, List.getElem_toArray, List.getElem_cons_zero, List.getElem_cons_succ, List.setIfInBounds_toArray, List.set_cons_zero, List.set_cons_succ]))
          (refine Kr.tS 8 [9, 10, 11] (v := ?_) rfl (by kernel_rfl) (fun _ _ _ h => h) (by rfl) (H.sub [2, 1, 0, 6] rfl) (fun wx hSx => ?_) ?_; rotate_left; (focus (simp only [Kr.Cells] at hSx; go_simp; first | done | rfl)); (try simp only [Act.put, List.getElem_toArray, List.getElem_cons_zero, List.getElem_cons_succ, List.setIfInBounds_toArray, List.set_cons_zero, List.set_cons_succ]))
          refine Kr.readyL (rs := [4]) (by kernel_rfl) (by simp) ?_
          refine Kr.AllL.cons rfl (fun K hK => ?_) Kr.AllL.nil
          go_simp
          go_at_call 47
          refine (rmod3_v (H.nw 1 rfl) (H.nw 7 rfl) (Nat.lt_of_le_of_lt (Nat.div_le_self r s) (Nat.lt_of_lt_of_le VR.out (pw_mono (by decide)))) M0.out VM.out).mono ?_
          rintro e y84 ⟨p84, n84, c84, rfl, hr, hg⟩
          replace H := H.grow hg
          replace H := H.num hr
          clear hr hg
          refine hK.out _ _ (fun _ => (H.sub [2, 1, 0, 6] rfl)) ?_; clear hK K
          (try simp only [Act.put, List.getElem_toArray, List.getElem_cons_zero, List.getElem_cons_succ, List.setIfInBounds_toArray, List.set_cons_zero, List.set_cons_succ])
          refine Kr.readyL (rs := [7]) (by kernel_rfl) (by simp) ?_
          refine Kr.AllL.cons rfl (fun K hK => ?_) Kr.AllL.nil
          go_simp
          go_at_call 28
          refine (rmul3_v (H.nw 0 rfl) (H.nw 6 rfl) (H.nw 8 rfl) (Nat.mod_lt _ M0.out) VY.out VM.out).mono ?_
          rintro e y85 ⟨p85, n85, c85, rfl, hr, hg⟩
          replace H := H.grow hg
          replace H := H.num hr
          clear hr hg
          refine hK.out _ _ (fun _ => (H.sub [2, 1, 0, 6] rfl)) ?_; clear hK K
          (try simp only [Act.put, List.getElem_toArray, List.getElem_cons_zero, List.getElem_cons_succ, List.setIfInBounds_toArray, List.set_cons_zero, List.set_cons_succ])
          refine Kr.readyL (rs := [9]) (by kernel_rfl) (by simp) ?_
          refine Kr.AllL.cons rfl (fun K hK => ?_) Kr.AllL.nil
          go_simp
          go_at_call 25
          refine (rsub3_v (H.nw 6 rfl) (H.nw 0 rfl) (H.nw 9 rfl) VX.out (Nat.mod_lt _ M0.out) VM.out).mono ?_
          rintro e y86 ⟨p86, n86, c86, rfl, hr, hg⟩
          replace H := H.grow hg
          replace H := H.num hr
          clear hr hg
          refine hK.out _ _ (fun _ => (H.sub [2, 1, 0, 6] rfl)) ?_; clear hK K
          (try simp only [Act.put, List.getElem_toArray, List.getElem_cons_zero, List.getElem_cons_succ, List.setIfInBounds_toArray, List.set_cons_zero, List.set_cons_succ])
          refine Kr.readyL (rs := [10]) (by kernel_rfl) (by simp) ?_
          refine Kr.AllL.cons rfl (fun K hK => ?_) Kr.AllL.nil
          have hk := H.c
          simp only [Kr.Cells] at hk
          go_simp
          clear hk
          obtain ⟨y87, hy⟩ : ∃ y, y86.setCell ⟨bu, 0, none⟩ (.slice p3 n3 c3) = y := ⟨_, rfl⟩
          rw [hy]
          replace H := H.store 1 hy rfl rfl
          dsimp only [List.set] at H
          clear hy
          refine hK.out _ _ (Kr.noStill (by kernel_rfl)) ?_; clear hK K
          (try simp only [Act.put, List.getElem_toArray, List.getElem_cons_zero, List.getElem_cons_succ, List.setIfInBounds_toArray, List.set_cons_zero, List.set_cons_succ])
          refine Kr.readyL (rs := [11]) (by kernel_rfl) (by simp) ?_
          refine Kr.AllL.cons rfl (fun K hK => ?_) Kr.AllL.nil
          have hk := H.c
          simp only [Kr.Cells] at hk
          go_simp
          clear hk
          obtain ⟨y88, hy⟩ : ∃ y, y87.setCell ⟨bv, 0, none⟩ (.slice p86 n86 c86) = y := ⟨_, rfl⟩
          rw [hy]
          replace H := H.store 2 hy rfl rfl
          dsimp only [List.set] at H
          clear hy
          refine hK.out _ _ (Kr.noStill (by kernel_rfl)) ?_; clear hK K
          (try simp only [Act.put, List.getElem_toArray, List.getElem_cons_zero, List.getElem_cons_succ, List.setIfInBounds_toArray, List.set_cons_zero, List.set_cons_succ])
          refine Kr.doneL (by kernel_rfl) ?_ _
          go_wp2
          go_roundw
          case rel => exact ⟨s, r % s, y, (x + m - r / s % m * y % m) % m, _, _, _, _, _, _, _, _, _, _, _, _, VS, Lib.hid (Nat.lt_trans (Nat.mod_lt _ SP.out) VS.out), VY, Lib.hid (Nat.mod_lt _ M0.out), Lib.hid (by rw [← HGC.out, Nat.gcd_comm r s, Nat.gcd_rec s r, Nat.gcd_comm s]), HD2, Lib.hid (inv3_step VX.out M0.out HD1.out HD2.out), Lib.hid ((H.drop 1).pick [6, 3, 8, 0, 9, 10] rfl)⟩
          case measure => rw [HMe.out, numAt_eq (H.at 4 rfl) (H.nw 3 rfl), val_digs]; exact Nat.mod_lt _ SP.out
set_option linter.unusedSimpArgs false in
set_option maxRecDepth 100000 in
set_option maxHeartbeats 16000000 in
theorem rcrt3_v {pa : Option Addr} {na ca : Nat} {pp : Option Addr} {np cp : Nat} {pb : Option Addr} {nb cb : Nat} {pq : Option Addr} {nq cq : Nat} {a p b q : Nat} {w : World} (ha : Nw w pa na ca (digs a)) (hp : Nw w pp np cp (digs p)) (hb : Nw w pb nb cb (digs b)) (hq : Nw w pq nq cq (digs q)) (va : a < p) (vb : b < q) (vp : p < pw 900) (vq : q < pw 900) (hpq : p * q < pw 900) (hg1 : Nat.gcd (p % q) q = 1) :
    Calls Try.prog 39 #[.agg #[.slice pa na ca], .agg #[.slice pp np cp], .agg #[.slice pb nb cb], .agg #[.slice pq nq cq]] w (fun e w' => ∃ z, IsInv (p % q) q z ∧ Has (a + p * ((b + q - a % q) % q * z % q)) w e w') := by
  have VA := Lib.hid va
  have VB := Lib.hid vb
  have VP := Lib.hid vp
  have VQ := Lib.hid vq
  have HPQ := Lib.hid hpq
  have HG1 := Lib.hid hg1
  have Q0 : Hid (0 < q) := Lib.hid (Nat.lt_of_le_of_lt (Nat.zero_le _) vb)
  have hna : na ≤ 1000 := Nat.le_trans (nw_small ha (Nat.lt_trans va vp)) (by decide)
  clear va vb vp vq hpq hg1
  have H := Sta.start w
  replace H := H.num ha
  replace H := H.num hp
  replace H := H.num hb
  replace H := H.num hq
  go_enter Try.func39, Try.ntmps39
  go_upto_region 0 with fail
  refine Kr.seqStart ?_
  refine Kr.seqS (fun K hK => ?_)
  go_simp
  obtain ⟨y1, hy⟩ : ∃ y, w.alloc (.cells #[.slice pa na ca] 24) = y := ⟨_, rfl⟩
  obtain ⟨ba, hb⟩ : ∃ b, w.heap.size = b := ⟨_, rfl⟩
  rw [hy, hb]
  replace H := H.alloc hy hb rfl
  clear hy hb
  refine hK.out _ _ ?_; clear hK K
  (try simp only [Act.put, List.getElem_toArray, List.getElem_cons_zero, List.getElem_cons_succ, List.setIfInBounds_toArray, List.set_cons_zero, List.set_cons_succ])
  refine Kr.seqS (fun K hK => ?_)
  go_simp
  obtain ⟨y2, hy⟩ : ∃ y, y1.alloc (.cells #[.slice pp np cp] 24) = y := ⟨_, rfl⟩
  obtain ⟨bp, hb⟩ : ∃ b, y1.heap.size = b := ⟨_, rfl⟩
  rw [hy, hb]
  replace H := H.alloc hy hb rfl
  clear hy hb
  refine hK.out _ _ ?_; clear hK K
  (try simp only [Act.put, List.getElem_toArray, List.getElem_cons_zero, List.getElem_cons_succ, List.setIfInBounds_toArray, List.set_cons_zero, List.set_cons_succ])
  refine Kr.seqS (fun K hK => ?_)
  go_simp
  obtain ⟨y3, hy⟩ : ∃ y, y2.alloc (.cells #[.slice pb nb cb] 24) = y := ⟨_, rfl⟩
  obtain ⟨bb, hb⟩ : ∃ b, y2.heap.size = b := ⟨_, rfl⟩
  rw [hy, hb]
  replace H := H.alloc hy hb rfl
  clear hy hb
  refine hK.out _ _ ?_; clear hK K
  (try simp only [Act.put, List.getElem_toArray, List.getElem_cons_zero, List.getElem_cons_succ, List.setIfInBounds_toArray, List.set_cons_zero, List.set_cons_succ])
  refine Kr.seqS (fun K hK => ?_)
  go_simp
  obtain ⟨y4, hy⟩ : ∃ y, y3.alloc (.cells #[.slice pq nq cq] 24) = y := ⟨_, rfl⟩
  obtain ⟨bq, hb⟩ : ∃ b, y3.heap.size = b := ⟨_, rfl⟩
  rw [hy, hb]
  replace H := H.alloc hy hb rfl
  clear hy hb
  refine hK.out _ _ ?_; clear hK K
  (try simp only [Act.put, List.getElem_toArray, List.getElem_cons_zero, List.getElem_cons_succ, List.setIfInBounds_toArray, List.set_cons_zero, List.set_cons_succ])
  refine Kr.seqS (fun K hK => ?_)
  go_simp
  obtain ⟨y5, hy⟩ : ∃ y, y4.alloc (.cells #[.slice none 0 0] 24) = y := ⟨_, rfl⟩
  obtain ⟨br, hb⟩ : ∃ b, y4.heap.size = b := ⟨_, rfl⟩
  rw [hy, hb]
  replace H := H.alloc hy hb rfl
  clear hy hb
  refine hK.out _ _ ?_; clear hK K
  (try simp only [Act.put, List.getElem_toArray, List.getElem_cons_zero, List.getElem_cons_succ, List.setIfInBounds_toArray, List.set_cons_zero, List.set_cons_succ])
  refine Kr.seqDone ?_
  go_upto_region 1 with fail
  go_cut [9, 10] from 12 to 19 (fun s9 s10 W => ∃ (bi : Nat) (pi : Option Addr) (ni ci : Nat) (p13 : Option Addr) (n13 c13 : Nat) (z : Nat), s9 = .pointer (some ⟨bi, 0, none⟩) ∧ s10 = .bool (decide (Nat.gcd (p % q) q = 1)) ∧ Hid (IsInv (p % q) q z) ∧ Hid (Sta w W [(bi, 0, .slice pi ni ci), (br, 0, .slice none 0 0), (bq, 0, .slice pq nq cq), (bb, 0, .slice pb nb cb), (bp, 0, .slice pp np cp), (ba, 0, .slice pa na ca)] [N pi ni ci (z), N p13 n13 c13 (p % q), N pq nq cq (q), N pb nb cb (b), N pp np cp (p), N pa na ca (a)]))
  case first =>
    refine Kr.startL (fun W' => Kr.Cells W' [(bp, 0, .slice pp np cp), (bq, 0, .slice pq nq cq)]) [] (by kernel_rfl) ?_
    have gd : Gr y5 y5.drew := (Gr.refl _).drew
    generalize y5.drew = d6 at gd ⊢
    replace H := H.grow gd
    clear gd
    (refine Kr.tS 0 [] (v := ?_) rfl (by kernel_rfl) (fun _ _ _ h => h) (by rfl) (H.sub [3, 1] rfl) (fun wx hSx => ?_) ?_; rotate_left; (focus (simp only [Kr.Cells] at hSx; go_simp; first | done | rfl)); (try simp only [Act.put, List.getElem_toArray, List.getElem_cons_zero, List.getElem_cons_succ, List.setIfInBounds_toArray, List.set_cons_zero, List.set_cons_succ]))
    (refine Kr.tS 1 [] (v := ?_) rfl (by kernel_rfl) (fun _ _ _ h => h) (by rfl) (H.sub [3, 1] rfl) (fun wx hSx => ?_) ?_; rotate_left; (focus (simp only [Kr.Cells] at hSx; go_simp; first | done | rfl)); (try simp only [Act.put, List.getElem_toArray, List.getElem_cons_zero, List.getElem_cons_succ, List.setIfInBounds_toArray, List.set_cons_zero, List.set_cons_succ]))
    (refine Kr.tS 3 [] (v := ?_) rfl (by kernel_rfl) (fun _ _ _ h => h) (by rfl) (H.sub [3, 1] rfl) (fun wx hSx => ?_) ?_; rotate_left; (focus (simp only [Kr.Cells] at hSx; go_simp; first | done | rfl)); (try simp only [Act.put, List.getElem_toArray, List.getElem_cons_zero, List.getElem_cons_succ, List.setIfInBounds_toArray, List.set_cons_zero, List.set_cons_succ]))
    refine Kr.readyL (rs := [2, 8]) (by kernel_rfl) (by simp) ?_
    refine Kr.AllL.cons rfl (fun K hK => ?_) ?_
    · go_simp
      go_at_call 47
      refine (rmod3_v (H.nw 2 rfl) (H.nw 0 rfl) (Nat.lt_of_lt_of_le VP.out (pw_mono (by decide))) Q0.out VQ.out).mono ?_
      rintro e y7 ⟨p7, n7, c7, rfl, hr, hg⟩
      replace H := H.grow hg
      replace H := H.num hr
      clear hr hg
      refine hK.out _ _ (fun _ => (H.sub [3, 1] rfl)) ?_; clear hK K
      (try simp only [Act.put, List.getElem_toArray, List.getElem_cons_zero, List.getElem_cons_succ, List.setIfInBounds_toArray, List.set_cons_zero, List.set_cons_succ])
      refine Kr.readyL (rs := [4, 8]) (by kernel_rfl) (by simp) ?_
      refine Kr.AllL.cons rfl (fun K hK => ?_) ?_
      · go_simp
        go_at_call 34
        refine (rinv3_v (H.nw 0 rfl) (H.nw 1 rfl) (Nat.mod_lt _ Q0.out) VQ.out).mono ?_
        rintro e yi ⟨pi, ni, ci, z, rfl, h1, hr, hg⟩
        have HI := Lib.hid (h1 HG1.out)
        replace H := H.grow hg
        replace H := H.num hr
        clear hr hg h1
        refine hK.out _ _ (fun _ => (H.sub [3, 1] rfl)) ?_; clear hK K
        (try simp only [Act.put, List.getElem_toArray, List.getElem_cons_zero, List.getElem_cons_succ, List.setIfInBounds_toArray, List.set_cons_zero, List.set_cons_succ])
        (refine Kr.tP 5 (v := ?_) rfl (by kernel_rfl) (fun _ _ _ h => h) (by rfl) (fun _ => (H.sub [3, 1] rfl)) (fun wx => ?_) ?_; rotate_left; (focus (go_simp; first | done | rfl)); (try simp only [Act.put, List.getElem_toArray, List.getElem_cons_zero, List.getElem_cons_succ, List.setIfInBounds_toArray, List.set_cons_zero, List.set_cons_succ]))
        (refine Kr.tP 6 (v := ?_) rfl (by kernel_rfl) (fun _ _ _ h => h) (by rfl) (fun _ => (H.sub [3, 1] rfl)) (fun wx => ?_) ?_; rotate_left; (focus (go_simp; first | done | rfl)); (try simp only [Act.put, List.getElem_toArray, List.getElem_cons_zero, List.getElem_cons_succ, List.setIfInBounds_toArray, List.set_cons_zero, List.set_cons_succ]))
        (refine Kr.tP 7 (v := ?_) rfl (by kernel_rfl) (fun _ _ _ h => h) (by rfl) (fun _ => (H.sub [3, 1] rfl)) (fun wx => ?_) ?_; rotate_left; (focus (go_simp; first | done | rfl)); (try simp only [Act.put, List.getElem_toArray, List.getElem_cons_zero, List.getElem_cons_succ, List.setIfInBounds_toArray, List.set_cons_zero, List.set_cons_succ]))
        refine Kr.readyL (rs := [8]) (by kernel_rfl) (by simp) ?_
        refine Kr.AllL.cons rfl (fun K hK => ?_) Kr.AllL.nil
        go_simp
        obtain ⟨y8, hy⟩ : ∃ y, yi.alloc (.cells #[.slice none 0 0] 24) = y := ⟨_, rfl⟩
        obtain ⟨bi, hb⟩ : ∃ b, yi.heap.size = b := ⟨_, rfl⟩
        rw [hy, hb]
        replace H := H.alloc hy hb rfl
        clear hy hb
        refine hK.out _ _ (fun _ => (H.sub [4, 2] rfl)) ?_; clear hK K
        (try simp only [Act.put, List.getElem_toArray, List.getElem_cons_zero, List.getElem_cons_succ, List.setIfInBounds_toArray, List.set_cons_zero, List.set_cons_succ])
        refine Kr.readyL (rs := [9]) (by kernel_rfl) (by simp) ?_
        refine Kr.AllL.cons rfl (fun K hK => ?_) Kr.AllL.nil
        have hk := H.c
        simp only [Kr.Cells] at hk
        go_simp
        clear hk
        obtain ⟨y9, hy⟩ : ∃ y, y8.setCell ⟨bi, 0, none⟩ (.slice pi ni ci) = y := ⟨_, rfl⟩
        rw [hy]
        replace H := H.store 0 hy rfl rfl
        dsimp only [List.set] at H
        clear hy
        refine hK.out _ _ (fun _ => (H.sub [4, 2] rfl)) ?_; clear hK K
        (try simp only [Act.put, List.getElem_toArray, List.getElem_cons_zero, List.getElem_cons_succ, List.setIfInBounds_toArray, List.set_cons_zero, List.set_cons_succ])
        (refine Kr.tP 10 (v := ?_) rfl (by kernel_rfl) (fun _ _ _ h => h) (by rfl) (fun _ => (H.sub [4, 2] rfl)) (fun wx => ?_) ?_; rotate_left; (focus (go_simp; first | done | rfl)); (try simp only [Act.put, List.getElem_toArray, List.getElem_cons_zero, List.getElem_cons_succ, List.setIfInBounds_toArray, List.set_cons_zero, List.set_cons_succ]))
        refine Kr.doneL (by kernel_rfl) ?_ _
        go_wp2_with fail
        go_meet
        exact ⟨_, _, _, _, _, _, _, _, rfl, rfl, HI, Lib.hid H⟩
      refine Kr.AllL.cons rfl (fun K hK => ?_) Kr.AllL.nil
      go_simp
      obtain ⟨y10, hy⟩ : ∃ y, y7.alloc (.cells #[.slice none 0 0] 24) = y := ⟨_, rfl⟩
      obtain ⟨bi, hb⟩ : ∃ b, y7.heap.size = b := ⟨_, rfl⟩
      rw [hy, hb]
      replace H := H.alloc hy hb rfl
      clear hy hb
      refine hK.out _ _ (fun _ => (H.sub [4, 2] rfl)) ?_; clear hK K
      (try simp only [Act.put, List.getElem_toArray, List.getElem_cons_zero, List.getElem_cons_succ, List.setIfInBounds_toArray, List.set_cons_zero, List.set_cons_succ])
      refine Kr.readyL (rs := [4]) (by kernel_rfl) (by simp) ?_
      refine Kr.AllL.cons rfl (fun K hK => ?_) Kr.AllL.nil
      go_simp
      go_at_call 34
      refine (rinv3_v (H.nw 0 rfl) (H.nw 1 rfl) (Nat.mod_lt _ Q0.out) VQ.out).mono ?_
      rintro e yi ⟨pi, ni, ci, z, rfl, h1, hr, hg⟩
      have HI := Lib.hid (h1 HG1.out)
      replace H := H.grow hg
      replace H := H.num hr
      clear hr hg h1
      refine hK.out _ _ (fun _ => (H.sub [4, 2] rfl)) ?_; clear hK K
      (try simp only [Act.put, List.getElem_toArray, List.getElem_cons_zero, List.getElem_cons_succ, List.setIfInBounds_toArray, List.set_cons_zero, List.set_cons_succ])
      (refine Kr.tP 5 (v := ?_) rfl (by kernel_rfl) (fun _ _ _ h => h) (by rfl) (fun _ => (H.sub [4, 2] rfl)) (fun wx => ?_) ?_; rotate_left; (focus (go_simp; first | done | rfl)); (try simp only [Act.put, List.getElem_toArray, List.getElem_cons_zero, List.getElem_cons_succ, List.setIfInBounds_toArray, List.set_cons_zero, List.set_cons_succ]))
      (refine Kr.tP 6 (v := ?_) rfl (by kernel_rfl) (fun _ _ _ h => h) (by rfl) (fun _ => (H.sub [4, 2] rfl)) (fun wx => ?_) ?_; rotate_left; (focus (go_simp; first | done | rfl)); (try simp only [Act.put, List.getElem_toArray, List.getElem_cons_zero, List.getElem_cons_succ, List.setIfInBounds_toArray, List.set_cons_zero, List.set_cons_succ]))
      (refine Kr.tP 7 (v := ?_) rfl (by kernel_rfl) (fun _ _ _ h => h) (by rfl) (fun _ => (H.sub [4, 2] rfl)) (fun wx => ?_) ?_; rotate_left; (focus (go_simp; first | done | rfl)); (try simp only [Act.put, List.getElem_toArray, List.getElem_cons_zero, List.getElem_cons_succ, List.setIfInBounds_toArray, List.set_cons_zero, List.set_cons_succ]))
      refine Kr.readyL (rs := [9]) (by kernel_rfl) (by simp) ?_
      refine Kr.AllL.cons rfl (fun K hK => ?_) Kr.AllL.nil
      have hk := H.c
      simp only [Kr.Cells] at hk
      go_simp
      clear hk
      obtain ⟨y11, hy⟩ : ∃ y, yi.setCell ⟨bi, 0, none⟩ (.slice pi ni ci) = y := ⟨_, rfl⟩
      rw [hy]
      replace H := H.store 0 hy rfl rfl
      dsimp only [List.set] at H
      clear hy
      refine hK.out _ _ (fun _ => (H.sub [4, 2] rfl)) ?_; clear hK K
      (try simp only [Act.put, List.getElem_toArray, List.getElem_cons_zero, List.getElem_cons_succ, List.setIfInBounds_toArray, List.set_cons_zero, List.set_cons_succ])
      (refine Kr.tP 10 (v := ?_) rfl (by kernel_rfl) (fun _ _ _ h => h) (by rfl) (fun _ => (H.sub [4, 2] rfl)) (fun wx => ?_) ?_; rotate_left; (focus (go_simp; first | done | rfl)); (try simp only [Act.put, List.getElem_toArray, List.getElem_cons_zero, List.getElem_cons_succ, List.setIfInBounds_toArray, List.set_cons_zero, List.set_cons_succ]))
      refine Kr.doneL (by kernel_rfl) ?_ _
      go_wp2_with fail
      go_meet
      exact ⟨_, _, _, _, _, _, _, _, rfl, rfl, HI, Lib.hid H⟩
    refine Kr.AllL.cons rfl (fun K hK => ?_) Kr.AllL.nil
    go_simp
    obtain ⟨y12, hy⟩ : ∃ y, d6.alloc (.cells #[.slice none 0 0] 24) = y := ⟨_, rfl⟩
    obtain ⟨bi, hb⟩ : ∃ b, d6.heap.size = b := ⟨_, rfl⟩
    rw [hy, hb]
    replace H := H.alloc hy hb rfl
    clear hy hb
    refine hK.out _ _ (fun _ => (H.sub [4, 2] rfl)) ?_; clear hK K
    (try simp only [Act.put, List.getElem_toArray, List.getElem_cons_zero, List.getElem_cons_succ, List.setIfInBounds_toArray, List.set_cons_zero, List.set_cons_succ])
    refine Kr.readyL (rs := [2]) (by kernel_rfl) (by simp) ?_
    refine Kr.AllL.cons rfl (fun K hK => ?_) Kr.AllL.nil
    go_simp
    go_at_call 47
    refine (rmod3_v (H.nw 2 rfl) (H.nw 0 rfl) (Nat.lt_of_lt_of_le VP.out (pw_mono (by decide))) Q0.out VQ.out).mono ?_
    rintro e y13 ⟨p13, n13, c13, rfl, hr, hg⟩
    replace H := H.grow hg
    replace H := H.num hr
    clear hr hg
    refine hK.out _ _ (fun _ => (H.sub [4, 2] rfl)) ?_; clear hK K
    (try simp only [Act.put, List.getElem_toArray, List.getElem_cons_zero, List.getElem_cons_succ, List.setIfInBounds_toArray, List.set_cons_zero, List.set_cons_succ])
    refine Kr.readyL (rs := [4]) (by kernel_rfl) (by simp) ?_
    refine Kr.AllL.cons rfl (fun K hK => ?_) Kr.AllL.nil
    go_simp
    go_at_call 34
    refine (rinv3_v (H.nw 0 rfl) (H.nw 1 rfl) (Nat.mod_lt _ Q0.out) VQ.out).mono ?_
    rintro e yi ⟨pi, ni, ci, z, rfl, h1, hr, hg⟩
    have HI := Lib.hid (h1 HG1.out)
    replace H := H.grow hg
    replace H := H.num hr
    clear hr hg h1
    refine hK.out _ _ (fun _ => (H.sub [4, 2] rfl)) ?_; clear hK K
    (try simp only [Act.put, List.getElem_toArray, List.getElem_cons_zero, List.getElem_cons_succ, List.setIfInBounds_toArray, List.set_cons_zero, List.set_cons_succ])
    (refine Kr.tP 5 (v := ?_) rfl (by kernel_rfl) (fun _ _ _ h => h) (by rfl) (fun _ => (H.sub [4, 2] rfl)) (fun wx => ?_) ?_; rotate_left; (focus (go_simp; first | done | rfl)); (try simp only [Act.put, List.getElem_toArray, List.getElem_cons_zero, List.getElem_cons_succ, List.setIfInBounds_toArray, List.set_cons_zero, List.set_cons_succ]))
    (refine Kr.tP 6 (v := ?_) rfl (by kernel_rfl) (fun _ _ _ h => h) (by rfl) (fun _ => (H.sub [4, 2] rfl)) (fun wx => ?_) ?_; rotate_left; (focus (go_simp; first | done | rfl)); (try simp only [Act.put, List.getElem_toArray, List.getElem_cons_zero, List.getElem_cons_succ, List.setIfInBounds_toArray, List.set_cons_zero, List.set_cons_succ]))
    (refine Kr.tP 7 (v := ?_) rfl (by kernel_rfl) (fun _ _ _ h => h) (by rfl) (fun _ => (H.sub [4, 2] rfl)) (fun wx => ?_) ?_; rotate_left; (focus (go_simp; first | done | rfl)); (try simp only [Act.put, List.getElem_toArray, List.getElem_cons_zero, List.getElem_cons_succ, List.setIfInBounds_toArray, List.set_cons_zero, List.set_cons_succ]))
    refine Kr.readyL (rs := [9]) (by kernel_rfl) (by simp) ?_
    refine Kr.AllL.cons rfl (fun K hK => ?_) Kr.AllL.nil
    have hk := H.c
    simp only [Kr.Cells] at hk
    go_simp
    clear hk
    obtain ⟨y14, hy⟩ : ∃ y, yi.setCell ⟨bi, 0, none⟩ (.slice pi ni ci) = y := ⟨_, rfl⟩
    rw [hy]
    replace H := H.store 0 hy rfl rfl
    dsimp only [List.set] at H
    clear hy
    refine hK.out _ _ (fun _ => (H.sub [4, 2] rfl)) ?_; clear hK K
    (try simp only [Act.put, List.getElem_toArray, List.getElem_cons_zero, List.getElem_cons_succ, List.setIfInBounds_toArray, List.set_cons_zero, List.set_cons_succ])
    (refine Kr.tP 10 (v := ?_) rfl (by kernel_rfl) (fun _ _ _ h => h) (by rfl) (fun _ => (H.sub [4, 2] rfl)) (fun wx => ?_) ?_; rotate_left; (focus (go_simp; first | done | rfl)); (try simp only [Act.put, List.getElem_toArray, List.getElem_cons_zero, List.getElem_cons_succ, List.setIfInBounds_toArray, List.set_cons_zero, List.set_cons_succ]))
    refine Kr.doneL (by kernel_rfl) ?_ _
    go_wp2_with fail
    go_meet
    exact ⟨_, _, _, _, _, _, _, _, rfl, rfl, HI, Lib.hid H⟩
  case rest =>
    clear H
    obtain ⟨bi, pi, ni, ci, p13, n13, c13, z, rfl, rfl, HI, HH⟩ := hcut
    have H := HH.out
    clear HH
    go_upto_region 2 with fail
    go_cut [11] from 20 to 28 (fun s11 W => ∃ (bk : Nat) (p31 : Option Addr) (n31 c31 : Nat) (p30 : Option Addr) (n30 c30 : Nat) (p29 : Option Addr) (n29 c29 : Nat), s11 = .pointer (some ⟨bk, 0, none⟩) ∧ Hid (Sta w W [(bk, 0, .slice p31 n31 c31), (bi, 0, .slice pi ni ci), (br, 0, .slice none 0 0), (bq, 0, .slice pq nq cq), (bb, 0, .slice pb nb cb), (bp, 0, .slice pp np cp), (ba, 0, .slice pa na ca)] [N p31 n31 c31 ((b + q - a % q) % q * z % q), N p30 n30 c30 ((b + q - a % q) % q), N p29 n29 c29 (a % q), N pi ni ci (z), N p13 n13 c13 (p % q), N pq nq cq (q), N pb nb cb (b), N pp np cp (p), N pa na ca (a)]))
    case first =>
      refine Kr.startL (fun W' => Kr.Cells W' [(bb, 0, .slice pb nb cb), (ba, 0, .slice pa na ca), (bq, 0, .slice pq nq cq), (bi, 0, .slice pi ni ci)]) [] (by kernel_rfl) ?_
      have gd : Gr wc wc.drew := (Gr.refl _).drew
      generalize wc.drew = d15 at gd ⊢
      replace H := H.grow gd
      clear gd
      (refine Kr.tS 0 [] (v := ?_) rfl (by kernel_rfl) (fun _ _ _ h => h) (by rfl) (H.sub [3, 5, 2, 0] rfl) (fun wx hSx => ?_) ?_; rotate_left; (focus (simp only [Kr.Cells] at hSx; go_simp; first | done | rfl)); (try simp only [Act.put, List.getElem_toArray, List.getElem_cons_zero, List.getElem_cons_succ, List.setIfInBounds_toArray, List.set_cons_zero, List.set_cons_succ]))
      (refine Kr.tS 1 [] (v := ?_) rfl (by kernel_rfl) (fun _ _ _ h => h) (by rfl) (H.sub [3, 5, 2, 0] rfl) (fun wx hSx => ?_) ?_; rotate_left; (focus (simp only [Kr.Cells] at hSx; go_simp; first | done | rfl)); (try simp only [Act.put, List.getElem_toArray, List.getElem_cons_zero, List.getElem_cons_succ, List.setIfInBounds_toArray, List.set_cons_zero, List.set_cons_succ]))
      (refine Kr.tS 2 [] (v := ?_) rfl (by kernel_rfl) (fun _ _ _ h => h) (by rfl) (H.sub [3, 5, 2, 0] rfl) (fun wx hSx => ?_) ?_; rotate_left; (focus (simp only [Kr.Cells] at hSx; go_simp; first | done | rfl)); (try simp only [Act.put, List.getElem_toArray, List.getElem_cons_zero, List.getElem_cons_succ, List.setIfInBounds_toArray, List.set_cons_zero, List.set_cons_succ]))
      (refine Kr.tS 4 [] (v := ?_) rfl (by kernel_rfl) (fun _ _ _ h => h) (by rfl) (H.sub [3, 5, 2, 0] rfl) (fun wx hSx => ?_) ?_; rotate_left; (focus (simp only [Kr.Cells] at hSx; go_simp; first | done | rfl)); (try simp only [Act.put, List.getElem_toArray, List.getElem_cons_zero, List.getElem_cons_succ, List.setIfInBounds_toArray, List.set_cons_zero, List.set_cons_succ]))
      (refine Kr.tS 6 [] (v := ?_) rfl (by kernel_rfl) (fun _ _ _ h => h) (by rfl) (H.sub [3, 5, 2, 0] rfl) (fun wx hSx => ?_) ?_; rotate_left; (focus (simp only [Kr.Cells] at hSx; go_simp; first | done | rfl)); (try simp only [Act.put, List.getElem_toArray, List.getElem_cons_zero, List.getElem_cons_succ, List.setIfInBounds_toArray, List.set_cons_zero, List.set_cons_succ]))
      (refine Kr.tS 7 [] (v := ?_) rfl (by kernel_rfl) (fun _ _ _ h => h) (by rfl) (H.sub [3, 5, 2, 0] rfl) (fun wx hSx => ?_) ?_; rotate_left; (focus (simp only [Kr.Cells] at hSx; go_simp; first | done | rfl)); (try simp only [Act.put, List.getElem_toArray, List.getElem_cons_zero, List.getElem_cons_succ, List.setIfInBounds_toArray, List.set_cons_zero, List.set_cons_succ]))
      refine Kr.readyL (rs := [3, 9]) (by kernel_rfl) (by simp) ?_
      refine Kr.AllL.cons rfl (fun K hK => ?_) ?_
      · go_simp
        go_at_call 47
        refine (rmod3_v (H.nw 5 rfl) (H.nw 2 rfl) (Nat.lt_of_lt_of_le (Nat.lt_trans VA.out VP.out) (pw_mono (by decide))) Q0.out VQ.out).mono ?_
        rintro e y16 ⟨p16, n16, c16, rfl, hr, hg⟩
        replace H := H.grow hg
        replace H := H.num hr
        clear hr hg
        refine hK.out _ _ (fun _ => (H.sub [3, 5, 2, 0] rfl)) ?_; clear hK K
        (try simp only [Act.put, List.getElem_toArray, List.getElem_cons_zero, List.getElem_cons_succ, List.setIfInBounds_toArray, List.set_cons_zero, List.set_cons_succ])
        refine Kr.readyL (rs := [5, 9]) (by kernel_rfl) (by simp) ?_
        refine Kr.AllL.cons rfl (fun K hK => ?_) ?_
        · go_simp
          go_at_call 25
          refine (rsub3_v (H.nw 4 rfl) (H.nw 0 rfl) (H.nw 3 rfl) VB.out (Nat.mod_lt _ Q0.out) VQ.out).mono ?_
          rintro e y17 ⟨p17, n17, c17, rfl, hr, hg⟩
          replace H := H.grow hg
          replace H := H.num hr
          clear hr hg
          refine hK.out _ _ (fun _ => (H.sub [3, 5, 2, 0] rfl)) ?_; clear hK K
          (try simp only [Act.put, List.getElem_toArray, List.getElem_cons_zero, List.getElem_cons_succ, List.setIfInBounds_toArray, List.set_cons_zero, List.set_cons_succ])
          refine Kr.readyL (rs := [8, 9]) (by kernel_rfl) (by simp) ?_
          refine Kr.AllL.cons rfl (fun K hK => ?_) ?_
          · go_simp
            go_at_call 28
            refine (rmul3_v (H.nw 0 rfl) (H.nw 2 rfl) (H.nw 4 rfl) (Nat.mod_lt _ Q0.out) HI.out.1 VQ.out).mono ?_
            rintro e y18 ⟨p18, n18, c18, rfl, hr, hg⟩
            replace H := H.grow hg
            replace H := H.num hr
            clear hr hg
            refine hK.out _ _ (fun _ => (H.sub [3, 5, 2, 0] rfl)) ?_; clear hK K
            (try simp only [Act.put, List.getElem_toArray, List.getElem_cons_zero, List.getElem_cons_succ, List.setIfInBounds_toArray, List.set_cons_zero, List.set_cons_succ])
            refine Kr.readyL (rs := [9]) (by kernel_rfl) (by simp) ?_
            refine Kr.AllL.cons rfl (fun K hK => ?_) Kr.AllL.nil
            go_simp
            obtain ⟨y19, hy⟩ : ∃ y, y18.alloc (.cells #[.slice none 0 0] 24) = y := ⟨_, rfl⟩
            obtain ⟨bk, hb⟩ : ∃ b, y18.heap.size = b := ⟨_, rfl⟩
            rw [hy, hb]
            replace H := H.alloc hy hb rfl
            clear hy hb
            refine hK.out _ _ (fun _ => (H.sub [4, 6, 3, 1] rfl)) ?_; clear hK K
            (try simp only [Act.put, List.getElem_toArray, List.getElem_cons_zero, List.getElem_cons_succ, List.setIfInBounds_toArray, List.set_cons_zero, List.set_cons_succ])
            refine Kr.readyL (rs := [10]) (by kernel_rfl) (by simp) ?_
            refine Kr.AllL.cons rfl (fun K hK => ?_) Kr.AllL.nil
            have hk := H.c
            simp only [Kr.Cells] at hk
            go_simp
            clear hk
            obtain ⟨y20, hy⟩ : ∃ y, y19.setCell ⟨bk, 0, none⟩ (.slice p18 n18 c18) = y := ⟨_, rfl⟩
            rw [hy]
            replace H := H.store 0 hy rfl rfl
            dsimp only [List.set] at H
            clear hy
            refine hK.out _ _ (fun _ => (H.sub [4, 6, 3, 1] rfl)) ?_; clear hK K
            (try simp only [Act.put, List.getElem_toArray, List.getElem_cons_zero, List.getElem_cons_succ, List.setIfInBounds_toArray, List.set_cons_zero, List.set_cons_succ])
            refine Kr.doneL (by kernel_rfl) ?_ _
            go_wp2_with fail
            go_meet
            exact ⟨_, _, _, _, _, _, _, _, _, _, rfl, Lib.hid H⟩
          refine Kr.AllL.cons rfl (fun K hK => ?_) Kr.AllL.nil
          go_simp
          obtain ⟨y21, hy⟩ : ∃ y, y17.alloc (.cells #[.slice none 0 0] 24) = y := ⟨_, rfl⟩
          obtain ⟨bk, hb⟩ : ∃ b, y17.heap.size = b := ⟨_, rfl⟩
          rw [hy, hb]
          replace H := H.alloc hy hb rfl
          clear hy hb
          refine hK.out _ _ (fun _ => (H.sub [4, 6, 3, 1] rfl)) ?_; clear hK K
          (try simp only [Act.put, List.getElem_toArray, List.getElem_cons_zero, List.getElem_cons_succ, List.setIfInBounds_toArray, List.set_cons_zero, List.set_cons_succ])
          refine Kr.readyL (rs := [8]) (by kernel_rfl) (by simp) ?_
          refine Kr.AllL.cons rfl (fun K hK => ?_) Kr.AllL.nil
          go_simp
          go_at_call 28
          refine (rmul3_v (H.nw 0 rfl) (H.nw 2 rfl) (H.nw 4 rfl) (Nat.mod_lt _ Q0.out) HI.out.1 VQ.out).mono ?_
          rintro e y22 ⟨p22, n22, c22, rfl, hr, hg⟩
          replace H := H.grow hg
          replace H := H.num hr
          clear hr hg
          refine hK.out _ _ (fun _ => (H.sub [4, 6, 3, 1] rfl)) ?_; clear hK K
          (try simp only [Act.put, List.getElem_toArray, List.getElem_cons_zero, List.getElem_cons_succ, List.setIfInBounds_toArray, List.set_cons_zero, List.set_cons_succ])
          refine Kr.readyL (rs := [10]) (by kernel_rfl) (by simp) ?_
          refine Kr.AllL.cons rfl (fun K hK => ?_) Kr.AllL.nil
          have hk := H.c
          simp only [Kr.Cells] at hk
          go_simp
          clear hk
          obtain ⟨y23, hy⟩ : ∃ y, y22.setCell ⟨bk, 0, none⟩ (.slice p22 n22 c22) = y := ⟨_, rfl⟩
          rw [hy]
          replace H := H.store 0 hy rfl rfl
          dsimp only [List.set] at H
          clear hy
          refine hK.out _ _ (fun _ => (H.sub [4, 6, 3, 1] rfl)) ?_; clear hK K
          (try simp only [Act.put, List.getElem_toArray, List.getElem_cons_zero, List.getElem_cons_succ, List.setIfInBounds_toArray, List.set_cons_zero, List.set_cons_succ])
          refine Kr.doneL (by kernel_rfl) ?_ _
          go_wp2_with fail
          go_meet
          exact ⟨_, _, _, _, _, _, _, _, _, _, rfl, Lib.hid H⟩
        refine Kr.AllL.cons rfl (fun K hK => ?_) Kr.AllL.nil
        go_simp
        obtain ⟨y24, hy⟩ : ∃ y, y16.alloc (.cells #[.slice none 0 0] 24) = y := ⟨_, rfl⟩
        obtain ⟨bk, hb⟩ : ∃ b, y16.heap.size = b := ⟨_, rfl⟩
        rw [hy, hb]
        replace H := H.alloc hy hb rfl
        clear hy hb
        refine hK.out _ _ (fun _ => (H.sub [4, 6, 3, 1] rfl)) ?_; clear hK K
        (try simp only [Act.put, List.getElem_toArray, List.getElem_cons_zero, List.getElem_cons_succ, List.setIfInBounds_toArray, List.set_cons_zero, List.set_cons_succ])
        refine Kr.readyL (rs := [5]) (by kernel_rfl) (by simp) ?_
        refine Kr.AllL.cons rfl (fun K hK => ?_) Kr.AllL.nil
        go_simp
        go_at_call 25
        refine (rsub3_v (H.nw 4 rfl) (H.nw 0 rfl) (H.nw 3 rfl) VB.out (Nat.mod_lt _ Q0.out) VQ.out).mono ?_
        rintro e y25 ⟨p25, n25, c25, rfl, hr, hg⟩
        replace H := H.grow hg
        replace H := H.num hr
        clear hr hg
        refine hK.out _ _ (fun _ => (H.sub [4, 6, 3, 1] rfl)) ?_; clear hK K
        (try simp only [Act.put, List.getElem_toArray, List.getElem_cons_zero, List.getElem_cons_succ, List.setIfInBounds_toArray, List.set_cons_zero, List.set_cons_succ])
        refine Kr.readyL (rs := [8]) (by kernel_rfl) (by simp) ?_
        refine Kr.AllL.cons rfl (fun K hK => ?_) Kr.AllL.nil
        go_simp
        go_at_call 28
        refine (rmul3_v (H.nw 0 rfl) (H.nw 2 rfl) (H.nw 4 rfl) (Nat.mod_lt _ Q0.out) HI.out.1 VQ.out).mono ?_
        rintro e y26 ⟨p26, n26, c26, rfl, hr, hg⟩
        replace H := H.grow hg
        replace H := H.num hr
        clear hr hg
        refine hK.out _ _ (fun _ => (H.sub [4, 6, 3, 1] rfl)) ?_; clear hK K
        (try simp only [Act.put, List.getElem_toArray, List.getElem_cons_zero, List.getElem_cons_succ, List.setIfInBounds_toArray, List.set_cons_zero, List.set_cons_succ])
        refine Kr.readyL (rs := [10]) (by kernel_rfl) (by simp) ?_
        refine Kr.AllL.cons rfl (fun K hK => ?_) Kr.AllL.nil
        have hk := H.c
        simp only [Kr.Cells] at hk
        go_simp
        clear hk
        obtain ⟨y27, hy⟩ : ∃ y, y26.setCell ⟨bk, 0, none⟩ (.slice p26 n26 c26) = y := ⟨_, rfl⟩
        rw [hy]
        replace H := H.store 0 hy rfl rfl
        dsimp only [List.set] at H
        clear hy
        refine hK.out _ _ (fun _ => (H.sub [4, 6, 3, 1] rfl)) ?_; clear hK K
        (try simp only [Act.put, List.getElem_toArray, List.getElem_cons_zero, List.getElem_cons_succ, List.setIfInBounds_toArray, List.set_cons_zero, List.set_cons_succ])
        refine Kr.doneL (by kernel_rfl) ?_ _
        go_wp2_with fail
        go_meet
        exact ⟨_, _, _, _, _, _, _, _, _, _, rfl, Lib.hid H⟩
      refine Kr.AllL.cons rfl (fun K hK => ?_) Kr.AllL.nil
      go_simp
      obtain ⟨y28, hy⟩ : ∃ y, d15.alloc (.cells #[.slice none 0 0] 24) = y := ⟨_, rfl⟩
      obtain ⟨bk, hb⟩ : ∃ b, d15.heap.size = b := ⟨_, rfl⟩
      rw [hy, hb]
      replace H := H.alloc hy hb rfl
      clear hy hb
      refine hK.out _ _ (fun _ => (H.sub [4, 6, 3, 1] rfl)) ?_; clear hK K
      (try simp only [Act.put, List.getElem_toArray, List.getElem_cons_zero, List.getElem_cons_succ, List.setIfInBounds_toArray, List.set_cons_zero, List.set_cons_succ])
      refine Kr.readyL (rs := [3]) (by kernel_rfl) (by simp) ?_
      refine Kr.AllL.cons rfl (fun K hK => ?_) Kr.AllL.nil
      go_simp
      go_at_call 47
      refine (rmod3_v (H.nw 5 rfl) (H.nw 2 rfl) (Nat.lt_of_lt_of_le (Nat.lt_trans VA.out VP.out) (pw_mono (by decide))) Q0.out VQ.out).mono ?_
      rintro e y29 ⟨p29, n29, c29, rfl, hr, hg⟩
      replace H := H.grow hg
      replace H := H.num hr
      clear hr hg
      refine hK.out _ _ (fun _ => (H.sub [4, 6, 3, 1] rfl)) ?_; clear hK K
      (try simp only [Act.put, List.getElem_toArray, List.getElem_cons_zero, List.getElem_cons_succ, List.setIfInBounds_toArray, List.set_cons_zero, List.set_cons_succ])
      refine Kr.readyL (rs := [5]) (by kernel_rfl) (by simp) ?_
      refine Kr.AllL.cons rfl (fun K hK => ?_) Kr.AllL.nil
      go_simp
      go_at_call 25
      refine (rsub3_v (H.nw 4 rfl) (H.nw 0 rfl) (H.nw 3 rfl) VB.out (Nat.mod_lt _ Q0.out) VQ.out).mono ?_
      rintro e y30 ⟨p30, n30, c30, rfl, hr, hg⟩
      replace H := H.grow hg
      replace H := H.num hr
      clear hr hg
      refine hK.out _ _ (fun _ => (H.sub [4, 6, 3, 1] rfl)) ?_; clear hK K
      (try simp only [Act.put, List.getElem_toArray, List.getElem_cons_zero, List.getElem_cons_succ, List.setIfInBounds_toArray, List.set_cons_zero, List.set_cons_succ])
      refine Kr.readyL (rs := [8]) (by kernel_rfl) (by simp) ?_
      refine Kr.AllL.cons rfl (fun K hK => ?_) Kr.AllL.nil
      go_simp
      go_at_call 28
      refine (rmul3_v (H.nw 0 rfl) (H.nw 2 rfl) (H.nw 4 rfl) (Nat.mod_lt _ Q0.out) HI.out.1 VQ.out).mono ?_
      rintro e y31 ⟨p31, n31, c31, rfl, hr, hg⟩
      replace H := H.grow hg
      replace H := H.num hr
      clear hr hg
      refine hK.out _ _ (fun _ => (H.sub [4, 6, 3, 1] rfl)) ?_; clear hK K
      (try simp only [Act.put, List.getElem_toArray, List.getElem_cons_zero, List.getElem_cons_succ, List.setIfInBounds_toArray, List.set_cons_zero, List.set_cons_succ])
      refine Kr.readyL (rs := [10]) (by kernel_rfl) (by simp) ?_
      refine Kr.AllL.cons rfl (fun K hK => ?_) Kr.AllL.nil
      have hk := H.c
      simp only [Kr.Cells] at hk
      go_simp
      clear hk
      obtain ⟨y32, hy⟩ : ∃ y, y31.setCell ⟨bk, 0, none⟩ (.slice p31 n31 c31) = y := ⟨_, rfl⟩
      rw [hy]
      replace H := H.store 0 hy rfl rfl
      dsimp only [List.set] at H
      clear hy
      refine hK.out _ _ (fun _ => (H.sub [4, 6, 3, 1] rfl)) ?_; clear hK K
      (try simp only [Act.put, List.getElem_toArray, List.getElem_cons_zero, List.getElem_cons_succ, List.setIfInBounds_toArray, List.set_cons_zero, List.set_cons_succ])
      refine Kr.doneL (by kernel_rfl) ?_ _
      go_wp2_with fail
      go_meet
      exact ⟨_, _, _, _, _, _, _, _, _, _, rfl, Lib.hid H⟩
    case rest =>
      clear H
      obtain ⟨bk, p31, n31, c31, p30, n30, c30, p29, n29, c29, rfl, HH⟩ := hcut
      have H := HH.out
      clear HH
      go_upto_region 3 with fail
      refine Kr.startL (fun W' => Kr.Cells W' [(ba, 0, .slice pa na ca), (bp, 0, .slice pp np cp), (bk, 0, .slice p31 n31 c31)]) [] (by kernel_rfl) ?_
      have gd : Gr wc wc.drew := (Gr.refl _).drew
      generalize wc.drew = d33 at gd ⊢
      replace H := H.grow gd
      clear gd
      (refine Kr.tS 0 [] (v := ?_) rfl (by kernel_rfl) (fun _ _ _ h => h) (by rfl) (H.sub [6, 5, 0] rfl) (fun wx hSx => ?_) ?_; rotate_left; (focus (simp only [Kr.Cells] at hSx; go_simp; first | done | rfl)); (try simp only [Act.put, List.getElem_toArray, List.getElem_cons_zero, List.getElem_cons_succ, List.setIfInBounds_toArray, List.set_cons_zero, List.set_cons_succ]))
      (refine Kr.tS 1 [] (v := ?_) rfl (by kernel_rfl) (fun _ _ _ h => h) (by rfl) (H.sub [6, 5, 0] rfl) (fun wx hSx => ?_) ?_; rotate_left; (focus (simp only [Kr.Cells] at hSx; go_simp; first | done | rfl)); (try simp only [Act.put, List.getElem_toArray, List.getElem_cons_zero, List.getElem_cons_succ, List.setIfInBounds_toArray, List.set_cons_zero, List.set_cons_succ]))
      (refine Kr.tS 2 [] (v := ?_) rfl (by kernel_rfl) (fun _ _ _ h => h) (by rfl) (H.sub [6, 5, 0] rfl) (fun wx hSx => ?_) ?_; rotate_left; (focus (simp only [Kr.Cells] at hSx; go_simp; first | done | rfl)); (try simp only [Act.put, List.getElem_toArray, List.getElem_cons_zero, List.getElem_cons_succ, List.setIfInBounds_toArray, List.set_cons_zero, List.set_cons_succ]))
      refine Kr.readyL (rs := [3]) (by kernel_rfl) (by simp) ?_
      refine Kr.AllL.cons rfl (fun K hK => ?_) Kr.AllL.nil
      go_simp
      go_at_call 44
      refine (rtimes3_v (H.nw 7 rfl) (H.nw 0 rfl) VP.out (Nat.lt_of_lt_of_le (Nat.lt_trans (Nat.mod_lt _ Q0.out) VQ.out) (pw_mono (by decide))) (Nat.lt_of_le_of_lt (Nat.mul_le_mul_left p (Nat.le_of_lt (Nat.mod_lt _ Q0.out))) HPQ.out)).mono ?_
      rintro e y34 ⟨p34, n34, c34, rfl, hr, hg⟩
      replace H := H.grow hg
      replace H := H.num hr
      clear hr hg
      refine hK.out _ _ (fun _ => (H.sub [6, 5, 0] rfl)) ?_; clear hK K
      (try simp only [Act.put, List.getElem_toArray, List.getElem_cons_zero, List.getElem_cons_succ, List.setIfInBounds_toArray, List.set_cons_zero, List.set_cons_succ])
      refine Kr.readyL (rs := [4]) (by kernel_rfl) (by simp) ?_
      refine Kr.AllL.cons rfl (fun K hK => ?_) Kr.AllL.nil
      go_simp
      go_at_call 43
      refine (rplus3_v (H.nw 9 rfl) (H.nw 0 rfl) hna (Nat.le_trans (nw_small (H.nw 0 rfl) (Nat.lt_of_le_of_lt (Nat.mul_le_mul_left p (Nat.le_of_lt (Nat.mod_lt _ Q0.out))) HPQ.out)) (by decide))).mono ?_
      rintro e y35 ⟨p35, n35, c35, rfl, hr, hg⟩
      replace H := H.grow hg
      replace H := H.num hr
      clear hr hg
      refine hK.out _ _ (fun _ => (H.sub [6, 5, 0] rfl)) ?_; clear hK K
      (try simp only [Act.put, List.getElem_toArray, List.getElem_cons_zero, List.getElem_cons_succ, List.setIfInBounds_toArray, List.set_cons_zero, List.set_cons_succ])
      refine Kr.readyL (rs := [5]) (by kernel_rfl) (by simp) ?_
      refine Kr.AllL.cons rfl (fun K hK => ?_) Kr.AllL.nil
      have hk := H.c
      simp only [Kr.Cells] at hk
      go_simp
      clear hk
      obtain ⟨y36, hy⟩ : ∃ y, y35.setCell ⟨br, 0, none⟩ (.slice p35 n35 c35) = y := ⟨_, rfl⟩
      rw [hy]
      replace H := H.store 2 hy rfl rfl
      dsimp only [List.set] at H
      clear hy
      refine hK.out _ _ (fun _ => (H.sub [6, 5, 0] rfl)) ?_; clear hK K
      (try simp only [Act.put, List.getElem_toArray, List.getElem_cons_zero, List.getElem_cons_succ, List.setIfInBounds_toArray, List.set_cons_zero, List.set_cons_succ])
      refine Kr.doneL (by kernel_rfl) ?_ _
      have hk := H.c
      simp only [Kr.Cells] at hk
      go_wp2
      refine bodyPost_ret (v := .agg #[.slice p35 n35 c35]) (by simp [results, Try.results39, go_sem, hk]) rfl ⟨z, HI.out, p35, n35, c35, rfl, (H.nw 0 rfl), H.g⟩
end Go.Proofs.Ytlciocebbckdcaa.Mr


/- The examples that each law of layer 2 checks first: they hold. -/
namespace Go.Proofs.Ytlciocebbckdcaa.Nv
open Go.RowKit Go.Shelf Go.Proofs.Ytlciocebbckdcaa.Nm Go.Proofs.Ytlciocebbckdcaa.Ne Go.Proofs.Ytlciocebbckdcaa.Nf Go.Proofs.Ytlciocebbckdcaa.Nk

theorem digs_cons {x : Nat} {l : List Nat} (h : x ≠ 0) (h2 : digs (x / 4294967296) = l) : digs x = x % 4294967296 :: l := by rw [digs_pos h, h2]
theorem digs_one {x : Nat} (h : x ≠ 0) (h2 : x < 4294967296) : digs x = [x] := by rw [digs_pos h, Nat.div_eq_of_lt h2, digs_zero, Nat.mod_eq_of_lt h2]
theorem ex_a : digs 18446744073709551615 = [4294967295, 4294967295] := digs_cons (by decide) (digs_one (by decide) (by decide))
theorem ex_p : digs 340282366920938463426481119284349108225 = [1, 0, 4294967294, 4294967295] := digs_cons (by decide) (digs_cons (by decide) (digs_cons (by decide) (digs_one (by decide) (by decide))))
theorem ex_b : digs 10000000000 = [1410065408, 2] := digs_cons (by decide) (digs_one (by decide) (by decide))
theorem ex_3 : digs 3 = [3] := digs_one (by decide) (by decide)
theorem ex_q : digs 3333333333 = [3333333333] := digs_one (by decide) (by decide)
theorem ex_1 : digs 1 = [1] := digs_one (by decide) (by decide)

/-- One, two words that have been written out. -/
theorem lit1 (w : World) (x a : Nat) (h : digs x = [a]) (ha : a < 4294967296) : Nw (w.alloc (.cells #[.int .u32 (a : Int)] 50)) (some ⟨w.heap.size, 0, none⟩) 1 1 (digs x) := by
  rw [h]
  refine nw_lit rfl (ok_cons.2 ⟨ha, ok_nil⟩) (by decide) ?_
  intro i hi
  match i, hi with
  | 0, _ => simp [go_sem]
theorem lit2 (w : World) (x a b : Nat) (h : digs x = [a, b]) (ha : a < 4294967296) (hb : b < 4294967296) : Nw (w.alloc (.cells #[.int .u32 (a : Int), .int .u32 (b : Int)] 50)) (some ⟨w.heap.size, 0, none⟩) 2 2 (digs x) := by
  rw [h]
  refine nw_lit rfl (ok_cons.2 ⟨ha, ok_cons.2 ⟨hb, ok_nil⟩⟩) (by decide) ?_
  intro i hi
  match i, hi with
  | 0, _ => simp [go_sem]
  | 1, _ => simp [go_sem]
theorem lit4 (w : World) (x a b c d : Nat) (h : digs x = [a, b, c, d]) (ha : a < 4294967296) (hb : b < 4294967296) (hc : c < 4294967296) (hd : d < 4294967296) :
    Nw (w.alloc (.cells #[.int .u32 (a : Int), .int .u32 (b : Int), .int .u32 (c : Int), .int .u32 (d : Int)] 50)) (some ⟨w.heap.size, 0, none⟩) 4 4 (digs x) := by
  rw [h]
  refine nw_lit rfl (ok_cons.2 ⟨ha, ok_cons.2 ⟨hb, ok_cons.2 ⟨hc, ok_cons.2 ⟨hd, ok_nil⟩⟩⟩⟩) (by decide) ?_
  intro i hi
  match i, hi with
  | 0, _ => simp [go_sem]
  | 1, _ => simp [go_sem]
  | 2, _ => simp [go_sem]
  | 3, _ => simp [go_sem]
/-- slices.Equal of values. -/
theorem Equal_v {p q : Option Addr} {n m c d x : Nat} {w : World} (hl : Nw w p n c (digs x)) (hk : Nw w q m d (digs x)) :
    Calls Try.prog 46 #[.slice p n c, .slice q m d] w fun e w' => e = .returned (.bool true) ∧ Gr w w' := by
  have en : m = n := by rw [← hl.len, ← hk.len]
  subst en
  refine (equal_any p q _ _ m c d hl.len hk.len hl.small w hl.rd hk.rd).mono ?_
  rintro e w' ⟨rfl, j, rfl⟩
  exact ⟨by rw [decide_eq_true rfl], (Gr.refl w).drewN j⟩

end Go.Proofs.Ytlciocebbckdcaa.Nv


/- The steps of a walk, the state behind each of them worked out by itself. -/
namespace Go.Proofs.Ytlciocebbckdcaa.Kr
open Go
section
variable {P : Program} {ops : Array Oper} {Q : Exit → Act → World → Prop} {md : Region.Mode} {S : World → Prop} {st : List Nat}
/-- A list of operations that is still to be walked: a shell that no tactic looks into (a bare 'wpList' is unfolded by whoever asks for its head, and behind an operation whose guard is off that grows without end). -/
structure WL (P : Program) (ops : Array Oper) (Q : Exit → Act → World → Prop) (l : List Oper) (a : Act) (w : World) : Prop where
  out : wpList P ops Q l a w
theorem seqStartW {id : Nat} {l : List Oper} {a : Act} {w : World} (h : WL P l.toArray Q l a w) : (Code.region id l.toArray false).wp P Q a w := seqStart h.out
theorem seqQ {o : Oper} {rest : List Oper} {v : Value} {a a' : Act} {w : World} (hw : Region.wanted o (yielded ops a.tmps) = true) (hy : (execOp a.eval o).run P w = .ok (.value v) w)
    (ha : a.put o.dst v = a') (h : WL P ops Q rest a' w) : WL P ops Q (o :: rest) a w := by
  subst ha
  exact ⟨seqP hw hy h.out⟩
theorem seqSkipQ {o : Oper} {rest : List Oper} {a a' : Act} {w : World} (hw : Region.wanted o (yielded ops a.tmps) = false) (ha : a.put o.dst undef = a') (h : WL P ops Q rest a' w) : WL P ops Q (o :: rest) a w := by
  subst ha
  exact ⟨seqSkip hw h.out⟩
theorem outS {rest : List Oper} {K : Act → World → Prop} (hK : Shut (∀ a w, WL P ops Q rest a w → K a w)) {a a' : Act} {w : World} (ha : a = a') (h : WL P ops Q rest a' w) : K a w := by
  subst ha
  exact hK a w h
theorem seqR {o : Oper} {rest : List Oper} {a : Act} {w : World} (hw : Region.wanted o (yielded ops a.tmps) = true) (h : ∀ K : Act → World → Prop, Shut (∀ a w, WL P ops Q rest a w → K a w) → Oper.wp P o a w K Q) : WL P ops Q (o :: rest) a w :=
  ⟨seqS fun K hK => by rw [if_pos hw]; exact h K fun a w hw => hK a w hw.out⟩
theorem seqDoneW {a : Act} {w : World} (h : Q .normal a w) : WL P ops Q [] a w := ⟨seqDone h⟩
theorem tPQ (i : Nat) {oi : Oper} {v : Value} {fuel : Nat} {listed : Array Bool} {a a' : Act} {w : World} (hi : ops[i]? = some oi) (hc : okP md ops st listed i = true) (hQ : ∀ c a w, Q (.panic c) (a.put oi.dst v) w → Q (.panic c) a w) (hw : Region.wanted oi (yielded ops a.tmps) = true) (hS : still st listed = true → S w)
    (hy : ∀ w : World, (execOp a.eval oi).run P w = .ok (.value v) w) (ha : a.put oi.dst v = a') (h : wpAnyL P md ops Q S st fuel (listed.setIfInBounds i true) a' w) : wpAnyL P md ops Q S st (fuel + 1) listed a w := by
  subst ha
  exact tP i hi hc hQ hw hS hy h
theorem tOQ (i : Nat) {oi : Oper} {fuel : Nat} {listed : Array Bool} {a a' : Act} {w : World} (hi : ops[i]? = some oi) (hc : okP md ops st listed i = true) (hQ : ∀ c a w, Q (.panic c) (a.put oi.dst undef) w → Q (.panic c) a w) (hw : Region.wanted oi (yielded ops a.tmps) = false) (hS : still st listed = true → S w)
    (ha : a.put oi.dst undef = a') (h : wpAnyL P md ops Q S st fuel (listed.setIfInBounds i true) a' w) : wpAnyL P md ops Q S st (fuel + 1) listed a w := by
  subst ha
  exact tO i hi hc hQ hw hS h
theorem tSQ (i : Nat) (B : List Nat) {oi : Oper} {v : Value} {fuel : Nat} {listed : Array Bool} {a a' : Act} {w : World} (hi : ops[i]? = some oi) (hc : okS md ops st listed i B = true) (hQ : ∀ c a w, Q (.panic c) (a.put oi.dst v) w → Q (.panic c) a w) (hw : Region.wanted oi (yielded ops a.tmps) = true) (hS : S w)
    (hy : ∀ w : World, S w → (execOp a.eval oi).run P w = .ok (.value v) w) (ha : a.put oi.dst v = a') (h : wpAnyL P md ops Q S st fuel (listed.setIfInBounds i true) a' w) : wpAnyL P md ops Q S st (fuel + 1) listed a w := by
  subst ha
  exact tS i B hi hc hQ hw hS hy h
theorem outL {K : Act → World → Prop} {fuel : Nat} {listed : Array Bool} (hK : Shut (∀ a w, (still st listed = true → S w) → wpAnyL P md ops Q S st fuel listed a w → K a w)) {a a' : Act} {w : World} (ha : a = a') (hS : still st listed = true → S w) (h : wpAnyL P md ops Q S st fuel listed a' w) : K a w := by
  subst ha
  exact hK a w hS h
end
section
open Go.RowKit Go.Proofs.Ytlciocebbckdcaa.Ne
variable {w W y : World} {cs : List (Nat × Nat × Value)} {fs : List (World → Prop)}
theorem set_self {α : Type} {x : α} : ∀ {l : List α} {i : Nat}, l[i]? = some x → l.set i x = l
  | [], _, h => by simp at h
  | z :: _, 0, h => by
    have e : z = x := by simpa using h
    rw [e]; rfl
  | z :: l, i + 1, h => by
    rw [List.set_cons_succ, set_self (l := l) (by simpa using h)]
/-- The same value is stored again. -/
theorem Sta.same (H : Sta w W cs fs) (i : Nat) {b o : Nat} {v : Value} (hy : W.setCell ⟨b, o, none⟩ v = y) (h : cs[i]? = some (b, o, v)) (hv : noData v = true) : Sta w y cs fs := by
  have := H.store i hy h hv
  rwa [set_self h] at this
theorem Sta.tl {F : World → Prop} (H : Sta w W cs (F :: fs)) : Sta w W cs fs := ⟨H.g, H.c, H.low, H.ne, fun G hG => H.f G (List.mem_cons_of_mem _ hG), fun G hG => H.k G (List.mem_cons_of_mem _ hG)⟩
theorem Sta.tlC {x : Nat × Nat × Value} (H : Sta w W (x :: cs) fs) : Sta w W cs fs := H.drop 1
end
end Go.Proofs.Ytlciocebbckdcaa.Kr


/- Layer 3's awake. -/
namespace Go.Proofs.Ytlciocebbckdcaa.Mr
open Go.RowKit Go.Shelf Go.Proofs.Ytlciocebbckdcaa.Nm Go.Proofs.Ytlciocebbckdcaa.Ne Go.Proofs.Ytlciocebbckdcaa.Nf Go.Proofs.Ytlciocebbckdcaa.Nk Go.Proofs.Ytlciocebbckdcaa.Nv Go.Proofs.Ytlciocebbckdcaa.Nr2 Go.Proofs.Ytlciocebbckdcaa.Mo Go.Proofs.Ytlciocebbckdcaa.Mr Go.Proofs.Ytlciocebbckdcaa.Kr Go.Proofs.Ytlciocebbckdcaa.Nl
theorem lit_mk {W y : World} {b x : Nat} {ws : List Nat} (hd : digs x = ws) (hy : W.alloc (.cells (ws.map fun (a : Nat) => Value.int .u32 (a : Int)).toArray 50) = y) (hb : W.heap.size = b) (hs : ws.length ≤ 1048576 := by decide) : Nw y (some ⟨b, 0, none⟩) ws.length ws.length (digs x) := by
  rw [hd]
  refine nw_lit rfl (by rw [← hd]; exact ok_digs x) hs fun i hi => ?_
  rw [← hy, ← hb]
  rw [show (W.alloc (.cells (ws.map fun (a : Nat) => Value.int .u32 (a : Int)).toArray 50)).cell? ⟨W.heap.size, i, none⟩ = (ws.map fun (a : Nat) => Value.int .u32 (a : Int))[i]? by simp [go_sem]]
  rw [List.getElem?_map, List.getElem?_eq_getElem hi]
  rfl
theorem ex_m : digs 18446744073709551629 = [13, 0, 1] := digs_cons (by decide) (digs_cons (by decide) (digs_one (by decide) (by decide)))
theorem ex_k : digs 4294967296 = [0, 1] := digs_cons (by decide) (digs_one (by decide) (by decide))
theorem ex_s : digs 18446744073709551616 = [0, 0, 1] := digs_cons (by decide) (digs_cons (by decide) (digs_one (by decide) (by decide)))
theorem ex_v : digs 9223372036854775815 = [7, 2147483648] := digs_cons (by decide) (digs_one (by decide) (by decide))
theorem ex_8 : digs 8 = [8] := digs_one (by decide) (by decide)
theorem m_lt : 18446744073709551629 < pw 32 := Nat.lt_of_lt_of_le (show 18446744073709551629 < pw 3 by decide) (pw_mono (by decide))
theorem s_lt {x : Nat} (h : x < 4294967296) : x < pw 32 := Nat.lt_of_lt_of_le (show x < pw 1 from h) (pw_mono (by decide))

set_option linter.unusedSimpArgs false in
set_option maxRecDepth 100000 in
set_option maxHeartbeats 16000000 in
theorem awake3 (w : World) : Calls Try.prog 18 #[] w fun e w' => e = .returned (.bool true) ∧ Gr w w' := by
  have H := Sta.start w
  go_enter Try.func18, Try.ntmps18
  go_upto_region 0 with fail
  refine Kr.seqStartW ?_
  (refine Kr.seqQ (v := ?_) (a' := ?_) (by rfl) ?_ ?_ ?_; rotate_left 2; (focus (go_simp; first | done | rfl)); (focus ((try simp only [Act.put, List.getElem_toArray, List.getElem_cons_zero, List.getElem_cons_succ, List.setIfInBounds_toArray, List.set_cons_zero, List.set_cons_succ]); first | done | rfl)))
  refine Kr.seqDoneW ?_
  go_upto_region 1 with fail
  refine Kr.seqStartW ?_
  refine Kr.seqR (by rfl) (fun K hK => ?_)
  go_simp
  obtain ⟨y1, hy⟩ : ∃ y, w.alloc (.cells #[.int .u32 13, .int .u32 0, .int .u32 1] 50) = y := ⟨_, rfl⟩
  obtain ⟨by1, hb⟩ : ∃ b, w.heap.size = b := ⟨_, rfl⟩
  rw [hy, hb]
  have hr : Nw y1 (some ⟨by1, 0, none⟩) 3 3 (digs 18446744073709551629) := lit_mk ex_m hy hb
  have hg : Gr w y1 := hy ▸ (Gr.refl _).alloc _
  replace H := H.grow hg
  replace H := H.num hr
  clear hr hg hy hb
  (refine Kr.outS hK (a' := ?_) ?_ ?_; rotate_left; (focus ((try simp only [Act.put, List.getElem_toArray, List.getElem_cons_zero, List.getElem_cons_succ, List.setIfInBounds_toArray, List.set_cons_zero, List.set_cons_succ]); first | done | rfl))); clear hK K
  (refine Kr.seqQ (v := ?_) (a' := ?_) (by rfl) ?_ ?_ ?_; rotate_left 2; (focus (go_simp; first | done | rfl)); (focus ((try simp only [Act.put, List.getElem_toArray, List.getElem_cons_zero, List.getElem_cons_succ, List.setIfInBounds_toArray, List.set_cons_zero, List.set_cons_succ]); first | done | rfl)))
  refine Kr.seqR (by rfl) (fun K hK => ?_)
  go_simp
  obtain ⟨y2, hy⟩ : ∃ y, y1.alloc (.cells #[.slice none 0 0] 24) = y := ⟨_, rfl⟩
  obtain ⟨bm, hb⟩ : ∃ b, y1.heap.size = b := ⟨_, rfl⟩
  rw [hy, hb]
  replace H := H.alloc hy hb rfl
  clear hy hb
  (refine Kr.outS hK (a' := ?_) ?_ ?_; rotate_left; (focus ((try simp only [Act.put, List.getElem_toArray, List.getElem_cons_zero, List.getElem_cons_succ, List.setIfInBounds_toArray, List.set_cons_zero, List.set_cons_succ]); first | done | rfl))); clear hK K
  have hk := H.c
  simp only [Kr.Cells] at hk
  refine Kr.seqR (by rfl) (fun K hK => ?_)
  go_simp
  clear hk
  obtain ⟨y3, hy⟩ : ∃ y, y2.setCell ⟨bm, 0, none⟩ (.slice (some ⟨by1, 0, none⟩) 3 3) = y := ⟨_, rfl⟩
  rw [hy]
  replace H := H.store 0 hy rfl rfl
  dsimp only [List.set] at H
  clear hy
  (refine Kr.outS hK (a' := ?_) ?_ ?_; rotate_left; (focus ((try simp only [Act.put, List.getElem_toArray, List.getElem_cons_zero, List.getElem_cons_succ, List.setIfInBounds_toArray, List.set_cons_zero, List.set_cons_succ]); first | done | rfl))); clear hK K
  refine Kr.seqDoneW ?_
  go_upto_region 2 with fail
  refine Kr.seqStartW ?_
  refine Kr.seqR (by rfl) (fun K hK => ?_)
  go_simp
  obtain ⟨y4, hy⟩ : ∃ y, y3.alloc (.cells #[.int .u32 0, .int .u32 1] 50) = y := ⟨_, rfl⟩
  obtain ⟨by4, hb⟩ : ∃ b, y3.heap.size = b := ⟨_, rfl⟩
  rw [hy, hb]
  have hr : Nw y4 (some ⟨by4, 0, none⟩) 2 2 (digs 4294967296) := lit_mk ex_k hy hb
  have hg : Gr y3 y4 := hy ▸ (Gr.refl _).alloc _
  replace H := H.grow hg
  replace H := H.num hr
  clear hr hg hy hb
  (refine Kr.outS hK (a' := ?_) ?_ ?_; rotate_left; (focus ((try simp only [Act.put, List.getElem_toArray, List.getElem_cons_zero, List.getElem_cons_succ, List.setIfInBounds_toArray, List.set_cons_zero, List.set_cons_succ]); first | done | rfl))); clear hK K
  (refine Kr.seqQ (v := ?_) (a' := ?_) (by rfl) ?_ ?_ ?_; rotate_left 2; (focus (go_simp; first | done | rfl)); (focus ((try simp only [Act.put, List.getElem_toArray, List.getElem_cons_zero, List.getElem_cons_succ, List.setIfInBounds_toArray, List.set_cons_zero, List.set_cons_succ]); first | done | rfl)))
  refine Kr.seqR (by rfl) (fun K hK => ?_)
  go_simp
  obtain ⟨y5, hy⟩ : ∃ y, y4.alloc (.cells #[.int .u32 0, .int .u32 1] 50) = y := ⟨_, rfl⟩
  obtain ⟨by5, hb⟩ : ∃ b, y4.heap.size = b := ⟨_, rfl⟩
  rw [hy, hb]
  have hr : Nw y5 (some ⟨by5, 0, none⟩) 2 2 (digs 4294967296) := lit_mk ex_k hy hb
  have hg : Gr y4 y5 := hy ▸ (Gr.refl _).alloc _
  replace H := H.grow hg
  replace H := H.num hr
  clear hr hg hy hb
  (refine Kr.outS hK (a' := ?_) ?_ ?_; rotate_left; (focus ((try simp only [Act.put, List.getElem_toArray, List.getElem_cons_zero, List.getElem_cons_succ, List.setIfInBounds_toArray, List.set_cons_zero, List.set_cons_succ]); first | done | rfl))); clear hK K
  (refine Kr.seqQ (v := ?_) (a' := ?_) (by rfl) ?_ ?_ ?_; rotate_left 2; (focus (go_simp; first | done | rfl)); (focus ((try simp only [Act.put, List.getElem_toArray, List.getElem_cons_zero, List.getElem_cons_succ, List.setIfInBounds_toArray, List.set_cons_zero, List.set_cons_succ]); first | done | rfl)))
  have hk := H.c
  simp only [Kr.Cells] at hk
  (refine Kr.seqQ (v := ?_) (a' := ?_) (by rfl) ?_ ?_ ?_; rotate_left 2; (focus (go_simp; first | done | rfl)); (focus ((try simp only [Act.put, List.getElem_toArray, List.getElem_cons_zero, List.getElem_cons_succ, List.setIfInBounds_toArray, List.set_cons_zero, List.set_cons_succ]); first | done | rfl)))
  refine Kr.seqR (by rfl) (fun K hK => ?_)
  go_simp
  go_at_call 26
  refine (mMul_v (H.nw 1 rfl) (H.nw 0 rfl) (H.nw 2 rfl) (by decide) (by decide) m_lt).mono ?_
  rintro e y6 ⟨pa, na, ca, rfl, hr, hg⟩
  rw [show 4294967296 * 4294967296 % 18446744073709551629 = 18446744073709551616 from by decide] at hr
  clear hk
  replace H := H.grow hg
  replace H := H.num hr.toNw
  clear hr hg
  (refine Kr.outS hK (a' := ?_) ?_ ?_; rotate_left; (focus ((try simp only [Act.put, List.getElem_toArray, List.getElem_cons_zero, List.getElem_cons_succ, List.setIfInBounds_toArray, List.set_cons_zero, List.set_cons_succ]); first | done | rfl))); clear hK K
  iterate 3 (refine Kr.seqQ (v := ?_) (a' := ?_) (by rfl) ?_ ?_ ?_; rotate_left 2; (focus (go_simp; first | done | rfl)); (focus ((try simp only [Act.put, List.getElem_toArray, List.getElem_cons_zero, List.getElem_cons_succ, List.setIfInBounds_toArray, List.set_cons_zero, List.set_cons_succ]); first | done | rfl)))
  refine Kr.seqR (by rfl) (fun K hK => ?_)
  go_simp
  obtain ⟨y7, hy⟩ : ∃ y, y6.alloc (.cells #[.slice none 0 0] 24) = y := ⟨_, rfl⟩
  obtain ⟨ba, hb⟩ : ∃ b, y6.heap.size = b := ⟨_, rfl⟩
  rw [hy, hb]
  replace H := H.alloc hy hb rfl
  clear hy hb
  (refine Kr.outS hK (a' := ?_) ?_ ?_; rotate_left; (focus ((try simp only [Act.put, List.getElem_toArray, List.getElem_cons_zero, List.getElem_cons_succ, List.setIfInBounds_toArray, List.set_cons_zero, List.set_cons_succ]); first | done | rfl))); clear hK K
  have hk := H.c
  simp only [Kr.Cells] at hk
  refine Kr.seqR (by rfl) (fun K hK => ?_)
  go_simp
  clear hk
  obtain ⟨y8, hy⟩ : ∃ y, y7.setCell ⟨ba, 0, none⟩ (.slice pa na ca) = y := ⟨_, rfl⟩
  rw [hy]
  replace H := H.store 0 hy rfl rfl
  dsimp only [List.set] at H
  clear hy
  (refine Kr.outS hK (a' := ?_) ?_ ?_; rotate_left; (focus ((try simp only [Act.put, List.getElem_toArray, List.getElem_cons_zero, List.getElem_cons_succ, List.setIfInBounds_toArray, List.set_cons_zero, List.set_cons_succ]); first | done | rfl))); clear hK K
  (refine Kr.seqQ (v := ?_) (a' := ?_) (by rfl) ?_ ?_ ?_; rotate_left 2; (focus (go_simp; first | done | rfl)); (focus ((try simp only [Act.put, List.getElem_toArray, List.getElem_cons_zero, List.getElem_cons_succ, List.setIfInBounds_toArray, List.set_cons_zero, List.set_cons_succ]); first | done | rfl)))
  refine Kr.seqDoneW ?_
  go_upto_region 3 with fail
  go_cut [4, 5] from 19 to 24 (fun s4 s5 W => ∃ (bv : Nat) (pv : Option Addr) (nv cv : Nat) (p18 : Option Addr) (n18 c18 : Nat), s4 = .pointer (some ⟨bv, 0, none⟩) ∧ s5 = .int .i64 0 ∧ Hid (Sta w W [(bv, 0, .slice pv nv cv), (ba, 0, .slice pa na ca), (bm, 0, .slice (some ⟨by1, 0, none⟩) 3 3)] [N pv nv cv (9223372036854775815), N p18 n18 c18 (2), N pa na ca (18446744073709551616), N (some ⟨by5, 0, none⟩) 2 2 (4294967296), N (some ⟨by4, 0, none⟩) 2 2 (4294967296), N (some ⟨by1, 0, none⟩) 3 3 (18446744073709551629)]))
  case first =>
    refine Kr.startL (fun W' => Kr.Cells W' [(bm, 0, .slice (some ⟨by1, 0, none⟩) 3 3)]) [] (by kernel_rfl) ?_
    have gd : Gr y8 y8.drew := (Gr.refl _).drew
    generalize y8.drew = d9 at gd ⊢
    replace H := H.grow gd
    clear gd
    (refine Kr.tSQ 1 [] (v := ?_) (a' := ?_) rfl (by kernel_rfl) (fun _ _ _ h => h) (by rfl) (H.sub [1] rfl) (fun wx hSx => ?_) ?_ ?_; rotate_left 2; (focus (simp only [Kr.Cells] at hSx; go_simp; first | done | rfl)); (focus ((try simp only [Act.put, List.getElem_toArray, List.getElem_cons_zero, List.getElem_cons_succ, List.setIfInBounds_toArray, List.set_cons_zero, List.set_cons_succ]); first | done | rfl)))
    refine Kr.readyL (rs := [0, 6]) (by kernel_rfl) (by simp) ?_
    refine Kr.AllL.cons rfl (fun K hK => ?_) ?_
    · go_simp
      go_at_call 38
      refine (of3_v 2 (by decide) _).mono ?_
      rintro e y10 ⟨p10, n10, c10, rfl, hr, hg⟩
      replace H := H.grow hg
      replace H := H.num hr.toNw
      clear hr hg
      (refine Kr.outL hK (a' := ?_) ?_ (fun _ => (H.sub [1] rfl)) ?_; rotate_left; (focus ((try simp only [Act.put, List.getElem_toArray, List.getElem_cons_zero, List.getElem_cons_succ, List.setIfInBounds_toArray, List.set_cons_zero, List.set_cons_succ]); first | done | rfl))); clear hK K
      refine Kr.readyL (rs := [2, 6]) (by kernel_rfl) (by simp) ?_
      refine Kr.AllL.cons rfl (fun K hK => ?_) ?_
      · go_simp
        go_at_call 32
        refine (mInverse_ok (H.nw 0 rfl) (H.nw 4 rfl) (by decide) m_lt (by decide) (chk_ok (H.nw 0 rfl) (H.nw 4 rfl) (nw_none _) (H.nw 4 rfl) (by decide) (by decide) m_lt m_lt)).mono ?_
        rintro e y11 ⟨z, hI, pv, nv, cv, rfl, hr, hg⟩
        rw [inv_unique hI (show IsInv 2 18446744073709551629 9223372036854775815 from ⟨by decide, by decide⟩)] at hr
        replace H := H.grow hg
        replace H := H.num hr
        clear hr hg hI
        (refine Kr.outL hK (a' := ?_) ?_ (fun _ => (H.sub [1] rfl)) ?_; rotate_left; (focus ((try simp only [Act.put, List.getElem_toArray, List.getElem_cons_zero, List.getElem_cons_succ, List.setIfInBounds_toArray, List.set_cons_zero, List.set_cons_succ]); first | done | rfl))); clear hK K
        (refine Kr.tPQ 3 (v := ?_) (a' := ?_) rfl (by kernel_rfl) (fun _ _ _ h => h) (by rfl) (fun _ => (H.sub [1] rfl)) (fun wx => ?_) ?_ ?_; rotate_left 2; (focus (go_simp; first | done | rfl)); (focus ((try simp only [Act.put, List.getElem_toArray, List.getElem_cons_zero, List.getElem_cons_succ, List.setIfInBounds_toArray, List.set_cons_zero, List.set_cons_succ]); first | done | rfl)))
        (refine Kr.tPQ 4 (v := ?_) (a' := ?_) rfl (by kernel_rfl) (fun _ _ _ h => h) (by rfl) (fun _ => (H.sub [1] rfl)) (fun wx => ?_) ?_ ?_; rotate_left 2; (focus (go_simp; first | done | rfl)); (focus ((try simp only [Act.put, List.getElem_toArray, List.getElem_cons_zero, List.getElem_cons_succ, List.setIfInBounds_toArray, List.set_cons_zero, List.set_cons_succ]); first | done | rfl)))
        (refine Kr.tPQ 5 (v := ?_) (a' := ?_) rfl (by kernel_rfl) (fun _ _ _ h => h) (by rfl) (fun _ => (H.sub [1] rfl)) (fun wx => ?_) ?_ ?_; rotate_left 2; (focus (go_simp; first | done | rfl)); (focus ((try simp only [Act.put, List.getElem_toArray, List.getElem_cons_zero, List.getElem_cons_succ, List.setIfInBounds_toArray, List.set_cons_zero, List.set_cons_succ]); first | done | rfl)))
        refine Kr.readyL (rs := [6]) (by kernel_rfl) (by simp) ?_
        refine Kr.AllL.cons rfl (fun K hK => ?_) Kr.AllL.nil
        go_simp
        obtain ⟨y12, hy⟩ : ∃ y, y11.alloc (.cells #[.slice none 0 0] 24) = y := ⟨_, rfl⟩
        obtain ⟨bv, hb⟩ : ∃ b, y11.heap.size = b := ⟨_, rfl⟩
        rw [hy, hb]
        replace H := H.alloc hy hb rfl
        clear hy hb
        (refine Kr.outL hK (a' := ?_) ?_ (fun _ => (H.sub [2] rfl)) ?_; rotate_left; (focus ((try simp only [Act.put, List.getElem_toArray, List.getElem_cons_zero, List.getElem_cons_succ, List.setIfInBounds_toArray, List.set_cons_zero, List.set_cons_succ]); first | done | rfl))); clear hK K
        refine Kr.readyL (rs := [7]) (by kernel_rfl) (by simp) ?_
        refine Kr.AllL.cons rfl (fun K hK => ?_) Kr.AllL.nil
        have hk := H.c
        simp only [Kr.Cells] at hk
        go_simp
        clear hk
        obtain ⟨y13, hy⟩ : ∃ y, y12.setCell ⟨bv, 0, none⟩ (.slice pv nv cv) = y := ⟨_, rfl⟩
        rw [hy]
        replace H := H.store 0 hy rfl rfl
        dsimp only [List.set] at H
        clear hy
        (refine Kr.outL hK (a' := ?_) ?_ (fun _ => (H.sub [2] rfl)) ?_; rotate_left; (focus ((try simp only [Act.put, List.getElem_toArray, List.getElem_cons_zero, List.getElem_cons_succ, List.setIfInBounds_toArray, List.set_cons_zero, List.set_cons_succ]); first | done | rfl))); clear hK K
        (refine Kr.tPQ 8 (v := ?_) (a' := ?_) rfl (by kernel_rfl) (fun _ _ _ h => h) (by rfl) (fun _ => (H.sub [2] rfl)) (fun wx => ?_) ?_ ?_; rotate_left 2; (focus (go_simp; first | done | rfl)); (focus ((try simp only [Act.put, List.getElem_toArray, List.getElem_cons_zero, List.getElem_cons_succ, List.setIfInBounds_toArray, List.set_cons_zero, List.set_cons_succ]); first | done | rfl)))
        refine Kr.doneL (by kernel_rfl) ?_ _
        go_wp2_with fail
        go_meet
        exact ⟨_, _, _, _, _, _, _, rfl, rfl, Lib.hid H⟩
      refine Kr.AllL.cons rfl (fun K hK => ?_) Kr.AllL.nil
      go_simp
      obtain ⟨y14, hy⟩ : ∃ y, y10.alloc (.cells #[.slice none 0 0] 24) = y := ⟨_, rfl⟩
      obtain ⟨bv, hb⟩ : ∃ b, y10.heap.size = b := ⟨_, rfl⟩
      rw [hy, hb]
      replace H := H.alloc hy hb rfl
      clear hy hb
      (refine Kr.outL hK (a' := ?_) ?_ (fun _ => (H.sub [2] rfl)) ?_; rotate_left; (focus ((try simp only [Act.put, List.getElem_toArray, List.getElem_cons_zero, List.getElem_cons_succ, List.setIfInBounds_toArray, List.set_cons_zero, List.set_cons_succ]); first | done | rfl))); clear hK K
      refine Kr.readyL (rs := [2]) (by kernel_rfl) (by simp) ?_
      refine Kr.AllL.cons rfl (fun K hK => ?_) Kr.AllL.nil
      go_simp
      go_at_call 32
      refine (mInverse_ok (H.nw 0 rfl) (H.nw 4 rfl) (by decide) m_lt (by decide) (chk_ok (H.nw 0 rfl) (H.nw 4 rfl) (nw_none _) (H.nw 4 rfl) (by decide) (by decide) m_lt m_lt)).mono ?_
      rintro e y15 ⟨z, hI, pv, nv, cv, rfl, hr, hg⟩
      rw [inv_unique hI (show IsInv 2 18446744073709551629 9223372036854775815 from ⟨by decide, by decide⟩)] at hr
      replace H := H.grow hg
      replace H := H.num hr
      clear hr hg hI
      (refine Kr.outL hK (a' := ?_) ?_ (fun _ => (H.sub [2] rfl)) ?_; rotate_left; (focus ((try simp only [Act.put, List.getElem_toArray, List.getElem_cons_zero, List.getElem_cons_succ, List.setIfInBounds_toArray, List.set_cons_zero, List.set_cons_succ]); first | done | rfl))); clear hK K
      (refine Kr.tPQ 3 (v := ?_) (a' := ?_) rfl (by kernel_rfl) (fun _ _ _ h => h) (by rfl) (fun _ => (H.sub [2] rfl)) (fun wx => ?_) ?_ ?_; rotate_left 2; (focus (go_simp; first | done | rfl)); (focus ((try simp only [Act.put, List.getElem_toArray, List.getElem_cons_zero, List.getElem_cons_succ, List.setIfInBounds_toArray, List.set_cons_zero, List.set_cons_succ]); first | done | rfl)))
      (refine Kr.tPQ 4 (v := ?_) (a' := ?_) rfl (by kernel_rfl) (fun _ _ _ h => h) (by rfl) (fun _ => (H.sub [2] rfl)) (fun wx => ?_) ?_ ?_; rotate_left 2; (focus (go_simp; first | done | rfl)); (focus ((try simp only [Act.put, List.getElem_toArray, List.getElem_cons_zero, List.getElem_cons_succ, List.setIfInBounds_toArray, List.set_cons_zero, List.set_cons_succ]); first | done | rfl)))
      (refine Kr.tPQ 5 (v := ?_) (a' := ?_) rfl (by kernel_rfl) (fun _ _ _ h => h) (by rfl) (fun _ => (H.sub [2] rfl)) (fun wx => ?_) ?_ ?_; rotate_left 2; (focus (go_simp; first | done | rfl)); (focus ((try simp only [Act.put, List.getElem_toArray, List.getElem_cons_zero, List.getElem_cons_succ, List.setIfInBounds_toArray, List.set_cons_zero, List.set_cons_succ]); first | done | rfl)))
      refine Kr.readyL (rs := [7]) (by kernel_rfl) (by simp) ?_
      refine Kr.AllL.cons rfl (fun K hK => ?_) Kr.AllL.nil
      have hk := H.c
      simp only [Kr.Cells] at hk
      go_simp
      clear hk
      obtain ⟨y16, hy⟩ : ∃ y, y15.setCell ⟨bv, 0, none⟩ (.slice pv nv cv) = y := ⟨_, rfl⟩
      rw [hy]
      replace H := H.store 0 hy rfl rfl
      dsimp only [List.set] at H
      clear hy
      (refine Kr.outL hK (a' := ?_) ?_ (fun _ => (H.sub [2] rfl)) ?_; rotate_left; (focus ((try simp only [Act.put, List.getElem_toArray, List.getElem_cons_zero, List.getElem_cons_succ, List.setIfInBounds_toArray, List.set_cons_zero, List.set_cons_succ]); first | done | rfl))); clear hK K
      (refine Kr.tPQ 8 (v := ?_) (a' := ?_) rfl (by kernel_rfl) (fun _ _ _ h => h) (by rfl) (fun _ => (H.sub [2] rfl)) (fun wx => ?_) ?_ ?_; rotate_left 2; (focus (go_simp; first | done | rfl)); (focus ((try simp only [Act.put, List.getElem_toArray, List.getElem_cons_zero, List.getElem_cons_succ, List.setIfInBounds_toArray, List.set_cons_zero, List.set_cons_succ]); first | done | rfl)))
      refine Kr.doneL (by kernel_rfl) ?_ _
      go_wp2_with fail
      go_meet
      exact ⟨_, _, _, _, _, _, _, rfl, rfl, Lib.hid H⟩
    refine Kr.AllL.cons rfl (fun K hK => ?_) Kr.AllL.nil
    go_simp
    obtain ⟨y17, hy⟩ : ∃ y, d9.alloc (.cells #[.slice none 0 0] 24) = y := ⟨_, rfl⟩
    obtain ⟨bv, hb⟩ : ∃ b, d9.heap.size = b := ⟨_, rfl⟩
    rw [hy, hb]
    replace H := H.alloc hy hb rfl
    clear hy hb
    (refine Kr.outL hK (a' := ?_) ?_ (fun _ => (H.sub [2] rfl)) ?_; rotate_left; (focus ((try simp only [Act.put, List.getElem_toArray, List.getElem_cons_zero, List.getElem_cons_succ, List.setIfInBounds_toArray, List.set_cons_zero, List.set_cons_succ]); first | done | rfl))); clear hK K
    refine Kr.readyL (rs := [0]) (by kernel_rfl) (by simp) ?_
    refine Kr.AllL.cons rfl (fun K hK => ?_) Kr.AllL.nil
    go_simp
    go_at_call 38
    refine (of3_v 2 (by decide) _).mono ?_
    rintro e y18 ⟨p18, n18, c18, rfl, hr, hg⟩
    replace H := H.grow hg
    replace H := H.num hr.toNw
    clear hr hg
    (refine Kr.outL hK (a' := ?_) ?_ (fun _ => (H.sub [2] rfl)) ?_; rotate_left; (focus ((try simp only [Act.put, List.getElem_toArray, List.getElem_cons_zero, List.getElem_cons_succ, List.setIfInBounds_toArray, List.set_cons_zero, List.set_cons_succ]); first | done | rfl))); clear hK K
    refine Kr.readyL (rs := [2]) (by kernel_rfl) (by simp) ?_
    refine Kr.AllL.cons rfl (fun K hK => ?_) Kr.AllL.nil
    go_simp
    go_at_call 32
    refine (mInverse_ok (H.nw 0 rfl) (H.nw 4 rfl) (by decide) m_lt (by decide) (chk_ok (H.nw 0 rfl) (H.nw 4 rfl) (nw_none _) (H.nw 4 rfl) (by decide) (by decide) m_lt m_lt)).mono ?_
    rintro e y19 ⟨z, hI, pv, nv, cv, rfl, hr, hg⟩
    rw [inv_unique hI (show IsInv 2 18446744073709551629 9223372036854775815 from ⟨by decide, by decide⟩)] at hr
    replace H := H.grow hg
    replace H := H.num hr
    clear hr hg hI
    (refine Kr.outL hK (a' := ?_) ?_ (fun _ => (H.sub [2] rfl)) ?_; rotate_left; (focus ((try simp only [Act.put, List.getElem_toArray, List.getElem_cons_zero, List.getElem_cons_succ, List.setIfInBounds_toArray, List.set_cons_zero, List.set_cons_succ]); first | done | rfl))); clear hK K
    (refine Kr.tPQ 3 (v := ?_) (a' := ?_) rfl (by kernel_rfl) (fun _ _ _ h => h) (by rfl) (fun _ => (H.sub [2] rfl)) (fun wx => ?_) ?_ ?_; rotate_left 2; (focus (go_simp; first | done | rfl)); (focus ((try simp only [Act.put, List.getElem_toArray, List.getElem_cons_zero, List.getElem_cons_succ, List.setIfInBounds_toArray, List.set_cons_zero, List.set_cons_succ]); first | done | rfl)))
    (refine Kr.tPQ 4 (v := ?_) (a' := ?_) rfl (by kernel_rfl) (fun _ _ _ h => h) (by rfl) (fun _ => (H.sub [2] rfl)) (fun wx => ?_) ?_ ?_; rotate_left 2; (focus (go_simp; first | done | rfl)); (focus ((try simp only [Act.put, List.getElem_toArray, List.getElem_cons_zero, List.getElem_cons_succ, List.setIfInBounds_toArray, List.set_cons_zero, List.set_cons_succ]); first | done | rfl)))
    (refine Kr.tPQ 5 (v := ?_) (a' := ?_) rfl (by kernel_rfl) (fun _ _ _ h => h) (by rfl) (fun _ => (H.sub [2] rfl)) (fun wx => ?_) ?_ ?_; rotate_left 2; (focus (go_simp; first | done | rfl)); (focus ((try simp only [Act.put, List.getElem_toArray, List.getElem_cons_zero, List.getElem_cons_succ, List.setIfInBounds_toArray, List.set_cons_zero, List.set_cons_succ]); first | done | rfl)))
    refine Kr.readyL (rs := [7]) (by kernel_rfl) (by simp) ?_
    refine Kr.AllL.cons rfl (fun K hK => ?_) Kr.AllL.nil
    have hk := H.c
    simp only [Kr.Cells] at hk
    go_simp
    clear hk
    obtain ⟨y20, hy⟩ : ∃ y, y19.setCell ⟨bv, 0, none⟩ (.slice pv nv cv) = y := ⟨_, rfl⟩
    rw [hy]
    replace H := H.store 0 hy rfl rfl
    dsimp only [List.set] at H
    clear hy
    (refine Kr.outL hK (a' := ?_) ?_ (fun _ => (H.sub [2] rfl)) ?_; rotate_left; (focus ((try simp only [Act.put, List.getElem_toArray, List.getElem_cons_zero, List.getElem_cons_succ, List.setIfInBounds_toArray, List.set_cons_zero, List.set_cons_succ]); first | done | rfl))); clear hK K
    (refine Kr.tPQ 8 (v := ?_) (a' := ?_) rfl (by kernel_rfl) (fun _ _ _ h => h) (by rfl) (fun _ => (H.sub [2] rfl)) (fun wx => ?_) ?_ ?_; rotate_left 2; (focus (go_simp; first | done | rfl)); (focus ((try simp only [Act.put, List.getElem_toArray, List.getElem_cons_zero, List.getElem_cons_succ, List.setIfInBounds_toArray, List.set_cons_zero, List.set_cons_succ]); first | done | rfl)))
    refine Kr.doneL (by kernel_rfl) ?_ _
    go_wp2_with fail
    go_meet
    exact ⟨_, _, _, _, _, _, _, rfl, rfl, Lib.hid H⟩
  case rest =>
    clear H
    obtain ⟨bv, pv, nv, cv, p18, n18, c18, rfl, rfl, HH⟩ := hcut
    have H := HH.out
    clear HH
    go_upto_region 4 with fail
    refine Kr.seqStartW ?_
    refine Kr.seqR (by rfl) (fun K hK => ?_)
    go_simp
    go_at_call 38
    refine (of3_v 2 (by decide) _).mono ?_
    rintro e y21 ⟨p21, n21, c21, rfl, hr, hg⟩
    replace H := H.grow hg
    replace H := H.num hr.toNw
    clear hr hg
    (refine Kr.outS hK (a' := ?_) ?_ ?_; rotate_left; (focus ((try simp only [Act.put, List.getElem_toArray, List.getElem_cons_zero, List.getElem_cons_succ, List.setIfInBounds_toArray, List.set_cons_zero, List.set_cons_succ]); first | done | rfl))); clear hK K
    refine Kr.seqR (by rfl) (fun K hK => ?_)
    go_simp
    go_at_call 38
    refine (of3_v 3 (by decide) _).mono ?_
    rintro e y22 ⟨p22, n22, c22, rfl, hr, hg⟩
    replace H := H.grow hg
    replace H := H.num hr.toNw
    clear hr hg
    (refine Kr.outS hK (a' := ?_) ?_ ?_; rotate_left; (focus ((try simp only [Act.put, List.getElem_toArray, List.getElem_cons_zero, List.getElem_cons_succ, List.setIfInBounds_toArray, List.set_cons_zero, List.set_cons_succ]); first | done | rfl))); clear hK K
    refine Kr.seqR (by rfl) (fun K hK => ?_)
    go_simp
    go_at_call 38
    refine (of3_v 3 (by decide) _).mono ?_
    rintro e y23 ⟨p23, n23, c23, rfl, hr, hg⟩
    replace H := H.grow hg
    replace H := H.num hr.toNw
    clear hr hg
    (refine Kr.outS hK (a' := ?_) ?_ ?_; rotate_left; (focus ((try simp only [Act.put, List.getElem_toArray, List.getElem_cons_zero, List.getElem_cons_succ, List.setIfInBounds_toArray, List.set_cons_zero, List.set_cons_succ]); first | done | rfl))); clear hK K
    refine Kr.seqR (by rfl) (fun K hK => ?_)
    go_simp
    go_at_call 38
    refine (of3_v 5 (by decide) _).mono ?_
    rintro e y24 ⟨p24, n24, c24, rfl, hr, hg⟩
    replace H := H.grow hg
    replace H := H.num hr.toNw
    clear hr hg
    (refine Kr.outS hK (a' := ?_) ?_ ?_; rotate_left; (focus ((try simp only [Act.put, List.getElem_toArray, List.getElem_cons_zero, List.getElem_cons_succ, List.setIfInBounds_toArray, List.set_cons_zero, List.set_cons_succ]); first | done | rfl))); clear hK K
    refine Kr.seqR (by rfl) (fun K hK => ?_)
    go_simp
    go_at_call 35
    refine (mCrt_ok (H.nw 3 rfl) (H.nw 2 rfl) (H.nw 1 rfl) (H.nw 0 rfl) (by decide) (by decide) (s_lt (by decide)) (s_lt (by decide)) (by decide) (s_lt (by decide))).mono ?_
    rintro e y25 ⟨z, hI, pc, nc, cc, rfl, hr, hg⟩
    rw [inv_unique hI (show IsInv (3 % 5) 5 2 from ⟨by decide, by decide⟩)] at hr
    rw [show 2 + 3 * ((3 + 5 - 2 % 5) % 5 * 2 % 5) = 8 from by decide] at hr
    replace H := H.grow hg
    replace H := H.num hr
    clear hr hg hI
    (refine Kr.outS hK (a' := ?_) ?_ ?_; rotate_left; (focus ((try simp only [Act.put, List.getElem_toArray, List.getElem_cons_zero, List.getElem_cons_succ, List.setIfInBounds_toArray, List.set_cons_zero, List.set_cons_succ]); first | done | rfl))); clear hK K
    iterate 3 (refine Kr.seqQ (v := ?_) (a' := ?_) (by rfl) ?_ ?_ ?_; rotate_left 2; (focus (go_simp; first | done | rfl)); (focus ((try simp only [Act.put, List.getElem_toArray, List.getElem_cons_zero, List.getElem_cons_succ, List.setIfInBounds_toArray, List.set_cons_zero, List.set_cons_succ]); first | done | rfl)))
    refine Kr.seqR (by rfl) (fun K hK => ?_)
    go_simp
    obtain ⟨y26, hy⟩ : ∃ y, y25.alloc (.cells #[.slice none 0 0] 24) = y := ⟨_, rfl⟩
    obtain ⟨bc, hb⟩ : ∃ b, y25.heap.size = b := ⟨_, rfl⟩
    rw [hy, hb]
    replace H := H.alloc hy hb rfl
    clear hy hb
    (refine Kr.outS hK (a' := ?_) ?_ ?_; rotate_left; (focus ((try simp only [Act.put, List.getElem_toArray, List.getElem_cons_zero, List.getElem_cons_succ, List.setIfInBounds_toArray, List.set_cons_zero, List.set_cons_succ]); first | done | rfl))); clear hK K
    have hk := H.c
    simp only [Kr.Cells] at hk
    refine Kr.seqR (by rfl) (fun K hK => ?_)
    go_simp
    clear hk
    obtain ⟨y27, hy⟩ : ∃ y, y26.setCell ⟨bc, 0, none⟩ (.slice pc nc cc) = y := ⟨_, rfl⟩
    rw [hy]
    replace H := H.store 0 hy rfl rfl
    dsimp only [List.set] at H
    clear hy
    (refine Kr.outS hK (a' := ?_) ?_ ?_; rotate_left; (focus ((try simp only [Act.put, List.getElem_toArray, List.getElem_cons_zero, List.getElem_cons_succ, List.setIfInBounds_toArray, List.set_cons_zero, List.set_cons_succ]); first | done | rfl))); clear hK K
    (refine Kr.seqQ (v := ?_) (a' := ?_) (by rfl) ?_ ?_ ?_; rotate_left 2; (focus (go_simp; first | done | rfl)); (focus ((try simp only [Act.put, List.getElem_toArray, List.getElem_cons_zero, List.getElem_cons_succ, List.setIfInBounds_toArray, List.set_cons_zero, List.set_cons_succ]); first | done | rfl)))
    refine Kr.seqDoneW ?_
    go_upto_region 5 with fail
    refine Kr.seqStartW ?_
    iterate 4 (refine Kr.seqQ (v := ?_) (a' := ?_) (by rfl) ?_ ?_ ?_; rotate_left 2; (focus (go_simp; first | done | rfl)); (focus ((try simp only [Act.put, List.getElem_toArray, List.getElem_cons_zero, List.getElem_cons_succ, List.setIfInBounds_toArray, List.set_cons_zero, List.set_cons_succ]); first | done | rfl)))
    have hk := H.c
    simp only [Kr.Cells] at hk
    (refine Kr.seqQ (v := ?_) (a' := ?_) (by rfl) ?_ ?_ ?_; rotate_left 2; (focus (go_simp; first | done | rfl)); (focus ((try simp only [Act.put, List.getElem_toArray, List.getElem_cons_zero, List.getElem_cons_succ, List.setIfInBounds_toArray, List.set_cons_zero, List.set_cons_succ]); first | done | rfl)))
    refine Kr.seqR (by rfl) (fun K hK => ?_)
    go_simp
    clear hk
    obtain ⟨y28, hy⟩ : ∃ y, y27.alloc (.cells #[.int .u32 0, .int .u32 0, .int .u32 1] 50) = y := ⟨_, rfl⟩
    obtain ⟨by28, hb⟩ : ∃ b, y27.heap.size = b := ⟨_, rfl⟩
    rw [hy, hb]
    have hr : Nw y28 (some ⟨by28, 0, none⟩) 3 3 (digs 18446744073709551616) := lit_mk ex_s hy hb
    have hg : Gr y27 y28 := hy ▸ (Gr.refl _).alloc _
    replace H := H.grow hg
    replace H := H.num hr
    clear hr hg hy hb
    (refine Kr.outS hK (a' := ?_) ?_ ?_; rotate_left; (focus ((try simp only [Act.put, List.getElem_toArray, List.getElem_cons_zero, List.getElem_cons_succ, List.setIfInBounds_toArray, List.set_cons_zero, List.set_cons_succ]); first | done | rfl))); clear hK K
    refine Kr.seqR (by rfl) (fun K hK => ?_)
    go_simp
    go_at_call 46
    refine (Equal_v (H.nw 8 rfl) (H.nw 0 rfl)).mono ?_
    rintro e y29 ⟨rfl, hg⟩
    replace H := H.grow hg
    clear hg
    (refine Kr.outS hK (a' := ?_) ?_ ?_; rotate_left; (focus ((try simp only [Act.put, List.getElem_toArray, List.getElem_cons_zero, List.getElem_cons_succ, List.setIfInBounds_toArray, List.set_cons_zero, List.set_cons_succ]); first | done | rfl))); clear hK K
    iterate 7 (refine Kr.seqQ (v := ?_) (a' := ?_) (by rfl) ?_ ?_ ?_; rotate_left 2; (focus (go_simp; first | done | rfl)); (focus ((try simp only [Act.put, List.getElem_toArray, List.getElem_cons_zero, List.getElem_cons_succ, List.setIfInBounds_toArray, List.set_cons_zero, List.set_cons_succ]); first | done | rfl)))
    have hk := H.c
    simp only [Kr.Cells] at hk
    (refine Kr.seqQ (v := ?_) (a' := ?_) (by rfl) ?_ ?_ ?_; rotate_left 2; (focus (go_simp; first | done | rfl)); (focus ((try simp only [Act.put, List.getElem_toArray, List.getElem_cons_zero, List.getElem_cons_succ, List.setIfInBounds_toArray, List.set_cons_zero, List.set_cons_succ]); first | done | rfl)))
    refine Kr.seqR (by rfl) (fun K hK => ?_)
    go_simp
    clear hk
    obtain ⟨y30, hy⟩ : ∃ y, y29.alloc (.cells #[.int .u32 7, .int .u32 2147483648] 50) = y := ⟨_, rfl⟩
    obtain ⟨by30, hb⟩ : ∃ b, y29.heap.size = b := ⟨_, rfl⟩
    rw [hy, hb]
    have hr : Nw y30 (some ⟨by30, 0, none⟩) 2 2 (digs 9223372036854775815) := lit_mk ex_v hy hb
    have hg : Gr y29 y30 := hy ▸ (Gr.refl _).alloc _
    replace H := H.grow hg
    replace H := H.num hr
    clear hr hg hy hb
    (refine Kr.outS hK (a' := ?_) ?_ ?_; rotate_left; (focus ((try simp only [Act.put, List.getElem_toArray, List.getElem_cons_zero, List.getElem_cons_succ, List.setIfInBounds_toArray, List.set_cons_zero, List.set_cons_succ]); first | done | rfl))); clear hK K
    refine Kr.seqR (by rfl) (fun K hK => ?_)
    go_simp
    go_at_call 46
    refine (Equal_v (H.nw 7 rfl) (H.nw 0 rfl)).mono ?_
    rintro e y31 ⟨rfl, hg⟩
    replace H := H.grow hg
    clear hg
    (refine Kr.outS hK (a' := ?_) ?_ ?_; rotate_left; (focus ((try simp only [Act.put, List.getElem_toArray, List.getElem_cons_zero, List.getElem_cons_succ, List.setIfInBounds_toArray, List.set_cons_zero, List.set_cons_succ]); first | done | rfl))); clear hK K
    iterate 7 (refine Kr.seqQ (v := ?_) (a' := ?_) (by rfl) ?_ ?_ ?_; rotate_left 2; (focus (go_simp; first | done | rfl)); (focus ((try simp only [Act.put, List.getElem_toArray, List.getElem_cons_zero, List.getElem_cons_succ, List.setIfInBounds_toArray, List.set_cons_zero, List.set_cons_succ]); first | done | rfl)))
    have hk := H.c
    simp only [Kr.Cells] at hk
    (refine Kr.seqQ (v := ?_) (a' := ?_) (by rfl) ?_ ?_ ?_; rotate_left 2; (focus (go_simp; first | done | rfl)); (focus ((try simp only [Act.put, List.getElem_toArray, List.getElem_cons_zero, List.getElem_cons_succ, List.setIfInBounds_toArray, List.set_cons_zero, List.set_cons_succ]); first | done | rfl)))
    refine Kr.seqR (by rfl) (fun K hK => ?_)
    go_simp
    clear hk
    obtain ⟨y32, hy⟩ : ∃ y, y31.alloc (.cells #[.int .u32 8] 50) = y := ⟨_, rfl⟩
    obtain ⟨by32, hb⟩ : ∃ b, y31.heap.size = b := ⟨_, rfl⟩
    rw [hy, hb]
    have hr : Nw y32 (some ⟨by32, 0, none⟩) 1 1 (digs 8) := lit_mk ex_8 hy hb
    have hg : Gr y31 y32 := hy ▸ (Gr.refl _).alloc _
    replace H := H.grow hg
    replace H := H.num hr
    clear hr hg hy hb
    (refine Kr.outS hK (a' := ?_) ?_ ?_; rotate_left; (focus ((try simp only [Act.put, List.getElem_toArray, List.getElem_cons_zero, List.getElem_cons_succ, List.setIfInBounds_toArray, List.set_cons_zero, List.set_cons_succ]); first | done | rfl))); clear hK K
    refine Kr.seqR (by rfl) (fun K hK => ?_)
    go_simp
    go_at_call 46
    refine (Equal_v (H.nw 3 rfl) (H.nw 0 rfl)).mono ?_
    rintro e y33 ⟨rfl, hg⟩
    replace H := H.grow hg
    clear hg
    (refine Kr.outS hK (a' := ?_) ?_ ?_; rotate_left; (focus ((try simp only [Act.put, List.getElem_toArray, List.getElem_cons_zero, List.getElem_cons_succ, List.setIfInBounds_toArray, List.set_cons_zero, List.set_cons_succ]); first | done | rfl))); clear hK K
    iterate 2 (refine Kr.seqQ (v := ?_) (a' := ?_) (by rfl) ?_ ?_ ?_; rotate_left 2; (focus (go_simp; first | done | rfl)); (focus ((try simp only [Act.put, List.getElem_toArray, List.getElem_cons_zero, List.getElem_cons_succ, List.setIfInBounds_toArray, List.set_cons_zero, List.set_cons_succ]); first | done | rfl)))
    refine Kr.seqDoneW ?_
    go_wp2
    go_ret
    exact ⟨rfl, H.g⟩
end Go.Proofs.Ytlciocebbckdcaa.Mr


/- More on first: a number that is a residue; no numbers at all. -/
namespace Go.Proofs.Ytlciocebbckdcaa.Mr
open Go.RowKit Go.Shelf Go.Proofs.Ytlciocebbckdcaa.Nm Go.Proofs.Ytlciocebbckdcaa.Ne Go.Proofs.Ytlciocebbckdcaa.Nf Go.Proofs.Ytlciocebbckdcaa.Nk Go.Proofs.Ytlciocebbckdcaa.Nv Go.Proofs.Ytlciocebbckdcaa.Nr2 Go.Proofs.Ytlciocebbckdcaa.Mo Go.Proofs.Ytlciocebbckdcaa.Kr

theorem fst1_ok {w : World} {pa : Option Addr} {na ca : Nat} {pm : Option Addr} {nm cm x m : Nat} (ha : Nw w pa na ca (digs x)) (hm : Nw w pm nm cm (digs m)) (hx : x < m) (vm : m < pw 32) :
    Fst w (.agg #[.slice pm nm cm]) [(pa, na, ca)] 0 :=
  (fst_val (xs := [(pa, na, ca)]) (ys := [x]) hm (Nat.lt_of_le_of_lt (Nat.zero_le _) hx) vm ⟨ha, trivial⟩ (by simp) (by simpa using lt64 (Nat.lt_trans hx vm))).1 (by simpa using hx)
set_option maxHeartbeats 2000000 in
theorem ix_nil (f : Value) (w : World) :
    Calls Try.prog 109 #[.slice none 0 0, f] w fun e w' => e = .returned (.int .i64 (-1)) ∧ Gr w w' := by
  go_enter Try.func109, Try.ntmps109
  go_wp2
  go_loopw [8] (fun i wr => i = .int .i64 0 ∧ Hid (Gr w wr)) (fun _ _ => 0)
  case atStart => exact ⟨rfl, Gr.refl w⟩
  case round =>
    obtain ⟨rfl, HG⟩ := hrel
    go_wp2
    go_ret
    exact ⟨rfl, HG.out⟩
set_option maxHeartbeats 2000000 in
theorem cf_nil (f : Value) (w : World) :
    Calls Try.prog 68 #[.slice none 0 0, f] w fun e w' => e = .returned (.bool false) ∧ Gr w w' := by
  go_enter Try.func68, Try.ntmps68
  go_wp2_with fail
  refine (ix_nil _ _).mono ?_
  rintro e w1 ⟨rfl, hg⟩
  have HG := Lib.hid hg
  clear hg
  go_wp2
  go_ret
  exact ⟨rfl, HG.out⟩
set_option maxHeartbeats 2000000 in
theorem first_nil {p : Option Addr} {n c : Nat} {l : List Nat} {w : World} (hl : Nw w p n c l) :
    Calls Try.prog 22 #[.agg #[.slice p n c], .slice none 0 0] w fun e w' => e = .returned (.int .i64 (if im l then 0 else 1)) ∧ Gr w w' := by
  cases hi : im l with
  | false => exact first_mod _ hl hi
  | true =>
    have G0 := Lib.hid ((Gr.refl w).alloc (.cells #[.slice p n c] 24))
    have hk : (w.alloc (.cells #[.slice p n c] 24)).cell? ⟨w.heap.size, 0, none⟩ = some (.slice p n c) := by simp [go_sem]
    have HL := Lib.hid hl
    have HI := Lib.hid hi
    clear hl hi
    go_enter Try.func22, Try.ntmps22
    go_wp2_with fail
    refine (modulus3_any (HL.out.grow G0.out)).mono ?_
    rintro e w1 ⟨rfl, hg⟩
    rw [HI.out]
    replace hk := hg.cell hk
    have G1 := Lib.hid (G0.out.trans hg)
    clear hg
    go_wp2_with fail
    refine (cf_nil _ _).mono ?_
    rintro e w2 ⟨rfl, hg⟩
    replace hk := hg.cell hk
    have G2 := Lib.hid (G1.out.trans hg)
    clear hg
    go_wp2_with fail
    refine (cf_nil _ _).mono ?_
    rintro e w3 ⟨rfl, hg⟩
    have G3 := Lib.hid (G2.out.trans hg)
    clear hg
    go_wp2
    go_ret
    exact ⟨rfl, G3.out⟩
end Go.Proofs.Ytlciocebbckdcaa.Mr


/- The walk of a region by the set of operations that have come up. -/
namespace Go.Proofs.Ytlciocebbckdcaa.Kr
open Go
variable {P : Program} {ops : Array Oper} {Q : Exit → Act → World → Prop} {md : Region.Mode} {S : World → Prop} {st : List Nat}
theorem relistL {fuel : Nat} {l1 l2 : Array Bool} {a : Act} {w : World} (h : l1 = l2) (k : wpAnyL P md ops Q S st fuel l2 a w) : wpAnyL P md ops Q S st fuel l1 a w := by
  subst h
  exact k
/-- What a state is behind a step: rules for simp. -/
theorem PT : (∀ (a : Act) (t : Tmp) (v : Value), a.put (some t) v = { a with tmps := a.tmps.setIfInBounds t v }) ∧ (∀ (a : Act) (v : Value), a.put none v = a) ∧
    (∀ (l : List Value) (i : Nat) (v : Value), l.toArray.setIfInBounds i v = (l.set i v).toArray) ∧ (∀ (x v : Value) (l : List Value), (x :: l).set 0 v = v :: l) ∧ (∀ (x v : Value) (l : List Value) (i : Nat), (x :: l).set (i + 1) v = x :: l.set i v) ∧
    (∀ (l : List Oper) (i : Nat) (h : i < l.toArray.size), l.toArray[i] = l[i]'(by simpa using h)) ∧ (∀ (x : Oper) (l : List Oper) (h : 0 < (x :: l).length), (x :: l)[0] = x) ∧ (∀ (x : Oper) (l : List Oper) (i : Nat) (h : i + 1 < (x :: l).length), (x :: l)[i + 1] = l[i]'(Nat.lt_of_succ_lt_succ h)) :=
  ⟨fun _ _ _ => rfl, fun _ _ => rfl, fun _ _ _ => List.setIfInBounds_toArray _ _ _, fun _ _ _ => rfl, fun _ _ _ _ => rfl, fun _ _ _ => rfl, fun _ _ _ => rfl, fun _ _ _ _ => rfl⟩
/-- An operation told by the run of what it does. -/
theorem valOf {P : Program} {ev : Operand → Value} {o : Oper} {v : Value} {w w' : World} {m : Sem Value} (he : execOp ev o = m >>= fun x => pure (Next.value x)) (hm : m.run P w = .ok v w') : (execOp ev o).run P w = .ok (.value v) w' := by
  rw [he, Sem.run_bind, hm]
  simp [Result.andThen]
theorem remU {w : World} {x d q : Nat} (h0 : 0 < d) (hq : x % d = q) : (binOp .rem 42 (.int .u64 (x : Int)) (.int .u64 (d : Int))).run Try.prog w = .ok (.int .u64 (q : Int)) w := by
  have hd0 : ¬ d = 0 := by omega
  have h1 : (x : Int).tmod (d : Int) = (q : Int) := by
    rw [Int.tmod_eq_emod_of_nonneg (by omega), ← Int.natCast_emod, hq]
  clear hq
  go_simp
theorem convUI {w : World} {x : Nat} (hx : x < 9223372036854775808) : (convert 42 3 (.int .u64 (x : Int))).run Try.prog w = .ok (.int .i64 (x : Int)) w := by
  have : IntKind.i64.wrap (x : Int) = (x : Int) := IntWalk.i64_in _ (by omega)
  clear hx
  go_simp
theorem convIU {w : World} {x : Nat} (hx : x < 9223372036854775808) : (convert 3 42 (.int .i64 (x : Int))).run Try.prog w = .ok (.int .u64 (x : Int)) w := by
  have : IntKind.u64.wrap (x : Int) = (x : Int) := by rw [IntKind.wrap_u64]; omega
  clear hx
  go_simp
theorem geqU {w : World} {x : Nat} (c : Nat) {b : Bool} (h : decide (c ≤ x) = b) : (binOp .geq 42 (.int .u64 (x : Int)) (.int .u64 (c : Int))).run Try.prog w = .ok (.bool b) w := by
  go_simp
theorem lssU {w : World} {x : Nat} (c : Nat) {b : Bool} (h : decide (x < c) = b) : (binOp .lss 42 (.int .u64 (x : Int)) (.int .u64 (c : Int))).run Try.prog w = .ok (.bool b) w := by
  go_simp
theorem neqE {w : World} {a : Int} (h : a ≠ 0) : (binOp .neq 27 (.int .i64 a) (.int .i64 0)).run Try.prog w = .ok (.bool true) w := by
  go_simp
end Go.Proofs.Ytlciocebbckdcaa.Kr


/- Plain numbers for the laws on remainders; slices.Equal by value. -/
namespace Go.Proofs.Ytlciocebbckdcaa.Mr
open Go.RowKit Go.Shelf Go.Proofs.Ytlciocebbckdcaa.Nm Go.Proofs.Ytlciocebbckdcaa.Ne Go.Proofs.Ytlciocebbckdcaa.Nf Go.Proofs.Ytlciocebbckdcaa.Nk Go.Proofs.Ytlciocebbckdcaa.Nv Go.Proofs.Ytlciocebbckdcaa.Nr2 Go.Proofs.Ytlciocebbckdcaa.Mo Go.Proofs.Ytlciocebbckdcaa.Kr

theorem equal_d {p q : Option Addr} {n m c d x y : Nat} {w : World} (hl : Nw w p n c (digs x)) (hk : Nw w q m d (digs y)) :
    Calls Try.prog 46 #[.slice p n c, .slice q m d] w fun e w' => e = .returned (.bool (decide (x = y))) ∧ Gr w w' := by
  by_cases h : n = m
  · subst h
    refine (equal_any p q (digs x) (digs y) n c d hl.len hk.len hl.small w hl.rd hk.rd).mono ?_
    rintro e w' h
    rw [show decide (x = y) = decide (digs x = digs y) from decide_eq_decide.2 digs_inj.symm]
    obtain ⟨h1, j, rfl⟩ := h
    exact ⟨h1, (Gr.refl w).drewN j⟩
  · rw [decide_eq_false (fun e => h (by rw [← hl.len, ← hk.len, e]))]
    refine (equal_len p q n m c d h w).mono ?_
    rintro e w' ⟨h1, j, rfl⟩
    exact ⟨h1, (Gr.refl w).drewN j⟩
theorem sub_dvd {u v m : Nat} (h : v ≤ u) (e : u % m = v % m) : m ∣ u - v := by
  have h1 := Nat.div_add_mod u m
  have h2 := Nat.div_add_mod v m
  refine ⟨u / m - v / m, ?_⟩
  have h3 : v / m ≤ u / m := Nat.div_le_div_right h
  rw [Nat.mul_sub]
  have := Nat.mul_le_mul_left m h3
  omega
theorem crt_mod {p q a b z : Nat} (hq : 0 < q) (hb : b < q) (hz : IsInv (p % q) q z) : (a + p * ((b + q - a % q) % q * z % q)) % q = b := by
  obtain ⟨_, h⟩ := hz
  obtain ⟨t, ht⟩ : ∃ t, b + q - a % q = t := ⟨_, rfl⟩
  have h0 : p * z % q = 1 % q := by rw [← h, Nat.mod_mul_mod]
  have h1 : (p * (t % q * z % q)) % q = t % q := by
    rw [Nat.mul_mod_mod, Nat.mul_left_comm, Nat.mod_mul_mod, Nat.mul_mod, h0, Nat.mul_mod_mod, Nat.mod_mul_mod, Nat.mul_one]
  rw [ht, Nat.add_mod, h1, ← Nat.mod_add_mod, Nat.mod_mod, Nat.add_mod_mod, ← ht, show a % q + (b + q - a % q) = b + q by have := Nat.mod_lt a hq; omega, Nat.add_mod_right, Nat.mod_eq_of_lt hb]
theorem crt_eq {p q n z : Nat} (hp : 0 < p) (hq : 0 < q) (hg : Nat.gcd p q = 1) (hz : IsInv (p % q) q z) : n % p + p * ((n % q + q - n % p % q) % q * z % q) = n % (p * q) := by
  obtain ⟨X, hX⟩ : ∃ X, n % p + p * ((n % q + q - n % p % q) % q * z % q) = X := ⟨_, rfl⟩
  have x1 : X % p = n % p := by rw [← hX, Nat.add_mul_mod_self_left, Nat.mod_mod]
  have x2 : X % q = n % q := by rw [← hX]; exact crt_mod hq (Nat.mod_lt _ hq) hz
  have xl : X < p * q := by rw [← hX]; exact crt_lt (Nat.mod_lt _ hp) (Nat.mod_lt _ hq)
  have y1 : n % (p * q) % p = n % p := Nat.mod_mul_right_mod n p q
  have y2 : n % (p * q) % q = n % q := Nat.mod_mul_left_mod n p q
  have yl : n % (p * q) < p * q := Nat.mod_lt _ (Nat.mul_pos hp hq)
  rw [hX]
  obtain ⟨Y, hY⟩ : ∃ Y, n % (p * q) = Y := ⟨_, rfl⟩
  rw [hY] at y1 y2 yl ⊢
  have key : ∀ {u v : Nat}, u < p * q → v ≤ u → u % p = v % p → u % q = v % q → u = v := by
    intro u v hu hvu h1 h2
    have d1 : p ∣ u - v := sub_dvd hvu h1
    have d2 : q ∣ u - v := sub_dvd hvu h2
    have d3 : p * q ∣ u - v := Nat.Coprime.mul_dvd_of_dvd_of_dvd hg d1 d2
    have := Nat.eq_zero_of_dvd_of_lt d3 (by omega)
    omega
  rcases Nat.le_total X Y with h | h
  · exact (key yl h (by rw [x1, y1]) (by rw [x2, y2])).symm
  · exact key xl h (by rw [x1, y1]) (by rw [x2, y2])
end Go.Proofs.Ytlciocebbckdcaa.Mr


/- A block of two cells among the cells of a walk. -/
namespace Go.Proofs.Ytlciocebbckdcaa.Kr
open Go Go.RowKit Go.Proofs.Ytlciocebbckdcaa.Nm Go.Proofs.Ytlciocebbckdcaa.Ne Go.Proofs.Ytlciocebbckdcaa.Nf Go.Proofs.Ytlciocebbckdcaa.Nk Go.Proofs.Ytlciocebbckdcaa.Nr2
variable {w W y : World} {cs : List (Nat × Nat × Value)} {fs : List (World → Prop)}
theorem Sta.alloc2 (H : Sta w W cs fs) {v0 v1 : Value} {T b : Nat} (hy : W.alloc (.cells #[v0, v1] T) = y) (hb : W.heap.size = b) (h0 : noData v0 = true) (h1 : noData v1 = true) : Sta w y ((b, 0, v0) :: (b, 1, v1) :: cs) fs := by
  have hg : Gr W y := by rw [← hy]; exact (Gr.refl _).alloc _
  have hlt := cells_lt H.c
  refine ⟨H.g.trans hg, ⟨⟨by rw [← hy, ← hb]; simp [go_sem], by rw [← hy, ← hb]; simp [go_sem]⟩, ⟨by rw [← hy, ← hb]; simp [go_sem], by rw [← hy, ← hb]; simp [go_sem]⟩, H.c.grow hg⟩, ?_, List.Pairwise.cons ?_ (List.Pairwise.cons ?_ H.ne), fun F h => (H.k F h).grow (H.f F h) hg, H.k⟩
  · intro x hx
    rcases List.mem_cons.1 hx with rfl | hx
    · exact ⟨hb ▸ H.g.le, h0⟩
    · rcases List.mem_cons.1 hx with rfl | hx
      · exact ⟨hb ▸ H.g.le, h1⟩
      · exact H.low x hx
  · intro x hx e
    rcases List.mem_cons.1 hx with rfl | hx
    · simp at e
    · have := hlt x hx
      simp only [Prod.mk.injEq] at e
      omega
  · intro x hx e
    have := hlt x hx
    simp only [Prod.mk.injEq] at e
    omega
end Go.Proofs.Ytlciocebbckdcaa.Kr
