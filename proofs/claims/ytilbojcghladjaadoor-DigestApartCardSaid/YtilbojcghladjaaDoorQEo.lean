/- The reference's Expand. -/
import Derived.Test.YtilbojcghladjaaDoorQEn
import Derived.Deep.Cut
namespace Go.Proofs.YtilbojcghladjaaDoor.Dg
open Go Go.RowKit Go.Proofs.YtilbojcghladjaaDoor.Ne Go.Proofs.YtilbojcghladjaaDoor.Kr

theorem shp_none {p : Option Addr} {c : Nat} (h : Shp p c) (e : p = none) : c = 0 := by
  rcases h with h | ⟨g, h⟩
  · exact h.2
  · rw [e] at h; cases h
theorem convU16 {w : World} {m : Nat} (h : m < 65536) : (convert 35 3 (.int .u16 (m : Int))).run Tryd.prog w = .ok (.int .i64 (m : Int)) w := by
  have e : IntKind.i64.wrap (m : Int) = (m : Int) := IntWalk.i64_in _ (by omega)
  clear h
  go_simp

set_option linter.unusedSimpArgs false in
set_option maxRecDepth 100000 in
set_option maxHeartbeats 16000000 in
theorem rExpand_v {S : List (BitVec 8)} {n : Nat} {w : World} (hl : S.length = 32) (hn : n ≤ 300) :
    Calls Tryd.prog 20 #[.agg (S.map w8).toArray, .int .i64 (n : Int)] w fun e w' => ∃ p c, e = .returned (.slice p n c) ∧ SrcB p (ex S n) w' ∧ Gr w w' := by
  have hl32 : (S.map w8).length = 32 := by rw [List.length_map]; exact hl
  have H := Ow.start w
  go_enter Tryd.func20, Tryd.ntmps20
  go_upto_region 0 with fail
  refine Kr.seqStartW ?_
  refine Kr.seqR (by rfl) (fun K hK => ?_)
  refine wp_runV rfl boxH ?_
  obtain ⟨y1, hy⟩ : ∃ y, w.alloc (.cells (S.map w8).toArray 25) = y := ⟨_, rfl⟩
  obtain ⟨ba, hb⟩ : ∃ b, w.heap.size = b := ⟨_, rfl⟩
  rw [hy, hb]
  have hg : Gr w y1 := hy ▸ (Gr.refl _).alloc _
  replace H := H.alloc hy hb
  clear hy hb hg
  (refine Kr.outS hK (a' := ?_) ?_ ?_; rotate_left; (focus ((try simp only [Kr.PT]); first | done | rfl))); clear hK K
  (refine Kr.seqQ (v := ?_) (a' := ?_) (by rfl) ?_ ?_ ?_; rotate_left 2; (focus (go_simp; first | done | rfl)); (focus ((try simp only [Kr.PT]); first | done | rfl)))
  refine Kr.seqDoneW ?_
  go_upto_region 1 with fail
  refine Kr.seqStartW ?_
  (refine Kr.seqQ (v := ?_) (a' := ?_) (by rfl) ?_ ?_ ?_; rotate_left 2; (focus (go_simp; first | done | rfl)); (focus ((try simp only [Kr.PT]); first | done | rfl)))
  refine Kr.seqDoneW ?_
  go_upto_region 2 with fail
  refine Kr.seqStartW ?_
  (refine Kr.seqQ (v := ?_) (a' := ?_) (by rfl) ?_ ?_ ?_; rotate_left 2; (focus (go_simp; first | done | rfl)); (focus ((try simp only [Kr.PT]); first | done | rfl)))
  refine Kr.seqDoneW ?_
  have hr0 : Hid (SrcB none (stm S 0) y1) := Lib.hid (.inl rfl)
  have H2 := Lib.hid H; clear H
  go_wp2_with fail
  go_loopw [5, 6] (fun v iv wr => ∃ (i : Nat) (q : Option Addr) (c : Nat), 32 * i ≤ n + 31 ∧ 32 * i ≤ c ∧ iv = .int .i64 (i : Int) ∧ v = .slice q (32 * i) c ∧ Hid (Shp q c) ∧ Hid (SrcB q (stm S i) wr) ∧ Hid (Ow w wr [(ba, 25, S.map w8)])) (fun _ iv _ => (n + 100 - 32 * (intOf iv).toNat))
  case atStart => exact ⟨0, none, 0, by omega, by omega, rfl, rfl, Lib.hid (.inl ⟨rfl, rfl⟩), hr0, H2⟩
  case round =>
    clear H2 hr0; obtain ⟨i, q, c, hi, hic, rfl, rfl, HQ, HS, HH⟩ := hrel; have H := HH.out; clear HH
    by_cases hin : 32 * i < n
    · have HC : decide (((32 * i : Nat) : Int) < (n : Int)) = true := decide_eq_true (by omega)
      obtain ⟨X, hX⟩ : ∃ X, sha ([] ++ S ++ be8 i) = X := ⟨_, rfl⟩; have hXl : X.length = 32 := by rw [← hX]; exact sha_length _
      have HST : Hid (stm S (i + 1) = stm S i ++ X) := Lib.hid (by rw [← hX, List.nil_append]; rfl)
      have HXX := Lib.hid hX; clear hX
      go_upto_region 3 with fail
      refine Kr.seqStartW ?_
      (refine Kr.seqQ (v := ?_) (a' := ?_) (by rfl) ?_ ?_ ?_; rotate_left 2; (focus (go_simp; first | done | rfl)); (focus ((try simp only [Kr.PT]); first | done | rfl)))
      (refine Kr.seqQ (v := .int .i64 ((32 * i : Nat) : Int)) (a' := ?_) (by rfl) ?_ ?_ ?_; rotate_left 1; (focus (exact Kr.valOf rfl ((by go_simp)))); (focus ((try simp only [Kr.PT]); first | done | rfl)))
      (refine Kr.seqQ (v := ?_) (a' := ?_) (by rfl) ?_ ?_ ?_; rotate_left 2; (focus (go_simp; first | done | rfl)); (focus ((try simp only [Kr.PT]); first | done | rfl)))
      (refine Kr.seqQ (v := .bool true) (a' := ?_) (by rfl) ?_ ?_ ?_; rotate_left 1; (focus (exact Kr.valOf rfl (lssT HC))); (focus ((try simp only [Kr.PT]); first | done | rfl)))
      refine Kr.seqDoneW ?_
      go_upto_region 5 with fail
      refine Kr.seqStartW ?_
      (refine Kr.seqQ (v := ?_) (a' := ?_) (by rfl) ?_ ?_ ?_; rotate_left 2; (focus (go_simp; first | done | rfl)); (focus ((try simp only [Kr.PT]); first | done | rfl)))
      (refine Kr.seqQ (v := .agg (S.map w8).toArray) (a' := ?_) (by rfl) ?_ ?_ ?_; rotate_left 1; (focus (exact Kr.valOf rfl (ldH (H.at 0 rfl) hl32))); (focus ((try simp only [Kr.PT]); first | done | rfl)))
      refine Kr.seqR (by rfl) (fun K hK => ?_)
      go_simp
      go_at_call 38
      have hP := Join_v (p := none) (n := 0) (c := 0) (l := []) (h := S) (w := wr) (.inl rfl) rfl (fun _ => rfl) (by decide) hl
      refine hP.mono ?_; clear hP
      rintro e y2 ⟨q1, c1, rfl, hc1, hp1, hs1, hr1, hg⟩
      have HR := Lib.hid hr1; have HJ := Lib.hid ((Ow.start wr).grow hg); have H0 := Lib.hid H; have HS0 := HS; clear hs1 hp1 hr1 hc1
      replace H := H.grow hg
      replace HS := Lib.hid (HS.out.grow hg)
      clear hg
      (refine Kr.outS hK (a' := ?_) ?_ ?_; rotate_left; (focus ((try simp only [Kr.PT]); first | done | rfl))); clear hK K
      (refine Kr.seqQ (v := ?_) (a' := ?_) (by rfl) ?_ ?_ ?_; rotate_left 2; (focus (go_simp; first | done | rfl)); (focus ((try simp only [Kr.PT]); first | done | rfl)))
      refine Kr.seqR (by rfl) (fun K hK => ?_)
      go_simp
      go_at_call 41
      refine (rBytes_v (n := i) (w := y2)).mono ?_
      rintro e y3 ⟨q8, c8, rfl, hc8, hb8, hg⟩
      have H8 := Lib.hid hb8; clear hb8
      replace H := H.grow hg
      replace HS := Lib.hid (HS.out.grow hg)
      replace HR := Lib.hid (HR.out.grow hg)
      replace HJ := Lib.hid (HJ.out.grow hg)
      clear hg
      (refine Kr.outS hK (a' := ?_) ?_ ?_; rotate_left; (focus ((try simp only [Kr.PT]); first | done | rfl))); clear hK K
      refine Kr.seqR (by rfl) (fun K hK => ?_)
      refine wp_appG (T := 5) (TS := 22) Tryd.underlying22 info8 rfl (.tmp 15) (.tmp 17) rfl (v := .slice q1 (0 + 32) c1) (r := ([] ++ S).map w8) (d := (be8 i).map w8) (p := q8) (m := 8) (c := c8) (rs := []) rfl rfl (by rw [List.length_map]; exact be8_length i) (H8.out.srcG) (one_lit8 (be8 i)) (fun e => src_ne H8.out (by rw [be8_length]; decide) e) HJ.out HR.out (Apt.none _) (by simp [hl]) (by decide) ?_
      intro v1 y4 H3 hR3 hA3
      clear H HR HS H8 HJ; have H := H0.out.grow H3.g; have HR := Lib.hid hR3; have HS := Lib.hid (HS0.out.grow H3.g); clear H0 HS0 H3 hR3 hA3
      (refine Kr.outS hK (a' := ?_) ?_ ?_; rotate_left; (focus ((try simp only [Kr.PT]); first | done | rfl))); clear hK K
      refine Kr.seqR (by rfl) (fun K hK => ?_)
      go_simp
      go_at_call 13
      obtain ⟨q3, c3, rfl, hc3, hp3, hs3⟩ := HR.out.src
      rw [← List.map_append] at hs3 hc3 ⊢; have hln : ([] ++ S ++ be8 i).length = 40 := by rw [List.length_append, List.length_append, hl, be8_length]; rfl
      rw [List.length_map, hln] at hc3 ⊢
      have hP := rSum_v (c := c3) (w := y4) (srcB_of hs3) hln hp3 (by decide); rw [HXX.out] at hP
      clear hs3 hp3 hc3 HR
      refine (hP).mono ?_
      rintro e y5 ⟨rfl, hg⟩
      replace H := H.grow hg
      replace HS := Lib.hid (HS.out.grow hg)
      clear hg
      clear hP
      (refine Kr.outS hK (a' := ?_) ?_ ?_; rotate_left; (focus ((try simp only [Kr.PT]); first | done | rfl))); clear hK K
      refine Kr.seqR (by rfl) (fun K hK => ?_)
      go_simp
      go_at_call 38
      have hP := Join_v (c := c) (h := X) (w := y5) HS.out (stm_length S i) (shp_none HQ.out) (by omega) hXl
      refine hP.mono ?_; clear hP
      rintro e y6 ⟨q2, c2, rfl, hc2, hp2, hs2, hr2, hg⟩
      have HS2 := Lib.hid hs2; have HR2 := Lib.hid (rowG_ptr hr2); have HP2 := Lib.hid hp2; clear hs2 hr2 hp2
      replace H := H.grow hg
      replace HS := Lib.hid (HS.out.grow hg)
      clear HS
      clear hg
      (refine Kr.outS hK (a' := ?_) ?_ ?_; rotate_left; (focus ((try simp only [Kr.PT]); first | done | rfl))); clear hK K
      (refine Kr.seqQ (v := ?_) (a' := ?_) (by rfl) ?_ ?_ ?_; rotate_left 2; (focus (go_simp; first | done | rfl)); (focus ((try simp only [Kr.PT]); first | done | rfl)))
      refine Kr.seqDoneW ?_
      have HADD : IntKind.i64.wrap ((i : Int) + 1) = ((i + 1 : Nat) : Int) := wrap_nat (by omega) (by omega)
      go_upto_region 4 with fail
      refine Kr.seqStartW ?_
      (refine Kr.seqQ (v := ?_) (a' := ?_) (by rfl) ?_ ?_ ?_; rotate_left 2; (focus (go_simp; first | done | rfl)); (focus ((try simp only [Kr.PT]); first | done | rfl)))
      (refine Kr.seqQ (v := .int .i64 ((i + 1 : Nat) : Int)) (a' := ?_) (by rfl) ?_ ?_ ?_; rotate_left 1; (focus (exact Kr.valOf rfl (addI HADD))); (focus ((try simp only [Kr.PT]); first | done | rfl)))
      (refine Kr.seqQ (v := ?_) (a' := ?_) (by rfl) ?_ ?_ ?_; rotate_left 2; (focus (go_simp; first | done | rfl)); (focus ((try simp only [Kr.PT]); first | done | rfl)))
      refine Kr.seqDoneW ?_
      have HQ2 : Hid (Shp q2 c2) := Lib.hid (by cases q2 with
        | none => exact .inl ⟨rfl, HP2.out rfl⟩
        | some ad => obtain ⟨g, hg⟩ := HR2.out ad rfl; exact .inr ⟨g, by rw [hg]⟩)
      have hs5 := HS2.out; rw [← HST.out] at hs5
      go_wp2; go_roundw
      case rel => exact ⟨i + 1, q2, c2, by omega, by omega, rfl, rfl, HQ2, Lib.hid hs5, Lib.hid H⟩
      case measure => simp [intOf]; omega
    · have HC : decide (((32 * i : Nat) : Int) < (n : Int)) = false := decide_eq_false (by omega)
      have hex := stm_ex S (i := i) (n := n) (by omega)
      have hsb := srcB_take HS.out n; rw [hex] at hsb; have HSB := Lib.hid hsb; clear hsb hex HS
      go_upto_region 3 with fail
      refine Kr.seqStartW ?_
      (refine Kr.seqQ (v := ?_) (a' := ?_) (by rfl) ?_ ?_ ?_; rotate_left 2; (focus (go_simp; first | done | rfl)); (focus ((try simp only [Kr.PT]); first | done | rfl)))
      (refine Kr.seqQ (v := .int .i64 ((32 * i : Nat) : Int)) (a' := ?_) (by rfl) ?_ ?_ ?_; rotate_left 1; (focus (exact Kr.valOf rfl ((by go_simp)))); (focus ((try simp only [Kr.PT]); first | done | rfl)))
      (refine Kr.seqQ (v := ?_) (a' := ?_) (by rfl) ?_ ?_ ?_; rotate_left 2; (focus (go_simp; first | done | rfl)); (focus ((try simp only [Kr.PT]); first | done | rfl)))
      (refine Kr.seqQ (v := .bool false) (a' := ?_) (by rfl) ?_ ?_ ?_; rotate_left 1; (focus (exact Kr.valOf rfl (lssT HC))); (focus ((try simp only [Kr.PT]); first | done | rfl)))
      refine Kr.seqDoneW ?_
      go_upto_region 6 with fail
      refine Kr.seqStartW ?_
      (refine Kr.seqQ (v := ?_) (a' := ?_) (by rfl) ?_ ?_ ?_; rotate_left 2; (focus (go_simp; first | done | rfl)); (focus ((try simp only [Kr.PT]); first | done | rfl)))
      (refine Kr.seqQ (v := ?_) (a' := ?_) (by rfl) ?_ ?_ ?_; rotate_left 2; (focus (go_simp; first | done | rfl)); (focus ((try simp only [Kr.PT]); first | done | rfl)))
      (refine Kr.seqQ (v := .slice q n c) (a' := ?_) (by rfl) ?_ ?_ ?_; rotate_left 1; (focus (exact Kr.valOf rfl (slToP HQ.out (by omega) (fun e => by have := shp_none HQ.out e; omega)))); (focus ((try simp only [Kr.PT]); first | done | rfl)))
      (refine Kr.seqQ (v := ?_) (a' := ?_) (by rfl) ?_ ?_ ?_; rotate_left 2; (focus (go_simp; first | done | rfl)); (focus ((try simp only [Kr.PT]); first | done | rfl)))
      refine Kr.seqDoneW ?_
      have hk := trivial
      go_wp2
      refine bodyPost_ret (v := .slice q n c) (by simp [results, Tryd.results20, go_sem, hk]) rfl ⟨q, c, rfl, HSB.out, H.g⟩
end Go.Proofs.YtilbojcghladjaaDoor.Dg
