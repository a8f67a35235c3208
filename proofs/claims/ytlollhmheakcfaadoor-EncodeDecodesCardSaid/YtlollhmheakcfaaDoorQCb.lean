/- The law EncodeDecodes. -/
import Derived.Test.YtlollhmheakcfaaDoorQCa
import Derived.Deep.Cut
namespace Go.Proofs.YtlollhmheakcfaaDoor.Dg
open Go Go.RowKit Go.Proofs.YtlollhmheakcfaaDoor.Ne Go.Proofs.YtlollhmheakcfaaDoor.Kr

set_option linter.unusedSimpArgs false in
set_option maxRecDepth 100000 in
set_option maxHeartbeats 16000000 in
theorem dec_mid {w : World} {p : Option Addr} {n c : Nat} (h1 : 4000 < n) (h2 : n ≤ 16384) (hT : Tab w) :
    Calls Tryd.prog 4 #[.slice p n c] w fun e w' => e = .returned (.bool true) ∧ Gr w w' := by
  have HTAB := Lib.hid hT; clear hT
  have H := Ow.start w
  go_enter Tryd.func4, Tryd.ntmps4
  go_upto_region 0 with fail
  refine Kr.seqStartW ?_
  (refine Kr.seqQ (v := ?_) (a' := ?_) (by rfl) ?_ ?_ ?_; rotate_left 2; (focus (go_simp; first | done | rfl)); (focus ((try simp only [Kr.PT]); first | done | rfl)))
  refine Kr.seqDoneW ?_
  have C1 : decide ((4000 : Int) < (n : Int)) = true := decide_eq_true (by omega)
  have C2 : decide ((n : Int) ≤ 16384) = true := decide_eq_true (by omega)
  go_upto_region 1 with fail
  refine Kr.seqStartW ?_
  refine Kr.seqR (by rfl) (fun K hK => ?_)
  go_simp
  go_at_call 10
  refine (awake_v (HTAB.out.grow H.g)).mono ?_
  rintro e y1 ⟨rfl, hg⟩
  replace H := H.grow hg
  clear hg
  (refine Kr.outS hK (a' := ?_) ?_ ?_; rotate_left; (focus ((try simp only [Kr.PT]); first | done | rfl))); clear hK K
  (refine Kr.seqQ (v := ?_) (a' := ?_) (by rfl) ?_ ?_ ?_; rotate_left 2; (focus (go_simp; first | done | rfl)); (focus ((try simp only [Kr.PT]); first | done | rfl)))
  (refine Kr.seqQ (v := ?_) (a' := ?_) (by rfl) ?_ ?_ ?_; rotate_left 2; (focus (go_simp; first | done | rfl)); (focus ((try simp only [Kr.PT]); first | done | rfl)))
  (refine Kr.seqQ (v := ?_) (a' := ?_) (by rfl) ?_ ?_ ?_; rotate_left 2; (focus (go_simp; first | done | rfl)); (focus ((try simp only [Kr.PT]); first | done | rfl)))
  (refine Kr.seqQ (v := .int .i64 (n : Int)) (a' := ?_) (by rfl) ?_ ?_ ?_; rotate_left 1; (focus (exact Kr.valOf rfl ((by go_simp)))); (focus ((try simp only [Kr.PT]); first | done | rfl)))
  (refine Kr.seqQ (v := .bool true) (a' := ?_) (by rfl) ?_ ?_ ?_; rotate_left 1; (focus (exact Kr.valOf rfl (gtrI C1))); (focus ((try simp only [Kr.PT]); first | done | rfl)))
  (refine Kr.seqQ (v := ?_) (a' := ?_) (by rfl) ?_ ?_ ?_; rotate_left 2; (focus (go_simp; first | done | rfl)); (focus ((try simp only [Kr.PT]); first | done | rfl)))
  (refine Kr.seqQ (v := ?_) (a' := ?_) (by rfl) ?_ ?_ ?_; rotate_left 2; (focus (go_simp; first | done | rfl)); (focus ((try simp only [Kr.PT]); first | done | rfl)))
  (refine Kr.seqQ (v := .int .i64 (n : Int)) (a' := ?_) (by rfl) ?_ ?_ ?_; rotate_left 1; (focus (exact Kr.valOf rfl ((by go_simp)))); (focus ((try simp only [Kr.PT]); first | done | rfl)))
  (refine Kr.seqQ (v := .bool true) (a' := ?_) (by rfl) ?_ ?_ ?_; rotate_left 1; (focus (exact Kr.valOf rfl (leqI C2))); (focus ((try simp only [Kr.PT]); first | done | rfl)))
  (refine Kr.seqQ (v := ?_) (a' := ?_) (by rfl) ?_ ?_ ?_; rotate_left 2; (focus (go_simp; first | done | rfl)); (focus ((try simp only [Kr.PT]); first | done | rfl)))
  (refine Kr.seqQ (v := ?_) (a' := ?_) (by rfl) ?_ ?_ ?_; rotate_left 2; (focus (go_simp; first | done | rfl)); (focus ((try simp only [Kr.PT]); first | done | rfl)))
  refine Kr.seqDoneW ?_
  clear C1 C2
  go_upto_region 2 with fail
  refine Kr.seqStartW ?_
  refine Kr.seqR (by rfl) (fun K hK => ?_)
  go_simp
  go_at_call 10
  refine (awake_v (HTAB.out.grow H.g)).mono ?_
  rintro e y2 ⟨rfl, hg⟩
  replace H := H.grow hg
  clear hg
  (refine Kr.outS hK (a' := ?_) ?_ ?_; rotate_left; (focus ((try simp only [Kr.PT]); first | done | rfl))); clear hK K
  (refine Kr.seqQ (v := ?_) (a' := ?_) (by rfl) ?_ ?_ ?_; rotate_left 2; (focus (go_simp; first | done | rfl)); (focus ((try simp only [Kr.PT]); first | done | rfl)))
  refine Kr.seqDoneW ?_
  have hk := trivial
  go_wp2
  refine bodyPost_ret (v := .bool true) (by simp [results, Tryd.results4, go_sem, hk]) rfl ⟨rfl, H.g⟩
set_option linter.unusedSimpArgs false in
set_option maxRecDepth 100000 in
set_option maxHeartbeats 16000000 in
theorem dec_low {w : World} {p : Option Addr} {n c : Nat} {l : List (BitVec 8)} (hS : SrcB p l w) (hl : l.length = n) (hc : n ≤ c) (h1 : n ≤ 4000) (hT : Tab w) :
    Calls Tryd.prog 4 #[.slice p n c] w fun e w' => e = .returned (.bool true) ∧ Gr w w' := by
  have HTAB := Lib.hid hT; clear hT
  have HS := Lib.hid hS; clear hS
  have H := Ow.start w
  go_enter Tryd.func4, Tryd.ntmps4
  go_upto_region 0 with fail
  refine Kr.seqStartW ?_
  (refine Kr.seqQ (v := ?_) (a' := ?_) (by rfl) ?_ ?_ ?_; rotate_left 2; (focus (go_simp; first | done | rfl)); (focus ((try simp only [Kr.PT]); first | done | rfl)))
  refine Kr.seqDoneW ?_
  have C1 : decide ((4000 : Int) < (n : Int)) = false := decide_eq_false (by omega)
  go_upto_region 1 with fail
  refine Kr.seqStartW ?_
  refine Kr.seqR (by rfl) (fun K hK => ?_)
  go_simp
  go_at_call 10
  refine (awake_v (HTAB.out.grow H.g)).mono ?_
  rintro e y1 ⟨rfl, hg⟩
  replace H := H.grow hg
  clear hg
  (refine Kr.outS hK (a' := ?_) ?_ ?_; rotate_left; (focus ((try simp only [Kr.PT]); first | done | rfl))); clear hK K
  (refine Kr.seqQ (v := ?_) (a' := ?_) (by rfl) ?_ ?_ ?_; rotate_left 2; (focus (go_simp; first | done | rfl)); (focus ((try simp only [Kr.PT]); first | done | rfl)))
  (refine Kr.seqQ (v := ?_) (a' := ?_) (by rfl) ?_ ?_ ?_; rotate_left 2; (focus (go_simp; first | done | rfl)); (focus ((try simp only [Kr.PT]); first | done | rfl)))
  (refine Kr.seqQ (v := ?_) (a' := ?_) (by rfl) ?_ ?_ ?_; rotate_left 2; (focus (go_simp; first | done | rfl)); (focus ((try simp only [Kr.PT]); first | done | rfl)))
  (refine Kr.seqQ (v := .int .i64 (n : Int)) (a' := ?_) (by rfl) ?_ ?_ ?_; rotate_left 1; (focus (exact Kr.valOf rfl ((by go_simp)))); (focus ((try simp only [Kr.PT]); first | done | rfl)))
  (refine Kr.seqQ (v := .bool false) (a' := ?_) (by rfl) ?_ ?_ ?_; rotate_left 1; (focus (exact Kr.valOf rfl (gtrI C1))); (focus ((try simp only [Kr.PT]); first | done | rfl)))
  (refine Kr.seqQ (v := ?_) (a' := ?_) (by rfl) ?_ ?_ ?_; rotate_left 2; (focus (go_simp; first | done | rfl)); (focus ((try simp only [Kr.PT]); first | done | rfl)))
  (refine Kr.seqSkipQ (a' := ?_) (by rfl) ?_ ?_; rotate_left; (focus ((try simp only [Kr.PT]); first | done | rfl)))
  (refine Kr.seqSkipQ (a' := ?_) (by rfl) ?_ ?_; rotate_left; (focus ((try simp only [Kr.PT]); first | done | rfl)))
  (refine Kr.seqSkipQ (a' := ?_) (by rfl) ?_ ?_; rotate_left; (focus ((try simp only [Kr.PT]); first | done | rfl)))
  (refine Kr.seqQ (v := ?_) (a' := ?_) (by rfl) ?_ ?_ ?_; rotate_left 2; (focus (go_simp; first | done | rfl)); (focus ((try simp only [Kr.PT]); first | done | rfl)))
  (refine Kr.seqQ (v := ?_) (a' := ?_) (by rfl) ?_ ?_ ?_; rotate_left 2; (focus (go_simp; first | done | rfl)); (focus ((try simp only [Kr.PT]); first | done | rfl)))
  refine Kr.seqDoneW ?_
  clear C1
  go_upto_region 3 with fail
  refine Kr.seqStartW ?_
  (refine Kr.seqQ (v := ?_) (a' := ?_) (by rfl) ?_ ?_ ?_; rotate_left 2; (focus (go_simp; first | done | rfl)); (focus ((try simp only [Kr.PT]); first | done | rfl)))
  refine Kr.seqR (by rfl) (fun K hK => ?_)
  go_simp
  go_at_call 17
  refine (Decode_v (w := y1) (HS.out.grow H.g) hl hc).mono ?_
  rintro o9 y2 hdec; obtain ⟨v0, v1, v2, v3, ea, rfl, hg, hone, hcs⟩ := hdec
  have hd : DecV y2 (fun b => y1.heap.size ≤ b ∧ b < y2.heap.size) l v0 v1 v2 v3 ea := hcs.imp (fun ⟨h1, t, h2, h3, h4⟩ => ⟨h1, t, h3, h4, h2⟩) id
  obtain ⟨Fa, hF⟩ : ∃ z : Nat → Prop, (fun b => y1.heap.size ≤ b ∧ b < y2.heap.size) = z := ⟨_, rfl⟩; rw [hF] at hd; have HFa : Hid (∀ b, Fa b → b < y2.heap.size) := Lib.hid (fun b hb => by rw [← hF] at hb; exact hb.2)
  have HDa := Lib.hid hd; have HONEa := Lib.hid hone; have HZa := HFa; clear hone hcs hd hF HFa
  replace H := H.grow hg
  clear hg
  (refine Kr.outS hK (a' := ?_) ?_ ?_; rotate_left; (focus ((try simp only [Kr.PT]); first | done | rfl))); clear hK K
  (refine Kr.seqQ (v := ?_) (a' := ?_) (by rfl) ?_ ?_ ?_; rotate_left 2; (focus (go_simp; first | done | rfl)); (focus ((try simp only [Kr.PT]); first | done | rfl)))
  (refine Kr.seqQ (v := .agg #[v0, v1, v2, v3]) (a' := ?_) (by rfl) ?_ ?_ ?_; rotate_left 1; (focus (go_simp; first | done | rfl)); (focus ((try simp only [Kr.PT]); first | done | rfl)))
  (refine Kr.seqQ (v := .int .i64 ea) (a' := ?_) (by rfl) ?_ ?_ ?_; rotate_left 1; (focus (go_simp; first | done | rfl)); (focus ((try simp only [Kr.PT]); first | done | rfl)))
  refine Kr.seqR (by rfl) (fun K hK => ?_)
  refine wp_runV rfl newI ?_
  obtain ⟨y3, hy⟩ : ∃ y, y2.alloc (.cells ([.int .i64 0, .int .i64 0, .slice none 0 0, .slice none 0 0]).toArray 25) = y := ⟨_, rfl⟩
  obtain ⟨bi, hb⟩ : ∃ b, y2.heap.size = b := ⟨_, rfl⟩
  rw [hy, hb]
  have hgaa : Gr y2 y3 := hy ▸ (Gr.refl _).alloc _; have HD2a := Lib.hid (HDa.out.kept (W' := y3) (fun z hz => hgaa.block z (HZa.out z hz))); have HNa : Hid (¬ Fa bi) := Lib.hid (fun h => by have h1 := HZa.out _ h; have h2 := hb; omega); have HZ2a : Hid (∀ z, Fa z → z < y3.heap.size) := Lib.hid (fun z hz => Nat.lt_of_lt_of_le (HZa.out z hz) hgaa.size); clear HDa HZa hgaa; have HDa := HD2a; have HZa := HZ2a; clear HD2a HZ2a
  have hg : Gr y2 y3 := hy ▸ (Gr.refl _).alloc _
  replace H := H.alloc hy hb
  clear hy hb hg
  (refine Kr.outS hK (a' := ?_) ?_ ?_; rotate_left; (focus ((try simp only [Kr.PT]); first | done | rfl))); clear hK K
  refine Kr.seqR (by rfl) (fun K hK => ?_)
  refine wp_run rfl (stI (H.at 0 rfl) HONEa.out) ?_
  have hsz := size_put (W := y3) (b := bi) (cs := ([v0, v1, v2, v3] : List Value).toArray)
  have hka := HDa.out.kept (same_put (W := y3) (b := bi) (cs := ([v0, v1, v2, v3] : List Value).toArray) HNa.out)
  obtain ⟨y4, hy⟩ : ∃ y, y3.setRow bi ([v0, v1, v2, v3] : List Value).toArray = y := ⟨_, rfl⟩; rw [hy]; rw [hy] at hsz
  rw [hy] at hka; have HZ2a : Hid (∀ z, Fa z → z < y4.heap.size) := Lib.hid (fun z hz => by rw [hsz]; exact HZa.out z hz); clear HDa HZa; have HDa := Lib.hid hka; have HZa := HZ2a; clear hka HZ2a HNa
  clear hsz; replace H := H.put 0 hy rfl; dsimp only [List.set] at H; clear hy
  (refine Kr.outS hK (a' := ?_) ?_ ?_; rotate_left; (focus ((try simp only [Kr.PT]); first | done | rfl))); clear hK K
  (refine Kr.seqQ (v := ?_) (a' := ?_) (by rfl) ?_ ?_ ?_; rotate_left 2; (focus (go_simp; first | done | rfl)); (focus ((try simp only [Kr.PT]); first | done | rfl)))
  refine Kr.seqDoneW ?_
  go_upto_region 4 with fail
  refine Kr.seqStartW ?_
  (refine Kr.seqQ (v := ?_) (a' := ?_) (by rfl) ?_ ?_ ?_; rotate_left 2; (focus (go_simp; first | done | rfl)); (focus ((try simp only [Kr.PT]); first | done | rfl)))
  refine Kr.seqR (by rfl) (fun K hK => ?_)
  go_simp
  go_at_call 18
  refine (rDecode_v (w := y4) (HS.out.grow H.g) hl hc).mono ?_
  rintro o9 y5 hdec; obtain ⟨u0, u1, u2, u3, eb, rfl, hg, hone, hcs⟩ := hdec
  have hd : DecV y5 (fun b => y4.heap.size ≤ b ∧ b < y5.heap.size) l u0 u1 u2 u3 eb := hcs.imp (fun ⟨h1, t, h2, h3, h4⟩ => ⟨h1, t, h3, h4, h2⟩) id
  obtain ⟨Fb, hF⟩ : ∃ z : Nat → Prop, (fun b => y4.heap.size ≤ b ∧ b < y5.heap.size) = z := ⟨_, rfl⟩; rw [hF] at hd; have HFb : Hid (∀ b, Fb b → b < y5.heap.size) := Lib.hid (fun b hb => by rw [← hF] at hb; exact hb.2)
  have hs2 := hg.size; have HDA2 := Lib.hid (HDa.out.kept (W' := y5) (fun b hb => hg.block b (HZa.out b hb))); have HZ2 : Hid (∀ b, Fa b → b < y5.heap.size) := Lib.hid (fun b hb => Nat.lt_of_lt_of_le (HZa.out b hb) hs2); clear HDa HZa hs2; have HDa := HDA2; have HZa := HZ2; clear HDA2 HZ2
  have HDb := Lib.hid hd; have HONEb := Lib.hid hone; have HZb := HFb; clear hone hcs hd hF HFb
  replace H := H.grow hg
  clear hg
  (refine Kr.outS hK (a' := ?_) ?_ ?_; rotate_left; (focus ((try simp only [Kr.PT]); first | done | rfl))); clear hK K
  (refine Kr.seqQ (v := ?_) (a' := ?_) (by rfl) ?_ ?_ ?_; rotate_left 2; (focus (go_simp; first | done | rfl)); (focus ((try simp only [Kr.PT]); first | done | rfl)))
  (refine Kr.seqQ (v := .agg #[u0, u1, u2, u3]) (a' := ?_) (by rfl) ?_ ?_ ?_; rotate_left 1; (focus (go_simp; first | done | rfl)); (focus ((try simp only [Kr.PT]); first | done | rfl)))
  (refine Kr.seqQ (v := .int .i64 eb) (a' := ?_) (by rfl) ?_ ?_ ?_; rotate_left 1; (focus (go_simp; first | done | rfl)); (focus ((try simp only [Kr.PT]); first | done | rfl)))
  refine Kr.seqR (by rfl) (fun K hK => ?_)
  refine wp_runV rfl newI ?_
  obtain ⟨y6, hy⟩ : ∃ y, y5.alloc (.cells ([.int .i64 0, .int .i64 0, .slice none 0 0, .slice none 0 0]).toArray 25) = y := ⟨_, rfl⟩
  obtain ⟨bj, hb⟩ : ∃ b, y5.heap.size = b := ⟨_, rfl⟩
  rw [hy, hb]
  have hgaa : Gr y5 y6 := hy ▸ (Gr.refl _).alloc _; have HD2a := Lib.hid (HDa.out.kept (W' := y6) (fun z hz => hgaa.block z (HZa.out z hz))); have HNa : Hid (¬ Fa bj) := Lib.hid (fun h => by have h1 := HZa.out _ h; have h2 := hb; omega); have HZ2a : Hid (∀ z, Fa z → z < y6.heap.size) := Lib.hid (fun z hz => Nat.lt_of_lt_of_le (HZa.out z hz) hgaa.size); clear HDa HZa hgaa; have HDa := HD2a; have HZa := HZ2a; clear HD2a HZ2a
  have hgab : Gr y5 y6 := hy ▸ (Gr.refl _).alloc _; have HD2b := Lib.hid (HDb.out.kept (W' := y6) (fun z hz => hgab.block z (HZb.out z hz))); have HNb : Hid (¬ Fb bj) := Lib.hid (fun h => by have h1 := HZb.out _ h; have h2 := hb; omega); have HZ2b : Hid (∀ z, Fb z → z < y6.heap.size) := Lib.hid (fun z hz => Nat.lt_of_lt_of_le (HZb.out z hz) hgab.size); clear HDb HZb hgab; have HDb := HD2b; have HZb := HZ2b; clear HD2b HZ2b
  have hg : Gr y5 y6 := hy ▸ (Gr.refl _).alloc _
  replace H := H.alloc hy hb
  clear hy hb hg
  (refine Kr.outS hK (a' := ?_) ?_ ?_; rotate_left; (focus ((try simp only [Kr.PT]); first | done | rfl))); clear hK K
  refine Kr.seqR (by rfl) (fun K hK => ?_)
  refine wp_run rfl (stI (H.at 0 rfl) HONEb.out) ?_
  have hsz := size_put (W := y6) (b := bj) (cs := ([u0, u1, u2, u3] : List Value).toArray)
  have hka := HDa.out.kept (same_put (W := y6) (b := bj) (cs := ([u0, u1, u2, u3] : List Value).toArray) HNa.out)
  have hkb := HDb.out.kept (same_put (W := y6) (b := bj) (cs := ([u0, u1, u2, u3] : List Value).toArray) HNb.out)
  obtain ⟨y7, hy⟩ : ∃ y, y6.setRow bj ([u0, u1, u2, u3] : List Value).toArray = y := ⟨_, rfl⟩; rw [hy]; rw [hy] at hsz
  rw [hy] at hka; have HZ2a : Hid (∀ z, Fa z → z < y7.heap.size) := Lib.hid (fun z hz => by rw [hsz]; exact HZa.out z hz); clear HDa HZa; have HDa := Lib.hid hka; have HZa := HZ2a; clear hka HZ2a HNa
  rw [hy] at hkb; have HZ2b : Hid (∀ z, Fb z → z < y7.heap.size) := Lib.hid (fun z hz => by rw [hsz]; exact HZb.out z hz); clear HDb HZb; have HDb := Lib.hid hkb; have HZb := HZ2b; clear hkb HZ2b HNb
  clear hsz; replace H := H.put 0 hy rfl; dsimp only [List.set] at H; clear hy
  (refine Kr.outS hK (a' := ?_) ?_ ?_; rotate_left; (focus ((try simp only [Kr.PT]); first | done | rfl))); clear hK K
  (refine Kr.seqQ (v := ?_) (a' := ?_) (by rfl) ?_ ?_ ?_; rotate_left 2; (focus (go_simp; first | done | rfl)); (focus ((try simp only [Kr.PT]); first | done | rfl)))
  refine Kr.seqDoneW ?_
  obtain ⟨hee, tt, hta, htb⟩ := HDa.out.same HDb.out; subst hee; have HTA := Lib.hid hta; have HTB := Lib.hid htb; clear hta htb HDa HDb HZa HZb
  have C6 : decide (ea = ea) = true := decide_eq_true rfl
  go_upto_region 5 with fail
  refine Kr.seqStartW ?_
  (refine Kr.seqQ (v := .agg #[v0, v1, v2, v3]) (a' := ?_) (by rfl) ?_ ?_ ?_; rotate_left 1; (focus (exact Kr.valOf rfl (ldI (H.at 1 rfl)))); (focus ((try simp only [Kr.PT]); first | done | rfl)))
  (refine Kr.seqQ (v := .agg #[u0, u1, u2, u3]) (a' := ?_) (by rfl) ?_ ?_ ?_; rotate_left 1; (focus (exact Kr.valOf rfl (ldI (H.at 0 rfl)))); (focus ((try simp only [Kr.PT]); first | done | rfl)))
  refine Kr.seqR (by rfl) (fun K hK => ?_)
  go_simp
  go_at_call 19
  refine (same_v 9 HTA.out HTB.out).mono ?_
  rintro e y8 ⟨rfl, hg⟩
  replace H := H.grow hg
  clear hg
  (refine Kr.outS hK (a' := ?_) ?_ ?_; rotate_left; (focus ((try simp only [Kr.PT]); first | done | rfl))); clear hK K
  (refine Kr.seqQ (v := ?_) (a' := ?_) (by rfl) ?_ ?_ ?_; rotate_left 2; (focus (go_simp; first | done | rfl)); (focus ((try simp only [Kr.PT]); first | done | rfl)))
  (refine Kr.seqQ (v := ?_) (a' := ?_) (by rfl) ?_ ?_ ?_; rotate_left 2; (focus (go_simp; first | done | rfl)); (focus ((try simp only [Kr.PT]); first | done | rfl)))
  (refine Kr.seqQ (v := ?_) (a' := ?_) (by rfl) ?_ ?_ ?_; rotate_left 2; (focus (go_simp; first | done | rfl)); (focus ((try simp only [Kr.PT]); first | done | rfl)))
  (refine Kr.seqQ (v := .bool true) (a' := ?_) (by rfl) ?_ ?_ ?_; rotate_left 1; (focus (exact Kr.valOf rfl (eqlI C6))); (focus ((try simp only [Kr.PT]); first | done | rfl)))
  (refine Kr.seqQ (v := ?_) (a' := ?_) (by rfl) ?_ ?_ ?_; rotate_left 2; (focus (go_simp; first | done | rfl)); (focus ((try simp only [Kr.PT]); first | done | rfl)))
  (refine Kr.seqQ (v := ?_) (a' := ?_) (by rfl) ?_ ?_ ?_; rotate_left 2; (focus (go_simp; first | done | rfl)); (focus ((try simp only [Kr.PT]); first | done | rfl)))
  refine Kr.seqDoneW ?_
  have hk := trivial
  go_wp2
  refine bodyPost_ret (v := .bool true) (by simp [results, Tryd.results4, go_sem, hk]) rfl ⟨rfl, H.g⟩
set_option linter.unusedSimpArgs false in
set_option maxRecDepth 100000 in
set_option maxHeartbeats 16000000 in
theorem dec_big {w : World} {p : Option Addr} {n c : Nat} {l : List (BitVec 8)} (hS : SrcB p l w) (hl : l.length = n) (hc : n ≤ c) (h1 : 16384 < n) (hT : Tab w) :
    Calls Tryd.prog 4 #[.slice p n c] w fun e w' => e = .returned (.bool true) ∧ Gr w w' := by
  have HTAB := Lib.hid hT; clear hT
  have HS := Lib.hid hS; clear hS
  have H := Ow.start w
  go_enter Tryd.func4, Tryd.ntmps4
  go_upto_region 0 with fail
  refine Kr.seqStartW ?_
  (refine Kr.seqQ (v := ?_) (a' := ?_) (by rfl) ?_ ?_ ?_; rotate_left 2; (focus (go_simp; first | done | rfl)); (focus ((try simp only [Kr.PT]); first | done | rfl)))
  refine Kr.seqDoneW ?_
  have C1 : decide ((4000 : Int) < (n : Int)) = true := decide_eq_true (by omega)
  have C2 : decide ((n : Int) ≤ 16384) = false := decide_eq_false (by omega)
  go_upto_region 1 with fail
  refine Kr.seqStartW ?_
  refine Kr.seqR (by rfl) (fun K hK => ?_)
  go_simp
  go_at_call 10
  refine (awake_v (HTAB.out.grow H.g)).mono ?_
  rintro e y1 ⟨rfl, hg⟩
  replace H := H.grow hg
  clear hg
  (refine Kr.outS hK (a' := ?_) ?_ ?_; rotate_left; (focus ((try simp only [Kr.PT]); first | done | rfl))); clear hK K
  (refine Kr.seqQ (v := ?_) (a' := ?_) (by rfl) ?_ ?_ ?_; rotate_left 2; (focus (go_simp; first | done | rfl)); (focus ((try simp only [Kr.PT]); first | done | rfl)))
  (refine Kr.seqQ (v := ?_) (a' := ?_) (by rfl) ?_ ?_ ?_; rotate_left 2; (focus (go_simp; first | done | rfl)); (focus ((try simp only [Kr.PT]); first | done | rfl)))
  (refine Kr.seqQ (v := ?_) (a' := ?_) (by rfl) ?_ ?_ ?_; rotate_left 2; (focus (go_simp; first | done | rfl)); (focus ((try simp only [Kr.PT]); first | done | rfl)))
  (refine Kr.seqQ (v := .int .i64 (n : Int)) (a' := ?_) (by rfl) ?_ ?_ ?_; rotate_left 1; (focus (exact Kr.valOf rfl ((by go_simp)))); (focus ((try simp only [Kr.PT]); first | done | rfl)))
  (refine Kr.seqQ (v := .bool true) (a' := ?_) (by rfl) ?_ ?_ ?_; rotate_left 1; (focus (exact Kr.valOf rfl (gtrI C1))); (focus ((try simp only [Kr.PT]); first | done | rfl)))
  (refine Kr.seqQ (v := ?_) (a' := ?_) (by rfl) ?_ ?_ ?_; rotate_left 2; (focus (go_simp; first | done | rfl)); (focus ((try simp only [Kr.PT]); first | done | rfl)))
  (refine Kr.seqQ (v := ?_) (a' := ?_) (by rfl) ?_ ?_ ?_; rotate_left 2; (focus (go_simp; first | done | rfl)); (focus ((try simp only [Kr.PT]); first | done | rfl)))
  (refine Kr.seqQ (v := .int .i64 (n : Int)) (a' := ?_) (by rfl) ?_ ?_ ?_; rotate_left 1; (focus (exact Kr.valOf rfl ((by go_simp)))); (focus ((try simp only [Kr.PT]); first | done | rfl)))
  (refine Kr.seqQ (v := .bool false) (a' := ?_) (by rfl) ?_ ?_ ?_; rotate_left 1; (focus (exact Kr.valOf rfl (leqI C2))); (focus ((try simp only [Kr.PT]); first | done | rfl)))
  (refine Kr.seqQ (v := ?_) (a' := ?_) (by rfl) ?_ ?_ ?_; rotate_left 2; (focus (go_simp; first | done | rfl)); (focus ((try simp only [Kr.PT]); first | done | rfl)))
  (refine Kr.seqQ (v := ?_) (a' := ?_) (by rfl) ?_ ?_ ?_; rotate_left 2; (focus (go_simp; first | done | rfl)); (focus ((try simp only [Kr.PT]); first | done | rfl)))
  refine Kr.seqDoneW ?_
  clear C1 C2
  go_upto_region 3 with fail
  refine Kr.seqStartW ?_
  (refine Kr.seqQ (v := ?_) (a' := ?_) (by rfl) ?_ ?_ ?_; rotate_left 2; (focus (go_simp; first | done | rfl)); (focus ((try simp only [Kr.PT]); first | done | rfl)))
  refine Kr.seqR (by rfl) (fun K hK => ?_)
  go_simp
  go_at_call 17
  refine (Decode_v (w := y1) (HS.out.grow H.g) hl hc).mono ?_
  rintro o9 y2 hdec; obtain ⟨v0, v1, v2, v3, ea, rfl, hg, hone, hcs⟩ := hdec
  have hd : DecV y2 (fun b => y1.heap.size ≤ b ∧ b < y2.heap.size) l v0 v1 v2 v3 ea := hcs.imp (fun ⟨h1, t, h2, h3, h4⟩ => ⟨h1, t, h3, h4, h2⟩) id
  obtain ⟨Fa, hF⟩ : ∃ z : Nat → Prop, (fun b => y1.heap.size ≤ b ∧ b < y2.heap.size) = z := ⟨_, rfl⟩; rw [hF] at hd; have HFa : Hid (∀ b, Fa b → b < y2.heap.size) := Lib.hid (fun b hb => by rw [← hF] at hb; exact hb.2)
  have HDa := Lib.hid hd; have HONEa := Lib.hid hone; have HZa := HFa; clear hone hcs hd hF HFa
  replace H := H.grow hg
  clear hg
  (refine Kr.outS hK (a' := ?_) ?_ ?_; rotate_left; (focus ((try simp only [Kr.PT]); first | done | rfl))); clear hK K
  (refine Kr.seqQ (v := ?_) (a' := ?_) (by rfl) ?_ ?_ ?_; rotate_left 2; (focus (go_simp; first | done | rfl)); (focus ((try simp only [Kr.PT]); first | done | rfl)))
  (refine Kr.seqQ (v := .agg #[v0, v1, v2, v3]) (a' := ?_) (by rfl) ?_ ?_ ?_; rotate_left 1; (focus (go_simp; first | done | rfl)); (focus ((try simp only [Kr.PT]); first | done | rfl)))
  (refine Kr.seqQ (v := .int .i64 ea) (a' := ?_) (by rfl) ?_ ?_ ?_; rotate_left 1; (focus (go_simp; first | done | rfl)); (focus ((try simp only [Kr.PT]); first | done | rfl)))
  refine Kr.seqR (by rfl) (fun K hK => ?_)
  refine wp_runV rfl newI ?_
  obtain ⟨y3, hy⟩ : ∃ y, y2.alloc (.cells ([.int .i64 0, .int .i64 0, .slice none 0 0, .slice none 0 0]).toArray 25) = y := ⟨_, rfl⟩
  obtain ⟨bi, hb⟩ : ∃ b, y2.heap.size = b := ⟨_, rfl⟩
  rw [hy, hb]
  have hgaa : Gr y2 y3 := hy ▸ (Gr.refl _).alloc _; have HD2a := Lib.hid (HDa.out.kept (W' := y3) (fun z hz => hgaa.block z (HZa.out z hz))); have HNa : Hid (¬ Fa bi) := Lib.hid (fun h => by have h1 := HZa.out _ h; have h2 := hb; omega); have HZ2a : Hid (∀ z, Fa z → z < y3.heap.size) := Lib.hid (fun z hz => Nat.lt_of_lt_of_le (HZa.out z hz) hgaa.size); clear HDa HZa hgaa; have HDa := HD2a; have HZa := HZ2a; clear HD2a HZ2a
  have hg : Gr y2 y3 := hy ▸ (Gr.refl _).alloc _
  replace H := H.alloc hy hb
  clear hy hb hg
  (refine Kr.outS hK (a' := ?_) ?_ ?_; rotate_left; (focus ((try simp only [Kr.PT]); first | done | rfl))); clear hK K
  refine Kr.seqR (by rfl) (fun K hK => ?_)
  refine wp_run rfl (stI (H.at 0 rfl) HONEa.out) ?_
  have hsz := size_put (W := y3) (b := bi) (cs := ([v0, v1, v2, v3] : List Value).toArray)
  have hka := HDa.out.kept (same_put (W := y3) (b := bi) (cs := ([v0, v1, v2, v3] : List Value).toArray) HNa.out)
  obtain ⟨y4, hy⟩ : ∃ y, y3.setRow bi ([v0, v1, v2, v3] : List Value).toArray = y := ⟨_, rfl⟩; rw [hy]; rw [hy] at hsz
  rw [hy] at hka; have HZ2a : Hid (∀ z, Fa z → z < y4.heap.size) := Lib.hid (fun z hz => by rw [hsz]; exact HZa.out z hz); clear HDa HZa; have HDa := Lib.hid hka; have HZa := HZ2a; clear hka HZ2a HNa
  clear hsz; replace H := H.put 0 hy rfl; dsimp only [List.set] at H; clear hy
  (refine Kr.outS hK (a' := ?_) ?_ ?_; rotate_left; (focus ((try simp only [Kr.PT]); first | done | rfl))); clear hK K
  (refine Kr.seqQ (v := ?_) (a' := ?_) (by rfl) ?_ ?_ ?_; rotate_left 2; (focus (go_simp; first | done | rfl)); (focus ((try simp only [Kr.PT]); first | done | rfl)))
  refine Kr.seqDoneW ?_
  go_upto_region 4 with fail
  refine Kr.seqStartW ?_
  (refine Kr.seqQ (v := ?_) (a' := ?_) (by rfl) ?_ ?_ ?_; rotate_left 2; (focus (go_simp; first | done | rfl)); (focus ((try simp only [Kr.PT]); first | done | rfl)))
  refine Kr.seqR (by rfl) (fun K hK => ?_)
  go_simp
  go_at_call 18
  refine (rDecode_v (w := y4) (HS.out.grow H.g) hl hc).mono ?_
  rintro o9 y5 hdec; obtain ⟨u0, u1, u2, u3, eb, rfl, hg, hone, hcs⟩ := hdec
  have hd : DecV y5 (fun b => y4.heap.size ≤ b ∧ b < y5.heap.size) l u0 u1 u2 u3 eb := hcs.imp (fun ⟨h1, t, h2, h3, h4⟩ => ⟨h1, t, h3, h4, h2⟩) id
  obtain ⟨Fb, hF⟩ : ∃ z : Nat → Prop, (fun b => y4.heap.size ≤ b ∧ b < y5.heap.size) = z := ⟨_, rfl⟩; rw [hF] at hd; have HFb : Hid (∀ b, Fb b → b < y5.heap.size) := Lib.hid (fun b hb => by rw [← hF] at hb; exact hb.2)
  have hs2 := hg.size; have HDA2 := Lib.hid (HDa.out.kept (W' := y5) (fun b hb => hg.block b (HZa.out b hb))); have HZ2 : Hid (∀ b, Fa b → b < y5.heap.size) := Lib.hid (fun b hb => Nat.lt_of_lt_of_le (HZa.out b hb) hs2); clear HDa HZa hs2; have HDa := HDA2; have HZa := HZ2; clear HDA2 HZ2
  have HDb := Lib.hid hd; have HONEb := Lib.hid hone; have HZb := HFb; clear hone hcs hd hF HFb
  replace H := H.grow hg
  clear hg
  (refine Kr.outS hK (a' := ?_) ?_ ?_; rotate_left; (focus ((try simp only [Kr.PT]); first | done | rfl))); clear hK K
  (refine Kr.seqQ (v := ?_) (a' := ?_) (by rfl) ?_ ?_ ?_; rotate_left 2; (focus (go_simp; first | done | rfl)); (focus ((try simp only [Kr.PT]); first | done | rfl)))
  (refine Kr.seqQ (v := .agg #[u0, u1, u2, u3]) (a' := ?_) (by rfl) ?_ ?_ ?_; rotate_left 1; (focus (go_simp; first | done | rfl)); (focus ((try simp only [Kr.PT]); first | done | rfl)))
  (refine Kr.seqQ (v := .int .i64 eb) (a' := ?_) (by rfl) ?_ ?_ ?_; rotate_left 1; (focus (go_simp; first | done | rfl)); (focus ((try simp only [Kr.PT]); first | done | rfl)))
  refine Kr.seqR (by rfl) (fun K hK => ?_)
  refine wp_runV rfl newI ?_
  obtain ⟨y6, hy⟩ : ∃ y, y5.alloc (.cells ([.int .i64 0, .int .i64 0, .slice none 0 0, .slice none 0 0]).toArray 25) = y := ⟨_, rfl⟩
  obtain ⟨bj, hb⟩ : ∃ b, y5.heap.size = b := ⟨_, rfl⟩
  rw [hy, hb]
  have hgaa : Gr y5 y6 := hy ▸ (Gr.refl _).alloc _; have HD2a := Lib.hid (HDa.out.kept (W' := y6) (fun z hz => hgaa.block z (HZa.out z hz))); have HNa : Hid (¬ Fa bj) := Lib.hid (fun h => by have h1 := HZa.out _ h; have h2 := hb; omega); have HZ2a : Hid (∀ z, Fa z → z < y6.heap.size) := Lib.hid (fun z hz => Nat.lt_of_lt_of_le (HZa.out z hz) hgaa.size); clear HDa HZa hgaa; have HDa := HD2a; have HZa := HZ2a; clear HD2a HZ2a
  have hgab : Gr y5 y6 := hy ▸ (Gr.refl _).alloc _; have HD2b := Lib.hid (HDb.out.kept (W' := y6) (fun z hz => hgab.block z (HZb.out z hz))); have HNb : Hid (¬ Fb bj) := Lib.hid (fun h => by have h1 := HZb.out _ h; have h2 := hb; omega); have HZ2b : Hid (∀ z, Fb z → z < y6.heap.size) := Lib.hid (fun z hz => Nat.lt_of_lt_of_le (HZb.out z hz) hgab.size); clear HDb HZb hgab; have HDb := HD2b; have HZb := HZ2b; clear HD2b HZ2b
  have hg : Gr y5 y6 := hy ▸ (Gr.refl _).alloc _
  replace H := H.alloc hy hb
  clear hy hb hg
  (refine Kr.outS hK (a' := ?_) ?_ ?_; rotate_left; (focus ((try simp only [Kr.PT]); first | done | rfl))); clear hK K
  refine Kr.seqR (by rfl) (fun K hK => ?_)
  refine wp_run rfl (stI (H.at 0 rfl) HONEb.out) ?_
  have hsz := size_put (W := y6) (b := bj) (cs := ([u0, u1, u2, u3] : List Value).toArray)
  have hka := HDa.out.kept (same_put (W := y6) (b := bj) (cs := ([u0, u1, u2, u3] : List Value).toArray) HNa.out)
  have hkb := HDb.out.kept (same_put (W := y6) (b := bj) (cs := ([u0, u1, u2, u3] : List Value).toArray) HNb.out)
  obtain ⟨y7, hy⟩ : ∃ y, y6.setRow bj ([u0, u1, u2, u3] : List Value).toArray = y := ⟨_, rfl⟩; rw [hy]; rw [hy] at hsz
  rw [hy] at hka; have HZ2a : Hid (∀ z, Fa z → z < y7.heap.size) := Lib.hid (fun z hz => by rw [hsz]; exact HZa.out z hz); clear HDa HZa; have HDa := Lib.hid hka; have HZa := HZ2a; clear hka HZ2a HNa
  rw [hy] at hkb; have HZ2b : Hid (∀ z, Fb z → z < y7.heap.size) := Lib.hid (fun z hz => by rw [hsz]; exact HZb.out z hz); clear HDb HZb; have HDb := Lib.hid hkb; have HZb := HZ2b; clear hkb HZ2b HNb
  clear hsz; replace H := H.put 0 hy rfl; dsimp only [List.set] at H; clear hy
  (refine Kr.outS hK (a' := ?_) ?_ ?_; rotate_left; (focus ((try simp only [Kr.PT]); first | done | rfl))); clear hK K
  (refine Kr.seqQ (v := ?_) (a' := ?_) (by rfl) ?_ ?_ ?_; rotate_left 2; (focus (go_simp; first | done | rfl)); (focus ((try simp only [Kr.PT]); first | done | rfl)))
  refine Kr.seqDoneW ?_
  obtain ⟨hee, tt, hta, htb⟩ := HDa.out.same HDb.out; subst hee; have HTA := Lib.hid hta; have HTB := Lib.hid htb; clear hta htb HDa HDb HZa HZb
  have C6 : decide (ea = ea) = true := decide_eq_true rfl
  go_upto_region 5 with fail
  refine Kr.seqStartW ?_
  (refine Kr.seqQ (v := .agg #[v0, v1, v2, v3]) (a' := ?_) (by rfl) ?_ ?_ ?_; rotate_left 1; (focus (exact Kr.valOf rfl (ldI (H.at 1 rfl)))); (focus ((try simp only [Kr.PT]); first | done | rfl)))
  (refine Kr.seqQ (v := .agg #[u0, u1, u2, u3]) (a' := ?_) (by rfl) ?_ ?_ ?_; rotate_left 1; (focus (exact Kr.valOf rfl (ldI (H.at 0 rfl)))); (focus ((try simp only [Kr.PT]); first | done | rfl)))
  refine Kr.seqR (by rfl) (fun K hK => ?_)
  go_simp
  go_at_call 19
  refine (same_v 9 HTA.out HTB.out).mono ?_
  rintro e y8 ⟨rfl, hg⟩
  replace H := H.grow hg
  clear hg
  (refine Kr.outS hK (a' := ?_) ?_ ?_; rotate_left; (focus ((try simp only [Kr.PT]); first | done | rfl))); clear hK K
  (refine Kr.seqQ (v := ?_) (a' := ?_) (by rfl) ?_ ?_ ?_; rotate_left 2; (focus (go_simp; first | done | rfl)); (focus ((try simp only [Kr.PT]); first | done | rfl)))
  (refine Kr.seqQ (v := ?_) (a' := ?_) (by rfl) ?_ ?_ ?_; rotate_left 2; (focus (go_simp; first | done | rfl)); (focus ((try simp only [Kr.PT]); first | done | rfl)))
  (refine Kr.seqQ (v := ?_) (a' := ?_) (by rfl) ?_ ?_ ?_; rotate_left 2; (focus (go_simp; first | done | rfl)); (focus ((try simp only [Kr.PT]); first | done | rfl)))
  (refine Kr.seqQ (v := .bool true) (a' := ?_) (by rfl) ?_ ?_ ?_; rotate_left 1; (focus (exact Kr.valOf rfl (eqlI C6))); (focus ((try simp only [Kr.PT]); first | done | rfl)))
  (refine Kr.seqQ (v := ?_) (a' := ?_) (by rfl) ?_ ?_ ?_; rotate_left 2; (focus (go_simp; first | done | rfl)); (focus ((try simp only [Kr.PT]); first | done | rfl)))
  (refine Kr.seqQ (v := ?_) (a' := ?_) (by rfl) ?_ ?_ ?_; rotate_left 2; (focus (go_simp; first | done | rfl)); (focus ((try simp only [Kr.PT]); first | done | rfl)))
  refine Kr.seqDoneW ?_
  have hk := trivial
  go_wp2
  refine bodyPost_ret (v := .bool true) (by simp [results, Tryd.results4, go_sem, hk]) rfl ⟨rfl, H.g⟩
end Go.Proofs.YtlollhmheakcfaaDoor.Dg
