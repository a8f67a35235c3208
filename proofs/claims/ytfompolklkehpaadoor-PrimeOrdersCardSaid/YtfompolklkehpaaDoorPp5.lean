/- A part of the proofs, joined of smaller texts: Qx, Qy, Qz, Qba, Qbb, Qbc, Qbd, Qbe, Qe2, Qla, Qlb, Qlc, Qbf, Qbg, Qbh, Qbi, Qlaid, Nlaw. -/
import Derived.Test.YtfompolklkehpaaDoorPp4
import Derived.Deep.Cut
import Derived.Deep.AppendLies
import Derived.Test.YtfompolklkehpaaDoorRows
import Derived.Test.YtfompolklkehpaaDoorPp3
import Derived.ProofKit
import Derived.LaidMore
import Derived.OpenShut
import Derived.Stop.Joined
import Derived.Test.YtfompolklkehpaaDoorPp1
import Derived.WalkKit
import Derived.OpenVars
import Derived.ChangeSlices

/- The closure of isRoot that takes powers. -/
namespace Go.Proofs.YtfompolklkehpaaDoor.Pr
open Go.RowKit Go.Shelf Go.Proofs.YtfompolklkehpaaDoor.Nm Go.Proofs.YtfompolklkehpaaDoor.Ne Go.Proofs.YtfompolklkehpaaDoor.Nf Go.Proofs.YtfompolklkehpaaDoor.Nk Go.Proofs.YtfompolklkehpaaDoor.Nv Go.Proofs.YtfompolklkehpaaDoor.Nr2 Go.Proofs.YtfompolklkehpaaDoor.Mo Go.Proofs.YtfompolklkehpaaDoor.Mr Go.Proofs.YtfompolklkehpaaDoor.Kr

set_option linter.unusedSimpArgs false in
set_option maxRecDepth 100000 in
set_option maxHeartbeats 16000000 in
theorem root2_v {pq pf pr pm ra qa : Option Addr} {nq cq nf cf nr cr nm cm ma da ka ea q f r m bb bc : Nat} {w : World} (hq : Nw w pq nq cq (digs q)) (hf : Nw w pf nf cf (digs f)) (hr : Nw w pr nr cr (digs r)) (hm : Nw w pm nm cm (digs m)) (hq0 : 0 < q) (hqm : q < pw 64) (hfm : f < pw 64) (hrm : r < m) (vm : m < pw 32)
    (cb_ : ∀ W, Gr w W → W.cell? ⟨bb, 0, none⟩ = some (.slice pf nf cf)) (c0 : ∀ W, Gr w W → W.cell? ⟨bc, 0, none⟩ = some (.slice pm nm cm)) (c1 : ∀ W, Gr w W → W.cell? ⟨bc, 1, none⟩ = some (.slice pr nr cr)) :
    Calls Tryd.prog 88 #[.agg #[.slice pq nq cq, .slice ra ma da, .slice qa ka ea], .pointer (some ⟨bb, 0, none⟩), .pointer (some ⟨bc, 0, none⟩)] w fun e w' => e = .returned (.bool (decide (r ^ (f / q) % m = 1))) ∧ Gr w w' := by
  have HQ0 := Lib.hid hq0
  have HQM := Lib.hid hqm
  have HFM := Lib.hid hfm
  have HRM := Lib.hid hrm
  have VM := Lib.hid vm
  have HCB := Lib.hid cb_
  have HC0 := Lib.hid c0
  have HC1 := Lib.hid c1
  clear hq0 hqm hfm hrm vm cb_ c0 c1
  obtain ⟨g, hg0⟩ : ∃ g, f / q = g := ⟨_, rfl⟩
  have HG := Lib.hid hg0; have HGM : Hid (g < pw 64) := Lib.hid (Nat.lt_of_le_of_lt (hg0 ▸ Nat.div_le_self _ _) HFM.out); rw [hg0]; clear hg0
  obtain ⟨t, ht⟩ : ∃ t, decide (r ^ g % m = 1) = t := ⟨_, rfl⟩
  rw [ht]
  have HT := Lib.hid ht; clear ht
  have H := Sta.start w
  replace H := H.num hq
  replace H := H.num hf
  replace H := H.num hr
  replace H := H.num hm
  clear hq hf hr hm
  go_enter Tryd.func88, Tryd.ntmps88
  go_upto_region 0 with fail
  refine Kr.seqStartW ?_
  refine Kr.seqR (by rfl) (fun K hK => ?_)
  go_simp
  obtain ⟨y1, hy⟩ : ∃ y, w.alloc (.cells #[.slice pq nq cq, .slice ra ma da, .slice qa ka ea] 46) = y := ⟨_, rfl⟩
  obtain ⟨bp, hb⟩ : ∃ b, w.heap.size = b := ⟨_, rfl⟩
  rw [hy, hb]
  replace H := Sta_alloc3 H hy hb rfl rfl rfl
  clear hy hb
  (refine Kr.outS hK (a' := ?_) ?_ ?_; rotate_left; (focus ((try simp only [Kr.PT]); first | done | rfl))); clear hK K
  (refine Kr.seqQ (v := ?_) (a' := ?_) (by rfl) ?_ ?_ ?_; rotate_left 2; (focus (go_simp; first | done | rfl)); (focus ((try simp only [Kr.PT]); first | done | rfl)))
  refine Kr.seqDoneW ?_
  go_upto_region 1 with fail
  refine Kr.seqStartW ?_
  have hk := H.c
  simp only [Kr.Cells] at hk
  have hk_before := HCB.out _ H.g
  have hk_c_0 := HC0.out _ H.g
  have hk_c_1 := HC1.out _ H.g
  iterate 3 (refine Kr.seqQ (v := ?_) (a' := ?_) (by rfl) ?_ ?_ ?_; rotate_left 2; (focus (go_simp; first | done | rfl)); (focus ((try simp only [Kr.PT]); first | done | rfl)))
  refine Kr.seqR (by rfl) (fun K hK => ?_)
  go_simp
  go_at_call 89
  have hP := Div_v HQ0.out (H.nw 2 rfl) (H.nw 3 rfl) HFM.out HQM.out
  rw [HG.out] at hP
  refine (hP).mono ?_
  rintro e y2 ⟨p2, q2, n2, c2, m2, d2, rfl, hr, hr2, hg⟩
  clear hk hk_before hk_c_0 hk_c_1
  replace H := H.grow hg
  replace H := H.num hr.toNw
  replace H := H.num hr2.toNw
  clear hr hr2 hg
  clear hP
  (refine Kr.outS hK (a' := ?_) ?_ ?_; rotate_left; (focus ((try simp only [Kr.PT]); first | done | rfl))); clear hK K
  iterate 4 (refine Kr.seqQ (v := ?_) (a' := ?_) (by rfl) ?_ ?_ ?_; rotate_left 2; (focus (go_simp; first | done | rfl)); (focus ((try simp only [Kr.PT]); first | done | rfl)))
  refine Kr.seqR (by rfl) (fun K hK => ?_)
  go_simp
  obtain ⟨y3, hy⟩ : ∃ y, y2.alloc (.cells #[.slice none 0 0] 43) = y := ⟨_, rfl⟩
  obtain ⟨be, hb⟩ : ∃ b, y2.heap.size = b := ⟨_, rfl⟩
  rw [hy, hb]
  replace H := H.alloc hy hb rfl
  clear hy hb
  (refine Kr.outS hK (a' := ?_) ?_ ?_; rotate_left; (focus ((try simp only [Kr.PT]); first | done | rfl))); clear hK K
  refine Kr.seqR (by rfl) (fun K hK => ?_)
  go_simp
  obtain ⟨y4, hy⟩ : ∃ y, y3.alloc (.cells #[.slice none 0 0] 43) = y := ⟨_, rfl⟩
  obtain ⟨bf, hb⟩ : ∃ b, y3.heap.size = b := ⟨_, rfl⟩
  rw [hy, hb]
  replace H := H.alloc hy hb rfl
  clear hy hb
  (refine Kr.outS hK (a' := ?_) ?_ ?_; rotate_left; (focus ((try simp only [Kr.PT]); first | done | rfl))); clear hK K
  have hk := H.c
  simp only [Kr.Cells] at hk
  have hk_before := HCB.out _ H.g
  have hk_c_0 := HC0.out _ H.g
  have hk_c_1 := HC1.out _ H.g
  refine Kr.seqR (by rfl) (fun K hK => ?_)
  go_simp
  clear hk hk_before hk_c_0 hk_c_1
  obtain ⟨y5, hy⟩ : ∃ y, y4.setCell ⟨be, 0, none⟩ (.slice p2 n2 c2) = y := ⟨_, rfl⟩
  rw [hy]
  replace H := H.store 1 hy rfl rfl
  dsimp only [List.set] at H
  clear hy
  (refine Kr.outS hK (a' := ?_) ?_ ?_; rotate_left; (focus ((try simp only [Kr.PT]); first | done | rfl))); clear hK K
  have hk := H.c
  simp only [Kr.Cells] at hk
  have hk_before := HCB.out _ H.g
  have hk_c_0 := HC0.out _ H.g
  have hk_c_1 := HC1.out _ H.g
  refine Kr.seqR (by rfl) (fun K hK => ?_)
  go_simp
  clear hk hk_before hk_c_0 hk_c_1
  obtain ⟨y6, hy⟩ : ∃ y, y5.setCell ⟨bf, 0, none⟩ (.slice q2 m2 d2) = y := ⟨_, rfl⟩
  rw [hy]
  replace H := H.store 0 hy rfl rfl
  dsimp only [List.set] at H
  clear hy
  (refine Kr.outS hK (a' := ?_) ?_ ?_; rotate_left; (focus ((try simp only [Kr.PT]); first | done | rfl))); clear hK K
  (refine Kr.seqQ (v := ?_) (a' := ?_) (by rfl) ?_ ?_ ?_; rotate_left 2; (focus (go_simp; first | done | rfl)); (focus ((try simp only [Kr.PT]); first | done | rfl)))
  refine Kr.seqDoneW ?_
  go_upto_region 2 with fail
  refine Kr.seqStartW ?_
  (refine Kr.seqQ (v := ?_) (a' := ?_) (by rfl) ?_ ?_ ?_; rotate_left 2; (focus (go_simp; first | done | rfl)); (focus ((try simp only [Kr.PT]); first | done | rfl)))
  have hk := H.c
  simp only [Kr.Cells] at hk
  have hk_before := HCB.out _ H.g
  have hk_c_0 := HC0.out _ H.g
  have hk_c_1 := HC1.out _ H.g
  iterate 4 (refine Kr.seqQ (v := ?_) (a' := ?_) (by rfl) ?_ ?_ ?_; rotate_left 2; (focus (go_simp; first | done | rfl)); (focus ((try simp only [Kr.PT]); first | done | rfl)))
  refine Kr.seqR (by rfl) (fun K hK => ?_)
  go_simp
  go_at_call 84
  have hP := isOne_v (H.nw 3 rfl) (H.nw 1 rfl) (H.nw 2 rfl) HRM.out HGM.out VM.out
  rw [HT.out] at hP
  refine (hP).mono ?_
  rintro e y7 ⟨rfl, hg⟩
  clear hk hk_before hk_c_0 hk_c_1
  replace H := H.grow hg
  clear hg
  clear hP
  (refine Kr.outS hK (a' := ?_) ?_ ?_; rotate_left; (focus ((try simp only [Kr.PT]); first | done | rfl))); clear hK K
  (refine Kr.seqQ (v := ?_) (a' := ?_) (by rfl) ?_ ?_ ?_; rotate_left 2; (focus (go_simp; first | done | rfl)); (focus ((try simp only [Kr.PT]); first | done | rfl)))
  refine Kr.seqDoneW ?_
  have hk := H.c
  simp only [Kr.Cells] at hk
  go_wp2
  refine bodyPost_ret (v := .bool t) (by simp [results, Tryd.results88, go_sem, hk]) rfl ⟨rfl, H.g⟩
end Go.Proofs.YtfompolklkehpaaDoor.Pr


/- CompactFunc where nothing goes. -/
namespace Go.Proofs.YtfompolklkehpaaDoor.Pr
open Go.RowKit Go.Shelf Go.Proofs.YtfompolklkehpaaDoor.Nm Go.Proofs.YtfompolklkehpaaDoor.Ne Go.Proofs.YtfompolklkehpaaDoor.Nf Go.Proofs.YtfompolklkehpaaDoor.Nk Go.Proofs.YtfompolklkehpaaDoor.Nv Go.Proofs.YtfompolklkehpaaDoor.Nr2 Go.Proofs.YtfompolklkehpaaDoor.Mo Go.Proofs.YtfompolklkehpaaDoor.Mr Go.Proofs.YtfompolklkehpaaDoor.Kr

set_option linter.unusedSimpArgs false in
set_option maxRecDepth 100000 in
set_option maxHeartbeats 16000000 in
theorem compactFunc_none {k : Nat} {c : Ct} {pp : Option Addr} {cp : Nat} {w : World} (hrow : PartsV w k pp c.ps) (hlen : c.ps.length < 9223372036854775808) (hv : PV c) (hne : ∀ i a b, c.ps[i]? = some a → c.ps[i + 1]? = some b → val b.n ≠ val a.n) :
    Calls Tryd.prog 85 #[.slice pp c.ps.length cp, .func (.func 87) #[] #[]] w fun e w' => e = .returned (.slice pp c.ps.length cp) ∧ Gr w w' := by
  have HROW := Lib.hid hrow; have HV := Lib.hid hv; have HNE := Lib.hid hne; clear hrow hv hne
  obtain ⟨m, hml⟩ : ∃ m, c.ps.length = m := ⟨_, rfl⟩
  rw [hml]
  have HML := Lib.hid hml; have HMB : Hid (m < 9223372036854775808) := Lib.hid (hml ▸ hlen); clear hml hlen
  have H := Sta.start w
  go_enter Tryd.func85, Tryd.ntmps85
  go_upto_region 0 with fail
  refine Kr.seqStartW ?_
  (refine Kr.seqQ (v := ?_) (a' := ?_) (by rfl) ?_ ?_ ?_; rotate_left 2; (focus (go_simp; first | done | rfl)); (focus ((try simp only [Kr.PT]); first | done | rfl)))
  refine Kr.seqDoneW ?_
  by_cases hm2 : m < 2
  · have HC : Hid (decide ((m : Int) < 2) = true) := Lib.hid (decide_eq_true (by omega))
    clear hm2
    go_upto_region 1 with fail
    refine Kr.seqStartW ?_
    iterate 2 (refine Kr.seqQ (v := ?_) (a' := ?_) (by rfl) ?_ ?_ ?_; rotate_left 2; (focus (go_simp; first | done | rfl)); (focus ((try simp only [Kr.PT]); first | done | rfl)))
    (refine Kr.seqQ (v := .bool true) (a' := ?_) (by rfl) ?_ ?_ ?_; rotate_left 1; (focus (exact Kr.valOf rfl (lssT HC.out))); (focus ((try simp only [Kr.PT]); first | done | rfl)))
    refine Kr.seqDoneW ?_
    go_upto_region 2 with fail
    refine Kr.seqStartW ?_
    iterate 2 (refine Kr.seqQ (v := ?_) (a' := ?_) (by rfl) ?_ ?_ ?_; rotate_left 2; (focus (go_simp; first | done | rfl)); (focus ((try simp only [Kr.PT]); first | done | rfl)))
    refine Kr.seqDoneW ?_
    have hk : True := trivial
    go_wp2
    refine bodyPost_ret (v := .slice pp m cp) (by simp [results, Tryd.results85, go_sem, hk]) rfl ⟨rfl, H.g⟩
  · have HC : Hid (decide ((m : Int) < 2) = false) := Lib.hid (decide_eq_false (by omega))
    have HM2 : Hid (2 ≤ m) := Lib.hid (by omega)
    clear hm2
    go_upto_region 1 with fail
    refine Kr.seqStartW ?_
    iterate 2 (refine Kr.seqQ (v := ?_) (a' := ?_) (by rfl) ?_ ?_ ?_; rotate_left 2; (focus (go_simp; first | done | rfl)); (focus ((try simp only [Kr.PT]); first | done | rfl)))
    (refine Kr.seqQ (v := .bool false) (a' := ?_) (by rfl) ?_ ?_ ?_; rotate_left 1; (focus (exact Kr.valOf rfl (lssT HC.out))); (focus ((try simp only [Kr.PT]); first | done | rfl)))
    refine Kr.seqDoneW ?_
    go_upto_region 3 with fail
    refine Kr.seqStartW ?_
    (refine Kr.seqQ (v := ?_) (a' := ?_) (by rfl) ?_ ?_ ?_; rotate_left 2; (focus (go_simp; first | done | rfl)); (focus ((try simp only [Kr.PT]); first | done | rfl)))
    refine Kr.seqDoneW ?_
    have H2 := Lib.hid H
    clear H
    go_wp2_with fail
    go_loopw [5] (fun i wr => ∃ j : Nat, 1 ≤ j ∧ j ≤ m ∧ i = .int .i64 (j : Int) ∧ Hid (Sta w wr [] [])) (fun i _ => m - (intOf i).toNat)
    case atStart => exact ⟨1, Nat.le_refl _, by have := HM2.out; omega, rfl, H2⟩
    case round =>
      clear H2
      obtain ⟨j, hj1, hj, rfl, HH⟩ := hrel
      have H := HH.out; have HJ1 := Lib.hid hj1; clear HH hj1
      by_cases hjn : j = m
      · have HL : Hid (decide ((j : Int) < (m : Int)) = false) := Lib.hid (decide_eq_false (by omega))
        clear hjn
        go_upto_region 4 with fail
        refine Kr.seqStartW ?_
        iterate 3 (refine Kr.seqQ (v := ?_) (a' := ?_) (by rfl) ?_ ?_ ?_; rotate_left 2; (focus (go_simp; first | done | rfl)); (focus ((try simp only [Kr.PT]); first | done | rfl)))
        (refine Kr.seqQ (v := .bool false) (a' := ?_) (by rfl) ?_ ?_ ?_; rotate_left 1; (focus (exact Kr.valOf rfl (lssT HL.out))); (focus ((try simp only [Kr.PT]); first | done | rfl)))
        refine Kr.seqDoneW ?_
        go_upto_region 16 with fail
        refine Kr.seqStartW ?_
        iterate 2 (refine Kr.seqQ (v := ?_) (a' := ?_) (by rfl) ?_ ?_ ?_; rotate_left 2; (focus (go_simp; first | done | rfl)); (focus ((try simp only [Kr.PT]); first | done | rfl)))
        refine Kr.seqDoneW ?_
        have hk : True := trivial
        go_wp2
        refine bodyPost_ret (v := .slice pp m cp) (by simp [results, Tryd.results85, go_sem, hk]) rfl ⟨rfl, H.g⟩
      · have HJ : Hid (j < m) := Lib.hid (by omega)
        have HL : Hid (decide ((j : Int) < (m : Int)) = true) := Lib.hid (decide_eq_true (by omega))
        clear hjn
        obtain ⟨j0, hj0⟩ : ∃ j0, j0 + 1 = j := ⟨j - 1, by have := HJ1.out; omega⟩
        have HJ0 := Lib.hid hj0; clear hj0
        have HS0 : Hid (IntKind.i64.wrap ((j : Int) - 1) = (j0 : Int)) := Lib.hid (wrap_nat (by have := HJ0.out; omega) (by have := HJ.out; have := HMB.out; have := HJ0.out; omega))
        have hl1 : j < c.ps.length := by rw [HML.out]; exact HJ.out
        have hl0 : j0 < c.ps.length := by have := HJ0.out; omega
        obtain ⟨d, hd⟩ : ∃ d, c.ps[j]? = some d := ⟨_, List.getElem?_eq_getElem hl1⟩
        obtain ⟨e, he⟩ : ∃ e, c.ps[j0]? = some e := ⟨_, List.getElem?_eq_getElem hl0⟩
        obtain ⟨⟨b1, off1, qn1, mn1, dn1, qr1, mr1, dr1, qp1, mp1, dp1, hpp1, h01, h11, h21, hnd1, _⟩⟩ := HROW.out j d hd
        obtain ⟨⟨b2, off2, qn2, mn2, dn2, qr2, mr2, dr2, qp2, mp2, dp2, hpp2, h02, h12, h22, hnd2, _⟩⟩ := HROW.out j0 e he
        subst hpp1
        simp only [Option.some.injEq, Addr.mk.injEq, and_true] at hpp2
        obtain ⟨rfl, rfl⟩ := hpp2
        have HVD := Lib.hid (HV.out d (List.mem_of_getElem? hd)); have HVE := Lib.hid (HV.out e (List.mem_of_getElem? he))
        have HXY : Hid (val d.n ≠ val e.n) := Lib.hid (HNE.out j0 e d he (by rw [HJ0.out]; exact hd))
        obtain ⟨x1, hx1⟩ : ∃ x1, val d.n = x1 := ⟨_, rfl⟩
        obtain ⟨x2, hx2⟩ : ∃ x2, val e.n = x2 := ⟨_, rfl⟩
        have q1 := nw_val (hnd1 _ H.g) HVD.out
        have q2 := nw_val (hnd2 _ H.g) HVE.out
        rw [hx1] at q1 HXY
        rw [hx2] at q2 HXY
        replace H := H.num q1.1
        replace H := H.num q2.1
        have HX1 := Lib.hid q1.2; have HX2 := Lib.hid q2.2
        have HRA := Lib.hid (fun W (g : Gr w W) => And.intro (h01 W g) (And.intro (h11 W g) (h21 W g))); have HRB := Lib.hid (fun W (g : Gr w W) => And.intro (h02 W g) (And.intro (h12 W g) (h22 W g)))
        clear q1 q2 hx1 hx2 hd he hl1 hl0 h01 h11 h21 h02 h12 h22 hnd1 hnd2
        go_upto_region 4 with fail
        refine Kr.seqStartW ?_
        iterate 3 (refine Kr.seqQ (v := ?_) (a' := ?_) (by rfl) ?_ ?_ ?_; rotate_left 2; (focus (go_simp; first | done | rfl)); (focus ((try simp only [Kr.PT]); first | done | rfl)))
        (refine Kr.seqQ (v := .bool true) (a' := ?_) (by rfl) ?_ ?_ ?_; rotate_left 1; (focus (exact Kr.valOf rfl (lssT HL.out))); (focus ((try simp only [Kr.PT]); first | done | rfl)))
        refine Kr.seqDoneW ?_
        have ha1 : j < m := HJ.out; have ha2 : (j : Int) < (m : Int) := by omega
        have hb1 : j0 < m := by have := HJ0.out; omega
        have hb2 : (j0 : Int) < (m : Int) := by omega
        go_upto_region 6 with fail
        refine Kr.startL (fun W' => W'.cell? ⟨b1, off1 + j * 3, none⟩ = some (.slice qn1 mn1 dn1) ∧ W'.cell? ⟨b1, off1 + j * 3 + 1, none⟩ = some (.slice qr1 mr1 dr1) ∧ W'.cell? ⟨b1, off1 + j * 3 + 2, none⟩ = some (.slice qp1 mp1 dp1) ∧ W'.cell? ⟨b1, off1 + j0 * 3, none⟩ = some (.slice qn2 mn2 dn2) ∧ W'.cell? ⟨b1, off1 + j0 * 3 + 1, none⟩ = some (.slice qr2 mr2 dr2) ∧ W'.cell? ⟨b1, off1 + j0 * 3 + 2, none⟩ = some (.slice qp2 mp2 dp2) ∧ Kr.Cells W' []) [] (by kernel_rfl) ?_
        have gd : Gr wr wr.drew := (Gr.refl _).drew
        generalize wr.drew = d2 at gd ⊢
        replace H := H.grow gd
        clear gd
        refine have nd6x1_1 : ∀ (Wd1 : World), Sta w Wd1 [] [N qn2 mn2 dn2 (x2), N qn1 mn1 dn1 (x1)] → (?Q6x1_1 : World → Prop) Wd1 := ?pf6x1_1; ?mn6x1_1
        case mn6x1_1 =>
          (refine Kr.tPQ 0 (v := ?_) (a' := ?_) rfl (by kernel_rfl) (fun _ _ _ h => h) (by rfl) (fun _ => ⟨(HRA.out _ H.g).1, (HRA.out _ H.g).2.1, (HRA.out _ H.g).2.2, ⟨(HRB.out _ H.g).1, (HRB.out _ H.g).2.1, (HRB.out _ H.g).2.2, (H.sub [] rfl)⟩⟩) (fun wx => ?_) ?_ ?_; rotate_left 2; (focus (go_simp; first | done | rfl)); (focus ((try simp only [Kr.PT]); first | done | rfl)))
          (refine Kr.tPQ 1 (v := ?_) (a' := ?_) rfl (by kernel_rfl) (fun _ _ _ h => h) (by rfl) (fun _ => ⟨(HRA.out _ H.g).1, (HRA.out _ H.g).2.1, (HRA.out _ H.g).2.2, ⟨(HRB.out _ H.g).1, (HRB.out _ H.g).2.1, (HRB.out _ H.g).2.2, (H.sub [] rfl)⟩⟩) (fun wx => ?_) ?_ ?_; rotate_left 2; (focus (go_simp; first | done | rfl)); (focus ((try simp only [Kr.PT]); first | done | rfl)))
          (refine Kr.tPQ 2 (v := ?_) (a' := ?_) rfl (by kernel_rfl) (fun _ _ _ h => h) (by rfl) (fun _ => ⟨(HRA.out _ H.g).1, (HRA.out _ H.g).2.1, (HRA.out _ H.g).2.2, ⟨(HRB.out _ H.g).1, (HRB.out _ H.g).2.1, (HRB.out _ H.g).2.2, (H.sub [] rfl)⟩⟩) (fun wx => ?_) ?_ ?_; rotate_left 2; (focus (go_simp; first | done | rfl)); (focus ((try simp only [Kr.PT]); first | done | rfl)))
          (refine Kr.tPQ 3 (v := ?_) (a' := ?_) rfl (by kernel_rfl) (fun _ _ _ h => h) (by rfl) (fun _ => ⟨(HRA.out _ H.g).1, (HRA.out _ H.g).2.1, (HRA.out _ H.g).2.2, ⟨(HRB.out _ H.g).1, (HRB.out _ H.g).2.1, (HRB.out _ H.g).2.2, (H.sub [] rfl)⟩⟩) (fun wx => ?_) ?_ ?_; rotate_left 2; (focus (go_simp; first | done | rfl)); (focus ((try simp only [Kr.PT]); first | done | rfl)))
          (refine Kr.tSQ 4 [] (v := ?_) (a' := ?_) rfl (by kernel_rfl) (fun _ _ _ h => h) (by rfl) ⟨(HRA.out _ H.g).1, (HRA.out _ H.g).2.1, (HRA.out _ H.g).2.2, ⟨(HRB.out _ H.g).1, (HRB.out _ H.g).2.1, (HRB.out _ H.g).2.2, (H.sub [] rfl)⟩⟩ (fun wx hSx => ?_) ?_ ?_; rotate_left 2; (focus (simp only [Kr.Cells] at hSx; go_simp; first | done | rfl)); (focus ((try simp only [Kr.PT]); first | done | rfl)))
          (refine Kr.tPQ 5 (v := ?_) (a' := ?_) rfl (by kernel_rfl) (fun _ _ _ h => h) (by rfl) (fun _ => ⟨(HRA.out _ H.g).1, (HRA.out _ H.g).2.1, (HRA.out _ H.g).2.2, ⟨(HRB.out _ H.g).1, (HRB.out _ H.g).2.1, (HRB.out _ H.g).2.2, (H.sub [] rfl)⟩⟩) (fun wx => ?_) ?_ ?_; rotate_left 2; (focus (go_simp; first | done | rfl)); (focus ((try simp only [Kr.PT]); first | done | rfl)))
          (refine Kr.tPQ 6 (v := ?_) (a' := ?_) rfl (by kernel_rfl) (fun _ _ _ h => h) (by rfl) (fun _ => ⟨(HRA.out _ H.g).1, (HRA.out _ H.g).2.1, (HRA.out _ H.g).2.2, ⟨(HRB.out _ H.g).1, (HRB.out _ H.g).2.1, (HRB.out _ H.g).2.2, (H.sub [] rfl)⟩⟩) (fun wx => ?_) ?_ ?_; rotate_left 2; (focus (go_simp; first | done | rfl)); (focus ((try simp only [Kr.PT]); first | done | rfl)))
          (refine Kr.tPQ 7 (v := .int .i64 (j0 : Int)) (a' := ?_) rfl (by kernel_rfl) (fun _ _ _ h => h) (by rfl) (fun _ => ⟨(HRA.out _ H.g).1, (HRA.out _ H.g).2.1, (HRA.out _ H.g).2.2, ⟨(HRB.out _ H.g).1, (HRB.out _ H.g).2.1, (HRB.out _ H.g).2.2, (H.sub [] rfl)⟩⟩) (fun wx => ?_) ?_ ?_; rotate_left 1; (focus (exact Kr.valOf rfl (subI HS0.out))); (focus ((try simp only [Kr.PT]); first | done | rfl)))
          (refine Kr.tPQ 8 (v := ?_) (a' := ?_) rfl (by kernel_rfl) (fun _ _ _ h => h) (by rfl) (fun _ => ⟨(HRA.out _ H.g).1, (HRA.out _ H.g).2.1, (HRA.out _ H.g).2.2, ⟨(HRB.out _ H.g).1, (HRB.out _ H.g).2.1, (HRB.out _ H.g).2.2, (H.sub [] rfl)⟩⟩) (fun wx => ?_) ?_ ?_; rotate_left 2; (focus (go_simp; first | done | rfl)); (focus ((try simp only [Kr.PT]); first | done | rfl)))
          (refine Kr.tSQ 9 [] (v := ?_) (a' := ?_) rfl (by kernel_rfl) (fun _ _ _ h => h) (by rfl) ⟨(HRA.out _ H.g).1, (HRA.out _ H.g).2.1, (HRA.out _ H.g).2.2, ⟨(HRB.out _ H.g).1, (HRB.out _ H.g).2.1, (HRB.out _ H.g).2.2, (H.sub [] rfl)⟩⟩ (fun wx hSx => ?_) ?_ ?_; rotate_left 2; (focus (simp only [Kr.Cells] at hSx; go_simp; first | done | rfl)); (focus ((try simp only [Kr.PT]); first | done | rfl)))
          refine Kr.readyL (rs := [10]) (by kernel_rfl) (by simp) ?_
          refine Kr.AllL.cons rfl (fun K hK => ?_) Kr.AllL.nil
          go_simp
          have hP := root1_v (w := d2) (ra := qr1) (rb := qr2) (qa := qp1) (qb := qp2) (ma := mr1) (da := dr1) (ka := mp1) (ea := dp1) (mb := mr2) (db := dr2) (kb := mp2) (eb := dp2) (H.nw 1 rfl) (H.nw 0 rfl) HX1.out HX2.out
          rw [decide_eq_false HXY.out] at hP
          refine (hP).mono ?_
          rintro e y3 ⟨rfl, hg⟩
          replace H := H.grow hg
          clear hg
          clear hP
          (refine Kr.outL hK (a' := ?_) ?_ (fun _ => ⟨(HRA.out _ H.g).1, (HRA.out _ H.g).2.1, (HRA.out _ H.g).2.2, ⟨(HRB.out _ H.g).1, (HRB.out _ H.g).2.1, (HRB.out _ H.g).2.2, (H.sub [] rfl)⟩⟩) ?_; rotate_left; (focus ((try simp only [Kr.PT]); first | done | rfl))); clear hK K
          refine Kr.relistL (l2 := #[true, true, true, true, true, true, true, true, true, true, true]) (by kernel_rfl) ?_
          exact nd6x1_1 y3 H
        case pf6x1_1 =>
          intro Wd1 H
          refine Kr.doneL (by kernel_rfl) ?_ _
          clear ha1 ha2 hb1 hb2
          have HADD : Hid (IntKind.i64.wrap ((j : Int) + 1) = ((j + 1 : Nat) : Int)) := Lib.hid (wrap_nat (by omega) (by have h1 := HJ.out; have h2 := HMB.out; omega))
          go_upto_region 5 with fail
          refine Kr.seqStartW ?_
          (refine Kr.seqQ (v := ?_) (a' := ?_) (by rfl) ?_ ?_ ?_; rotate_left 2; (focus (go_simp; first | done | rfl)); (focus ((try simp only [Kr.PT]); first | done | rfl)))
          (refine Kr.seqQ (v := .int .i64 ((j + 1 : Nat) : Int)) (a' := ?_) (by rfl) ?_ ?_ ?_; rotate_left 1; (focus (exact Kr.valOf rfl (addI HADD.out))); (focus ((try simp only [Kr.PT]); first | done | rfl)))
          (refine Kr.seqQ (v := ?_) (a' := ?_) (by rfl) ?_ ?_ ?_; rotate_left 2; (focus (go_simp; first | done | rfl)); (focus ((try simp only [Kr.PT]); first | done | rfl)))
          refine Kr.seqDoneW ?_
          go_wp2
          go_roundw
          case rel => exact ⟨j + 1, Nat.succ_pos _, HJ.out, rfl, Lib.hid (H.pick [] rfl)⟩
          case measure => simp [intOf]; have := HJ.out; omega
end Go.Proofs.YtfompolklkehpaaDoor.Pr


/- Parts are cloned. -/
namespace Go.Proofs
open Go.Shelf
shelf_lay_g SlLaysE0.n41 Slgn 41 at Tryd 86 as Tryd.layCloneCert
end Go.Proofs
namespace Go.Proofs.YtfompolklkehpaaDoor.Pr
open Go Go.RowKit Go.Shelf Go.Proofs.YtfompolklkehpaaDoor.Nm Go.Proofs.YtfompolklkehpaaDoor.Ne Go.Proofs.YtfompolklkehpaaDoor.Nf Go.Proofs.YtfompolklkehpaaDoor.Nk Go.Proofs.YtfompolklkehpaaDoor.Nv Go.Proofs.YtfompolklkehpaaDoor.Nr2 Go.Proofs.YtfompolklkehpaaDoor.Kr

noncomputable def infoCert : TypeInfo := (Tryd.prog.info? 46).get (by kernel_rfl)
theorem sizeCert : ∀ w, (Go.sizeOf 46).run Tryd.prog w = .ok 3 w := fun w => Tryd.sizeOf46 w
/-- The cells of a row of parts. -/
def cells3 (w : World) (b off n : Nat) : List Value := (List.range (n * 3)).map fun i => (w.cell? ⟨b, off + i, none⟩).getD undef
theorem cells3_get {w : World} {b off n i : Nat} (h : i < n * 3) : (cells3 w b off n)[i]? = some ((w.cell? ⟨b, off + i, none⟩).getD undef) := by
  unfold cells3
  rw [List.getElem?_map, List.getElem?_range h]; rfl
theorem cells3_at {w : World} {k b off n : Nat} {ps : List Ct} (h : PartsV w k (some ⟨b, off, none⟩) ps) (hn : ps.length = n) {i : Nat} (hi : i < n * 3) : ∃ u, w.cell? ⟨b, off + i, none⟩ = some u ∧ u.oneCell' = true := by
  obtain ⟨j, r, hr, rfl⟩ : ∃ j r, r < 3 ∧ i = j * 3 + r := ⟨i / 3, i % 3, by omega, by omega⟩
  have hj : j < ps.length := by omega
  obtain ⟨⟨b2, off2, qn, mn, dn, qr, mr, dr, qp, mp, dp, e, h0, h1, h2, _⟩⟩ := h j _ (List.getElem?_eq_getElem hj)
  simp only [Option.some.injEq, Addr.mk.injEq, and_true] at e
  obtain ⟨rfl, rfl⟩ := e
  match r, hr with
  | 0, _ => exact ⟨_, h0 w (Gr.refl w), rfl⟩
  | 1, _ => exact ⟨_, by rw [← Nat.add_assoc]; exact h1 w (Gr.refl w), rfl⟩
  | 2, _ => exact ⟨_, by rw [← Nat.add_assoc]; exact h2 w (Gr.refl w), rfl⟩
theorem cloneParts {k n cp : Nat} {pp : Option Addr} {ps : List Ct} {w : World} (h : PartsV w k pp ps) (hn : ps.length = n) (hs : n ≤ 1048576) (hpp : pp = none ∨ ∃ b off, pp = some ⟨b, off, none⟩) :
    Calls Tryd.prog 86 #[.slice pp n cp] w fun e w' => ∃ pp' cp', e = .returned (.slice pp' n cp') ∧ PartsV w' k pp' ps ∧ Gr w w' ∧ (pp' = none ∨ ∃ b off, pp' = some ⟨b, off, none⟩) := by
  rcases hpp with rfl | ⟨b, off, rfl⟩
  · have h0 : ps = [] := by
      cases ps with
      | nil => rfl
      | cons d r =>
        obtain ⟨⟨b, off, qn, mn, dn, qr, mr, dr, qp, mp, dp, e, _⟩⟩ := h 0 d rfl
        cases e
    subst h0
    obtain rfl : n = 0 := hn.symm
    refine (show Calls Tryd.prog 86 #[.slice none 0 cp] w _ from AnyE.slices_Clone_nil Tryd.layCloneCert 0 cp w).mono ?_
    rintro e w' ⟨rfl, rfl⟩
    exact ⟨none, 0, rfl, h, Gr.refl _, .inl rfl⟩
  · have hlen : (cells3 w b off n).length = n * 3 := by simp [cells3]
    refine (show Calls Tryd.prog 86 #[.slice (some ⟨b, off, none⟩) n cp] w _ from AnyE.slices_Clone Tryd.layCloneCert infoCert (.agg #[.slice none 0 0, .slice none 0 0, .slice none 0 0]) 3 72 (by kernel_rfl) (by kernel_rfl) (by kernel_rfl) (by kernel_rfl) rfl (by decide) sizeCert b off n cp (cells3 w b off n) w hlen (by unfold maxLen; omega) (by omega) ?_ ?_).mono ?_
    · intro i u hu
      have hi : i < n * 3 := by rw [← hlen]; exact (List.getElem?_eq_some_iff.1 hu).1
      obtain ⟨x, hx, _⟩ := cells3_at h hn hi
      rw [cells3_get hi, hx] at hu
      rw [hx]
      exact hu
    · intro u hu
      obtain ⟨i, hi, e⟩ := List.getElem_of_mem hu
      have hi2 : i < n * 3 := by rw [← hlen]; exact hi
      obtain ⟨x, hx, ho⟩ := cells3_at h hn hi2
      have h2 := cells3_get (w := w) (b := b) (off := off) hi2
      rw [List.getElem?_eq_getElem hi, hx, e] at h2
      have e3 : u = x := by simpa using h2
      rw [e3]; exact ho
    · rintro e w' ⟨v', rfl, h1, h2, hg⟩
      have hg' : Gr w w' := hg
      rcases h1.2 with ⟨e0, _⟩ | ⟨g, cap, cur, rfl, _, hh, hc1, _, hcs, ht⟩
      · exact absurd e0 h2
      · refine ⟨some ⟨g, 0, none⟩, cap, rfl, fun j d hd => ?_, hg', .inr ⟨g, 0, rfl⟩⟩
        obtain ⟨⟨b2, off2, qn, mn, dn, qr, mr, dr, qp, mp, dp, e, h00, h01, h02, hnd, hcd⟩⟩ := h j d hd
        simp only [Option.some.injEq, Addr.mk.injEq, and_true] at e
        obtain ⟨rfl, rfl⟩ := e
        have hj : j < n := by rw [← hn]; exact (List.getElem?_eq_some_iff.1 hd).1
        have hcell : ∀ i x, i < n * 3 → w.cell? ⟨b, off + i, none⟩ = some x → w'.cell? ⟨g, i, none⟩ = some x := fun i x hi hx => by
          have h3 := cells3_get (w := w) (b := b) (off := off) hi
          rw [hx, ← ht, List.getElem?_take, if_pos hi] at h3
          rw [cell_of_row w' g i cur _ _ hh]
          simpa using h3
        refine ⟨g, 0, qn, mn, dn, qr, mr, dr, qp, mp, dp, rfl, fun W g' => ?_, fun W g' => ?_, fun W g' => ?_, fun W g' => hnd W (hg'.trans g'), fun W g' => hcd W (hg'.trans g')⟩
        · rw [Nat.zero_add]; exact g'.cell (hcell _ _ (by omega) (h00 w (Gr.refl w)))
        · rw [Nat.zero_add]; exact g'.cell (hcell _ _ (by omega) (by rw [← Nat.add_assoc]; exact h01 w (Gr.refl w)))
        · rw [Nat.zero_add]; exact g'.cell (hcell _ _ (by omega) (by rw [← Nat.add_assoc]; exact h02 w (Gr.refl w)))
end Go.Proofs.YtfompolklkehpaaDoor.Pr


/- isRoot where no parts are equal. -/
namespace Go.Proofs.YtfompolklkehpaaDoor.Pr
open Go.RowKit Go.Shelf Go.Proofs.YtfompolklkehpaaDoor.Nm Go.Proofs.YtfompolklkehpaaDoor.Ne Go.Proofs.YtfompolklkehpaaDoor.Nf Go.Proofs.YtfompolklkehpaaDoor.Nk Go.Proofs.YtfompolklkehpaaDoor.Nv Go.Proofs.YtfompolklkehpaaDoor.Nr2 Go.Proofs.YtfompolklkehpaaDoor.Mo Go.Proofs.YtfompolklkehpaaDoor.Mr Go.Proofs.YtfompolklkehpaaDoor.Kr

theorem PartsV.grow {w W : World} {k : Nat} {pp : Option Addr} {ps : List Ct} (h : PartsV w k pp ps) (g : Gr w W) : PartsV W k pp ps := by
  intro j d hd
  obtain ⟨⟨b, off, qn, mn, dn, qr, mr, dr, qp, mp, dp, e, h0, h1, h2, h3, h4⟩⟩ := h j d hd
  exact ⟨b, off, qn, mn, dn, qr, mr, dr, qp, mp, dp, e, fun W g' => h0 W (g.trans g'), fun W g' => h1 W (g.trans g'), fun W g' => h2 W (g.trans g'), fun W g' => h3 W (g.trans g'), fun W g' => h4 W (g.trans g')⟩
/-- What isRoot says. -/
def rootB (c : Ct) (r f m : Nat) : Bool := decide (r ^ f % m = 1) && !(c.ps.any fun d => decide (r ^ (f / val d.n) % m = 1))
theorem root2_any {k : Nat} {d : Ct} {pf pr pm : Option Addr} {nf cf nr cr nm cm f r m bb bc : Nat} {v : Value} {w : World} (hc : CertV w k v d) (hd : decide (valid d.n) = true) (hf : Nw w pf nf cf (digs f)) (hr : Nw w pr nr cr (digs r)) (hm : Nw w pm nm cm (digs m)) (hq0 : 0 < val d.n) (hfm : f < pw 64) (hrm : r < m) (vm : m < pw 32)
    (cb_ : ∀ W, Gr w W → W.cell? ⟨bb, 0, none⟩ = some (.slice pf nf cf)) (c0 : ∀ W, Gr w W → W.cell? ⟨bc, 0, none⟩ = some (.slice pm nm cm)) (c1 : ∀ W, Gr w W → W.cell? ⟨bc, 1, none⟩ = some (.slice pr nr cr)) :
    Calls Tryd.prog 88 #[v, .pointer (some ⟨bb, 0, none⟩), .pointer (some ⟨bc, 0, none⟩)] w fun e w' => e = .returned (.bool (decide (r ^ (f / val d.n) % m = 1))) ∧ Gr w w' := by
  obtain ⟨pn, nn, cn, qr, mr, dr, qp, np, cp, rfl⟩ := hc.shape
  obtain ⟨pn2, nn2, cn2, qr2, mr2, dr2, qp2, cp2, e1, e2, e3, h1, h2⟩ := hc.nw
  simp only [Value.slice.injEq] at e1
  obtain ⟨rfl, rfl, rfl⟩ := e1
  have hq := nw_val h1 hd
  exact root2_v hq.1 hf hr hm hq0 hq.2 hfm hrm vm cb_ c0 c1
set_option linter.unusedSimpArgs false in
set_option maxRecDepth 100000 in
set_option maxHeartbeats 16000000 in
theorem isRoot_none {k : Nat} {c : Ct} {pp : Option Addr} {cp : Nat} {pm : Option Addr} {nm cm : Nat} {pr : Option Addr} {nr cr : Nat} {pf : Option Addr} {nf cf : Nat} {m r f : Nat} {w : World} (hm : Nw w pm nm cm (digs m)) (hr : Nw w pr nr cr (digs r)) (hf : Nw w pf nf cf (digs f)) (hrow : PartsV w k pp c.ps) (hlen : c.ps.length ≤ 1048576) (hpp : pp = none ∨ ∃ b off, pp = some ⟨b, off, none⟩) (hv : PV c) (hq0 : ∀ d ∈ c.ps, 0 < val d.n) (hne : ∀ i a b, c.ps[i]? = some a → c.ps[i + 1]? = some b → val b.n ≠ val a.n) (hrm : r < m) (vm : m < pw 32) (hfm : f < pw 64) :
    Calls Tryd.prog 66 #[.agg #[.slice pm nm cm, .slice pr nr cr, .slice pp c.ps.length cp], .agg #[.slice pf nf cf]] w fun e w' => e = .returned (.bool (rootB c r f m)) ∧ Gr w w' := by
  have HROW := Lib.hid hrow; have HV := Lib.hid hv; have HNE := Lib.hid hne; have HQ0 := Lib.hid hq0; have HRM := Lib.hid hrm; have VM := Lib.hid vm; have HFM := Lib.hid hfm; have HPP := Lib.hid hpp; clear hrow hv hne hq0 hrm vm hfm hpp
  obtain ⟨m0, hml⟩ : ∃ m, c.ps.length = m := ⟨_, rfl⟩
  rw [hml]
  have HML := Lib.hid hml; have HMB : Hid (m0 ≤ 1048576) := Lib.hid (hml ▸ hlen); clear hml hlen
  obtain ⟨B, hB⟩ : ∃ B, rootB c r f m = B := ⟨_, rfl⟩
  rw [hB]
  have HB : Hid (B = (decide (r ^ f % m = 1) && !(c.ps.any fun d => decide (r ^ (f / val d.n) % m = 1)))) := Lib.hid hB.symm; clear hB
  obtain ⟨o, ho⟩ : ∃ o, decide (r ^ f % m = 1) = o := ⟨_, rfl⟩
  obtain ⟨t, ht⟩ : ∃ t, (c.ps.any fun d => decide (r ^ (f / val d.n) % m = 1)) = t := ⟨_, rfl⟩
  have HO := Lib.hid ho; have HT := Lib.hid ht; clear ho ht
  have H := Sta.start w
  replace H := H.num hm
  replace H := H.num hr
  replace H := H.num hf
  go_enter Tryd.func66, Tryd.ntmps66
  go_upto_region 0 with fail
  refine Kr.seqStartW ?_
  refine Kr.seqR (by rfl) (fun K hK => ?_)
  go_simp
  obtain ⟨y1, hy⟩ : ∃ y, w.alloc (.cells #[.slice pm nm cm, .slice pr nr cr, .slice pp m0 cp] 46) = y := ⟨_, rfl⟩
  obtain ⟨bc, hb⟩ : ∃ b, w.heap.size = b := ⟨_, rfl⟩
  rw [hy, hb]
  replace H := Sta_alloc3 H hy hb rfl rfl rfl
  clear hy hb
  (refine Kr.outS hK (a' := ?_) ?_ ?_; rotate_left; (focus ((try simp only [Kr.PT]); first | done | rfl))); clear hK K
  refine Kr.seqR (by rfl) (fun K hK => ?_)
  go_simp
  obtain ⟨y2, hy⟩ : ∃ y, y1.alloc (.cells #[.slice pf nf cf] 43) = y := ⟨_, rfl⟩
  obtain ⟨bb, hb⟩ : ∃ b, y1.heap.size = b := ⟨_, rfl⟩
  rw [hy, hb]
  replace H := H.alloc hy hb rfl
  clear hy hb
  (refine Kr.outS hK (a' := ?_) ?_ ?_; rotate_left; (focus ((try simp only [Kr.PT]); first | done | rfl))); clear hK K
  (refine Kr.seqQ (v := ?_) (a' := ?_) (by rfl) ?_ ?_ ?_; rotate_left 2; (focus (go_simp; first | done | rfl)); (focus ((try simp only [Kr.PT]); first | done | rfl)))
  refine Kr.seqDoneW ?_
  go_upto_region 1 with fail
  refine Kr.seqStartW ?_
  (refine Kr.seqQ (v := ?_) (a' := ?_) (by rfl) ?_ ?_ ?_; rotate_left 2; (focus (go_simp; first | done | rfl)); (focus ((try simp only [Kr.PT]); first | done | rfl)))
  have hk := H.c
  simp only [Kr.Cells] at hk
  iterate 4 (refine Kr.seqQ (v := ?_) (a' := ?_) (by rfl) ?_ ?_ ?_; rotate_left 2; (focus (go_simp; first | done | rfl)); (focus ((try simp only [Kr.PT]); first | done | rfl)))
  refine Kr.seqR (by rfl) (fun K hK => ?_)
  go_simp
  go_at_call 84
  have hP := isOne_v (H.nw 1 rfl) (H.nw 0 rfl) (H.nw 2 rfl) HRM.out HFM.out VM.out
  rw [HO.out] at hP
  refine (hP).mono ?_
  rintro e y3 ⟨rfl, hg⟩
  clear hk
  replace H := H.grow hg
  clear hg
  clear hP
  (refine Kr.outS hK (a' := ?_) ?_ ?_; rotate_left; (focus ((try simp only [Kr.PT]); first | done | rfl))); clear hK K
  (refine Kr.seqQ (v := ?_) (a' := ?_) (by rfl) ?_ ?_ ?_; rotate_left 2; (focus (go_simp; first | done | rfl)); (focus ((try simp only [Kr.PT]); first | done | rfl)))
  refine Kr.seqDoneW ?_
  cases o
  · obtain rfl : B = false := by rw [HB.out, HO.out]; rfl
    go_upto_region 2 with fail
    refine Kr.seqStartW ?_
    (refine Kr.seqQ (v := ?_) (a' := ?_) (by rfl) ?_ ?_ ?_; rotate_left 2; (focus (go_simp; first | done | rfl)); (focus ((try simp only [Kr.PT]); first | done | rfl)))
    refine Kr.seqDoneW ?_
    have hk := H.c
    simp only [Kr.Cells] at hk
    go_wp2
    refine bodyPost_ret (v := .bool false) (by simp [results, Tryd.results66, go_sem, hk]) rfl ⟨rfl, H.g⟩
  · have HBT : Hid ((!t) = B) := Lib.hid (by rw [HB.out, HO.out, HT.out]; rfl)
    clear HB
    go_upto_region 3 with fail
    refine Kr.seqStartW ?_
    (refine Kr.seqQ (v := ?_) (a' := ?_) (by rfl) ?_ ?_ ?_; rotate_left 2; (focus (go_simp; first | done | rfl)); (focus ((try simp only [Kr.PT]); first | done | rfl)))
    have hk := H.c
    simp only [Kr.Cells] at hk
    (refine Kr.seqQ (v := ?_) (a' := ?_) (by rfl) ?_ ?_ ?_; rotate_left 2; (focus (go_simp; first | done | rfl)); (focus ((try simp only [Kr.PT]); first | done | rfl)))
    refine Kr.seqR (by rfl) (fun K hK => ?_)
    go_simp
    go_at_call 86
    refine (cloneParts (HROW.out.grow H.g) HML.out HMB.out HPP.out).mono ?_
    rintro e y4 ⟨pq, cq, rfl, hpv, hg, _⟩
    have HPV := Lib.hid hpv; clear hpv
    clear hk
    replace H := H.grow hg
    clear hg
    (refine Kr.outS hK (a' := ?_) ?_ ?_; rotate_left; (focus ((try simp only [Kr.PT]); first | done | rfl))); clear hK K
    refine Kr.seqR (by rfl) (fun K hK => ?_)
    go_simp
    go_at_call 85
    have hP := compactFunc_none (cp := cq) HPV.out (by rw [HML.out]; have := HMB.out; omega) HV.out HNE.out
    rw [HML.out] at hP
    refine hP.mono ?_
    rintro e y5 ⟨rfl, hg⟩
    replace HPV := Lib.hid (HPV.out.grow hg)
    replace H := H.grow hg
    clear hg hP
    (refine Kr.outS hK (a' := ?_) ?_ ?_; rotate_left; (focus ((try simp only [Kr.PT]); first | done | rfl))); clear hK K
    (refine Kr.seqQ (v := ?_) (a' := ?_) (by rfl) ?_ ?_ ?_; rotate_left 2; (focus (go_simp; first | done | rfl)); (focus ((try simp only [Kr.PT]); first | done | rfl)))
    refine Kr.seqDoneW ?_
    cases t
    · obtain rfl : true = B := HBT.out
      go_upto_region 4 with fail
      refine Kr.seqStartW ?_
      iterate 2 (refine Kr.seqQ (v := ?_) (a' := ?_) (by rfl) ?_ ?_ ?_; rotate_left 2; (focus (go_simp; first | done | rfl)); (focus ((try simp only [Kr.PT]); first | done | rfl)))
      refine Kr.seqR (by rfl) (fun K hK => ?_)
      go_simp
      go_at_call 39
      have hP := cfc_root2 ⟨bb, 0, none⟩ ⟨bc, 0, none⟩ (fun d => decide (r ^ (f / val d.n) % m = 1)) k m0 cq pq c.ps HML.out (by have := HMB.out; omega) y5 HPV.out (fun d hd W v g hc => root2_any hc (HV.out d hd) (Nw.grow (H.nw 0 rfl) g) (Nw.grow (H.nw 1 rfl) g) (Nw.grow (H.nw 2 rfl) g) (HQ0.out d hd) HFM.out HRM.out VM.out (fun W1 g1 => (((H.grow g).grow g1).c.get 0 rfl).1) (fun W1 g1 => (((H.grow g).grow g1).c.get 1 rfl).1) (fun W1 g1 => (((H.grow g).grow g1).c.get 2 rfl).1))
      rw [HT.out] at hP
      refine (hP).mono ?_
      rintro e y6 ⟨rfl, hg⟩
      replace H := H.grow hg
      clear hg
      clear hP
      (refine Kr.outS hK (a' := ?_) ?_ ?_; rotate_left; (focus ((try simp only [Kr.PT]); first | done | rfl))); clear hK K
      iterate 2 (refine Kr.seqQ (v := ?_) (a' := ?_) (by rfl) ?_ ?_ ?_; rotate_left 2; (focus (go_simp; first | done | rfl)); (focus ((try simp only [Kr.PT]); first | done | rfl)))
      refine Kr.seqDoneW ?_
      have hk := H.c
      simp only [Kr.Cells] at hk
      go_wp2
      refine bodyPost_ret (v := .bool true) (by simp [results, Tryd.results66, go_sem, hk]) rfl ⟨rfl, H.g⟩
    · obtain rfl : false = B := HBT.out
      go_upto_region 4 with fail
      refine Kr.seqStartW ?_
      iterate 2 (refine Kr.seqQ (v := ?_) (a' := ?_) (by rfl) ?_ ?_ ?_; rotate_left 2; (focus (go_simp; first | done | rfl)); (focus ((try simp only [Kr.PT]); first | done | rfl)))
      refine Kr.seqR (by rfl) (fun K hK => ?_)
      go_simp
      go_at_call 39
      have hP := cfc_root2 ⟨bb, 0, none⟩ ⟨bc, 0, none⟩ (fun d => decide (r ^ (f / val d.n) % m = 1)) k m0 cq pq c.ps HML.out (by have := HMB.out; omega) y5 HPV.out (fun d hd W v g hc => root2_any hc (HV.out d hd) (Nw.grow (H.nw 0 rfl) g) (Nw.grow (H.nw 1 rfl) g) (Nw.grow (H.nw 2 rfl) g) (HQ0.out d hd) HFM.out HRM.out VM.out (fun W1 g1 => (((H.grow g).grow g1).c.get 0 rfl).1) (fun W1 g1 => (((H.grow g).grow g1).c.get 1 rfl).1) (fun W1 g1 => (((H.grow g).grow g1).c.get 2 rfl).1))
      rw [HT.out] at hP
      refine (hP).mono ?_
      rintro e y7 ⟨rfl, hg⟩
      replace H := H.grow hg
      clear hg
      clear hP
      (refine Kr.outS hK (a' := ?_) ?_ ?_; rotate_left; (focus ((try simp only [Kr.PT]); first | done | rfl))); clear hK K
      iterate 2 (refine Kr.seqQ (v := ?_) (a' := ?_) (by rfl) ?_ ?_ ?_; rotate_left 2; (focus (go_simp; first | done | rfl)); (focus ((try simp only [Kr.PT]); first | done | rfl)))
      refine Kr.seqDoneW ?_
      have hk := H.c
      simp only [Kr.Cells] at hk
      go_wp2
      refine bodyPost_ret (v := .bool false) (by simp [results, Tryd.results66, go_sem, hk]) rfl ⟨rfl, H.g⟩
end Go.Proofs.YtfompolklkehpaaDoor.Pr


/- isRight where no parts are equal. -/
namespace Go.Proofs.YtfompolklkehpaaDoor.Pr
open Go.RowKit Go.Shelf Go.Proofs.YtfompolklkehpaaDoor.Nm Go.Proofs.YtfompolklkehpaaDoor.Ne Go.Proofs.YtfompolklkehpaaDoor.Nf Go.Proofs.YtfompolklkehpaaDoor.Nk Go.Proofs.YtfompolklkehpaaDoor.Nv Go.Proofs.YtfompolklkehpaaDoor.Nr2 Go.Proofs.YtfompolklkehpaaDoor.Mo Go.Proofs.YtfompolklkehpaaDoor.Mr Go.Proofs.YtfompolklkehpaaDoor.Kr

/-- Whether a certificate is right, to a depth. -/
def rightB : Nat → Ct → Bool
  | 0, _ => false
  | k + 1, c => inR c.n c.r && prodB c (val c.n - 1) && !(c.ps.any fun d => !rightB k d) && rootB c (val c.r) (val c.n - 1) (val c.n)
/-- No neighbours have equal numbers, all numbers are valid: to a depth. -/
def Good : Nat → Ct → Prop
  | 0, _ => True
  | k + 1, c => PV c ∧ c.ps.length ≤ 1048576 ∧ (∀ (i : Nat) (a b : Ct), c.ps[i]? = some a → c.ps[i + 1]? = some b → val b.n ≠ val a.n) ∧ ∀ d ∈ c.ps, Good k d
theorem inR_math {ln lr : List Nat} (ho : ok ln) (h : inR ln lr = true) : decide (valid ln) = true ∧ decide (valid lr) = true ∧ 2 ≤ val ln ∧ val ln < pw 32 ∧ val lr < val ln := by
  unfold inR at h
  simp only [Bool.and_eq_true, decide_eq_true_eq] at h
  obtain ⟨⟨⟨h1, h2⟩, h3⟩, h4⟩ := h
  have v1 := nbw_valid (show 0 < nbw ln by omega)
  have v2 := nbw_valid h3
  have e1 : nbw ln = nb (val ln) := by
    obtain ⟨hv1, hv2⟩ := of_decide_eq_true v1
    unfold nbw nb
    rw [if_pos v1, digs_val ho hv2]
  rw [e1] at h1 h2
  refine ⟨v1, v2, ?_, ?_, h4⟩
  · rcases Nat.lt_or_ge (val ln) 2 with h | h
    · have := (nb_le (val ln) 1).2 h
      omega
    · exact h
  · obtain ⟨K, hK⟩ : ∃ K, K = 32 := ⟨_, rfl⟩
    have := (nb_le (val ln) (32 * K)).1 (by omega)
    rw [← hK, pw_eq]
    exact this
theorem parts_pos {c : Ct} {x : Nat} (h : prodB c x = true) (hx : 0 < x) : ∀ d ∈ c.ps, 0 < val d.n := by
  intro d hd
  unfold prodB at h
  simp only [Bool.and_eq_true, decide_eq_true_eq] at h
  have h1 : val d.n ∣ lp (nums c) := lp_dvd (List.mem_map.2 ⟨d, hd, rfl⟩)
  rw [h.2] at h1
  exact Nat.pos_of_dvd_of_pos h1 hx
set_option linter.unusedSimpArgs false in
set_option maxRecDepth 100000 in
set_option maxHeartbeats 16000000 in
theorem isWrong_v {k : Nat} {d : Ct} {v : Value} {w : World} (hc : CertV w k v d) (IH : ∀ W v, CertV W k v d → Calls Tryd.prog 41 #[v] W fun e w' => e = .returned (.bool (rightB k d)) ∧ Gr W w') :
    Calls Tryd.prog 65 #[v] w fun e w' => e = .returned (.bool (!rightB k d)) ∧ Gr w w' := by
  obtain ⟨pn, nn, cn, pr, nr, cr, pp, np, cp, rfl⟩ := hc.shape
  have HC := Lib.hid hc; have HI := Lib.hid IH; clear hc IH
  obtain ⟨b, hb⟩ : ∃ b, rightB k d = b := ⟨_, rfl⟩
  rw [hb]
  have HB := Lib.hid hb; clear hb
  have H := Sta.start w
  go_enter Tryd.func65, Tryd.ntmps65
  go_upto_region 0 with fail
  refine Kr.seqStartW ?_
  refine Kr.seqR (by rfl) (fun K hK => ?_)
  go_simp
  obtain ⟨y1, hy⟩ : ∃ y, w.alloc (.cells #[.slice pn nn cn, .slice pr nr cr, .slice pp np cp] 46) = y := ⟨_, rfl⟩
  obtain ⟨bc, hb⟩ : ∃ b, w.heap.size = b := ⟨_, rfl⟩
  rw [hy, hb]
  replace H := Sta_alloc3 H hy hb rfl rfl rfl
  clear hy hb
  (refine Kr.outS hK (a' := ?_) ?_ ?_; rotate_left; (focus ((try simp only [Kr.PT]); first | done | rfl))); clear hK K
  (refine Kr.seqQ (v := ?_) (a' := ?_) (by rfl) ?_ ?_ ?_; rotate_left 2; (focus (go_simp; first | done | rfl)); (focus ((try simp only [Kr.PT]); first | done | rfl)))
  refine Kr.seqDoneW ?_
  go_upto_region 1 with fail
  refine Kr.seqStartW ?_
  have hk := H.c
  simp only [Kr.Cells] at hk
  (refine Kr.seqQ (v := ?_) (a' := ?_) (by rfl) ?_ ?_ ?_; rotate_left 2; (focus (go_simp; first | done | rfl)); (focus ((try simp only [Kr.PT]); first | done | rfl)))
  refine Kr.seqR (by rfl) (fun K hK => ?_)
  go_simp
  go_at_call 41
  have hP := HI.out y1 _ (HC.out.grow H.g)
  rw [HB.out] at hP
  refine (hP).mono ?_
  rintro e y2 ⟨rfl, hg⟩
  clear hk
  replace H := H.grow hg
  clear hg
  clear hP
  (refine Kr.outS hK (a' := ?_) ?_ ?_; rotate_left; (focus ((try simp only [Kr.PT]); first | done | rfl))); clear hK K
  iterate 2 (refine Kr.seqQ (v := ?_) (a' := ?_) (by rfl) ?_ ?_ ?_; rotate_left 2; (focus (go_simp; first | done | rfl)); (focus ((try simp only [Kr.PT]); first | done | rfl)))
  refine Kr.seqDoneW ?_
  have hk := H.c
  simp only [Kr.Cells] at hk
  go_wp2
  refine bodyPost_ret (v := .bool (!b)) (by simp [results, Tryd.results65, go_sem, hk]) rfl ⟨rfl, H.g⟩
set_option linter.unusedSimpArgs false in
set_option maxRecDepth 100000 in
set_option maxHeartbeats 16000000 in
theorem isRight_step {k : Nat} {c : Ct} {v : Value} {w : World} (IH : ∀ (W : World) (v : Value) (d : Ct), CertV W k v d → Good k d → Calls Tryd.prog 41 #[v] W fun e w' => e = .returned (.bool (rightB k d)) ∧ Gr W w') (hc : CertV w (k + 1) v c) (hg : Good (k + 1) c) :
    Calls Tryd.prog 41 #[v] w fun e w' => e = .returned (.bool (rightB (k + 1) c)) ∧ Gr w w' := by
  obtain ⟨pn, nn, cn, pr, nr, cr, pp, cp, rfl, hn, hr, hsz, hpp, hrow⟩ := hc
  have HROW := Lib.hid (parts_of hrow); have HPP := Lib.hid hpp; have HI := Lib.hid IH; have HPV := Lib.hid hg.1; have HLEN := Lib.hid hg.2.1; have HNE := Lib.hid hg.2.2.1; have HGD := Lib.hid hg.2.2.2; clear hrow hpp IH hg hsz
  obtain ⟨m0, hml⟩ : ∃ m, c.ps.length = m := ⟨_, rfl⟩
  rw [hml]
  have HML := Lib.hid hml; have HMB : Hid (m0 ≤ 1048576) := Lib.hid (hml ▸ HLEN.out); clear hml HLEN
  obtain ⟨B, hB⟩ : ∃ B, rightB (k + 1) c = B := ⟨_, rfl⟩
  rw [hB]
  have HB : Hid (B = (inR c.n c.r && prodB c (val c.n - 1) && !(c.ps.any fun d => !rightB k d) && rootB c (val c.r) (val c.n - 1) (val c.n))) := Lib.hid hB.symm; clear hB
  obtain ⟨o, ho⟩ : ∃ o, inR c.n c.r = o := ⟨_, rfl⟩
  have HO := Lib.hid ho; clear ho
  have H := Sta.start w
  replace H := H.add (keepWs _ _ _ _) hn
  replace H := H.add (keepWs _ _ _ _) hr
  clear hn hr
  go_enter Tryd.func41, Tryd.ntmps41
  go_upto_region 0 with fail
  refine Kr.seqStartW ?_
  refine Kr.seqR (by rfl) (fun K hK => ?_)
  go_simp
  obtain ⟨y1, hy⟩ : ∃ y, w.alloc (.cells #[.slice pn nn cn, .slice pr nr cr, .slice pp m0 cp] 46) = y := ⟨_, rfl⟩
  obtain ⟨bc, hb⟩ : ∃ b, w.heap.size = b := ⟨_, rfl⟩
  rw [hy, hb]
  replace H := Sta_alloc3 H hy hb rfl rfl rfl
  clear hy hb
  (refine Kr.outS hK (a' := ?_) ?_ ?_; rotate_left; (focus ((try simp only [Kr.PT]); first | done | rfl))); clear hK K
  (refine Kr.seqQ (v := ?_) (a' := ?_) (by rfl) ?_ ?_ ?_; rotate_left 2; (focus (go_simp; first | done | rfl)); (focus ((try simp only [Kr.PT]); first | done | rfl)))
  refine Kr.seqDoneW ?_
  go_upto_region 1 with fail
  refine Kr.seqStartW ?_
  have hk := H.c
  simp only [Kr.Cells] at hk
  (refine Kr.seqQ (v := ?_) (a' := ?_) (by rfl) ?_ ?_ ?_; rotate_left 2; (focus (go_simp; first | done | rfl)); (focus ((try simp only [Kr.PT]); first | done | rfl)))
  refine Kr.seqR (by rfl) (fun K hK => ?_)
  go_simp
  go_at_call 62
  have hP := inRange_v (pp := pp) (np := m0) (cp := cp) (H.ws 1 rfl) (H.ws 0 rfl)
  rw [HO.out] at hP
  refine (hP).mono ?_
  rintro e y2 ⟨rfl, hg⟩
  clear hk
  replace H := H.grow hg
  clear hg
  clear hP
  (refine Kr.outS hK (a' := ?_) ?_ ?_; rotate_left; (focus ((try simp only [Kr.PT]); first | done | rfl))); clear hK K
  (refine Kr.seqQ (v := ?_) (a' := ?_) (by rfl) ?_ ?_ ?_; rotate_left 2; (focus (go_simp; first | done | rfl)); (focus ((try simp only [Kr.PT]); first | done | rfl)))
  refine Kr.seqDoneW ?_
  cases o
  · obtain rfl : B = false := by rw [HB.out, HO.out]; rfl
    go_upto_region 2 with fail
    refine Kr.seqStartW ?_
    (refine Kr.seqQ (v := ?_) (a' := ?_) (by rfl) ?_ ?_ ?_; rotate_left 2; (focus (go_simp; first | done | rfl)); (focus ((try simp only [Kr.PT]); first | done | rfl)))
    refine Kr.seqDoneW ?_
    have hk := H.c
    simp only [Kr.Cells] at hk
    go_wp2
    refine bodyPost_ret (v := .bool false) (by simp [results, Tryd.results41, go_sem, hk]) rfl ⟨rfl, H.g⟩
  · have HM := inR_math (H.ws 1 rfl).ok HO.out
    have qn := nw_val (H.ws 1 rfl) HM.1
    have qr := nw_val (H.ws 0 rfl) HM.2.1
    have HR1 : Hid (B = (prodB c (val c.n - 1) && !(c.ps.any fun d => !rightB k d) && rootB c (val c.r) (val c.n - 1) (val c.n))) := Lib.hid (by rw [HB.out, HO.out, Bool.true_and])
    clear HB
    obtain ⟨x, hx⟩ : ∃ x, val c.n = x := ⟨_, rfl⟩
    obtain ⟨r, hrr⟩ : ∃ r, val c.r = r := ⟨_, rfl⟩
    rw [hx] at qn HM HR1
    rw [hrr] at qr HM HR1
    replace H := H.num qn.1
    replace H := H.num qr.1
    have HX2 := Lib.hid HM.2.2.1; have HXM := Lib.hid HM.2.2.2.1; have HRX := Lib.hid HM.2.2.2.2; have HX64 := Lib.hid qn.2; clear qn qr HM hx hrr
    obtain ⟨f, hf⟩ : ∃ f, x - 1 = f := ⟨_, rfl⟩
    rw [hf] at HR1
    have HF := Lib.hid hf; have HF0 : Hid (0 < f) := Lib.hid (by have := HX2.out; omega); have HF64 : Hid (f < pw 64) := Lib.hid (Nat.lt_of_le_of_lt (by omega) HX64.out); clear hf
    go_upto_region 3 with fail
    refine Kr.startL (fun W' => Kr.Cells W' [(bc, 0, .slice pn nn cn)]) [] (by kernel_rfl) ?_
    have gd : Gr y2 y2.drew := (Gr.refl _).drew
    generalize y2.drew = d4 at gd ⊢
    replace H := H.grow gd
    clear gd
    refine have nd3x3_6 : ∀ (Wd6 : World) (bb : Nat) (p5 : Option Addr) (n5 : Nat) (c5 : Nat) (p7 : Option Addr) (n7 : Nat) (c7 : Nat), Sta w Wd6 [(bb, 0, .slice p7 n7 c7), (bc, 0, .slice pn nn cn), (bc, 1, .slice pr nr cr), (bc, 2, .slice pp m0 cp)] [N p7 n7 c7 (f), N p5 n5 c5 (1), N pr nr cr (r), N pn nn cn (x), Ws pr nr cr c.r, Ws pn nn cn c.n] → (?Q3x3_6 : World → Nat → Option Addr → Nat → Nat → Option Addr → Nat → Nat → Prop) Wd6 bb p5 n5 c5 p7 n7 c7 := ?pf3x3_6; ?mn3x3_6
    case' mn3x3_6 => refine have nd3x3_5 : ∀ (Wd5 : World) (bb : Nat) (p5 : Option Addr) (n5 : Nat) (c5 : Nat) (p7 : Option Addr) (n7 : Nat) (c7 : Nat), Sta w Wd5 [(bb, 0, .slice none 0 0), (bc, 0, .slice pn nn cn), (bc, 1, .slice pr nr cr), (bc, 2, .slice pp m0 cp)] [N p7 n7 c7 (f), N p5 n5 c5 (1), N pr nr cr (r), N pn nn cn (x), Ws pr nr cr c.r, Ws pn nn cn c.n] → (?Q3x3_5 : World → Nat → Option Addr → Nat → Nat → Option Addr → Nat → Nat → Prop) Wd5 bb p5 n5 c5 p7 n7 c7 := ?pf3x3_5; ?mn3x3_5
    case' mn3x3_5 => refine have nd3x3_4 : ∀ (Wd4 : World) (bb : Nat) (p5 : Option Addr) (n5 : Nat) (c5 : Nat), Sta w Wd4 [(bb, 0, .slice none 0 0), (bc, 0, .slice pn nn cn), (bc, 1, .slice pr nr cr), (bc, 2, .slice pp m0 cp)] [N p5 n5 c5 (1), N pr nr cr (r), N pn nn cn (x), Ws pr nr cr c.r, Ws pn nn cn c.n] → (?Q3x3_4 : World → Nat → Option Addr → Nat → Nat → Prop) Wd4 bb p5 n5 c5 := ?pf3x3_4; ?mn3x3_4
    case' mn3x3_4 => refine have nd3x3_3 : ∀ (Wd3 : World) (p5 : Option Addr) (n5 : Nat) (c5 : Nat) (p7 : Option Addr) (n7 : Nat) (c7 : Nat), Sta w Wd3 [(bc, 0, .slice pn nn cn), (bc, 1, .slice pr nr cr), (bc, 2, .slice pp m0 cp)] [N p7 n7 c7 (f), N p5 n5 c5 (1), N pr nr cr (r), N pn nn cn (x), Ws pr nr cr c.r, Ws pn nn cn c.n] → (?Q3x3_3 : World → Option Addr → Nat → Nat → Option Addr → Nat → Nat → Prop) Wd3 p5 n5 c5 p7 n7 c7 := ?pf3x3_3; ?mn3x3_3
    case' mn3x3_3 => refine have nd3x3_2 : ∀ (Wd2 : World) (bb : Nat), Sta w Wd2 [(bb, 0, .slice none 0 0), (bc, 0, .slice pn nn cn), (bc, 1, .slice pr nr cr), (bc, 2, .slice pp m0 cp)] [N pr nr cr (r), N pn nn cn (x), Ws pr nr cr c.r, Ws pn nn cn c.n] → (?Q3x3_2 : World → Nat → Prop) Wd2 bb := ?pf3x3_2; ?mn3x3_2
    case' mn3x3_2 => refine have nd3x3_1 : ∀ (Wd1 : World) (p5 : Option Addr) (n5 : Nat) (c5 : Nat), Sta w Wd1 [(bc, 0, .slice pn nn cn), (bc, 1, .slice pr nr cr), (bc, 2, .slice pp m0 cp)] [N p5 n5 c5 (1), N pr nr cr (r), N pn nn cn (x), Ws pr nr cr c.r, Ws pn nn cn c.n] → (?Q3x3_1 : World → Option Addr → Nat → Nat → Prop) Wd1 p5 n5 c5 := ?pf3x3_1; ?mn3x3_1
    case mn3x3_1 =>
      (refine Kr.tPQ 0 (v := ?_) (a' := ?_) rfl (by kernel_rfl) (fun _ _ _ h => h) (by rfl) (fun _ => (H.sub [0] rfl)) (fun wx => ?_) ?_ ?_; rotate_left 2; (focus (go_simp; first | done | rfl)); (focus ((try simp only [Kr.PT]); first | done | rfl)))
      (refine Kr.tSQ 1 [] (v := ?_) (a' := ?_) rfl (by kernel_rfl) (fun _ _ _ h => h) (by rfl) (H.sub [0] rfl) (fun wx hSx => ?_) ?_ ?_; rotate_left 2; (focus (simp only [Kr.Cells] at hSx; go_simp; first | done | rfl)); (focus ((try simp only [Kr.PT]); first | done | rfl)))
      refine Kr.readyL (rs := [2, 7]) (by kernel_rfl) (by simp) ?_
      refine Kr.AllL.cons rfl (fun K hK => ?_) ?_
      · go_simp
        go_at_call 47
        refine (of_v (x := 1) (by decide)).mono ?_
        rintro e y5 ⟨p5, n5, c5, rfl, hr, hg⟩
        replace H := H.grow hg
        replace H := H.num hr
        clear hr hg
        (refine Kr.outL hK (a' := ?_) ?_ (fun _ => (H.sub [0] rfl)) ?_; rotate_left; (focus ((try simp only [Kr.PT]); first | done | rfl))); clear hK K
        refine Kr.relistL (l2 := #[true, true, true, false, false, false, false, false, false, false]) (by kernel_rfl) ?_
        exact nd3x3_1 y5 p5 n5 c5 H
      refine Kr.AllL.cons rfl (fun K hK => ?_) Kr.AllL.nil
      go_simp
      obtain ⟨y6, hy⟩ : ∃ y, d4.alloc (.cells #[.slice none 0 0] 43) = y := ⟨_, rfl⟩
      obtain ⟨bb, hb⟩ : ∃ b, d4.heap.size = b := ⟨_, rfl⟩
      rw [hy, hb]
      replace H := H.alloc hy hb rfl
      clear hy hb
      (refine Kr.outL hK (a' := ?_) ?_ (fun _ => (H.sub [1] rfl)) ?_; rotate_left; (focus ((try simp only [Kr.PT]); first | done | rfl))); clear hK K
      refine Kr.relistL (l2 := #[true, true, false, false, false, false, false, true, false, false]) (by kernel_rfl) ?_
      exact nd3x3_2 y6 bb H
    case pf3x3_1 =>
      intro Wd1 p5 n5 c5 H
      refine Kr.readyL (rs := [3, 7]) (by kernel_rfl) (by simp) ?_
      refine Kr.AllL.cons rfl (fun K hK => ?_) ?_
      · go_simp
        go_at_call 63
        have hP := Sub_v (Nat.le_of_lt HX2.out) (H.nw 2 rfl) (H.nw 0 rfl) HX64.out (dv_small (by decide))
        rw [HF.out] at hP
        refine (hP).mono ?_
        rintro e y7 ⟨p7, n7, c7, rfl, hr, hg⟩
        replace H := H.grow hg
        replace H := H.num hr.toNw
        clear hr hg
        clear hP
        (refine Kr.outL hK (a' := ?_) ?_ (fun _ => (H.sub [0] rfl)) ?_; rotate_left; (focus ((try simp only [Kr.PT]); first | done | rfl))); clear hK K
        (refine Kr.tPQ 4 (v := ?_) (a' := ?_) rfl (by kernel_rfl) (fun _ _ _ h => h) (by rfl) (fun _ => (H.sub [0] rfl)) (fun wx => ?_) ?_ ?_; rotate_left 2; (focus (go_simp; first | done | rfl)); (focus ((try simp only [Kr.PT]); first | done | rfl)))
        (refine Kr.tPQ 5 (v := ?_) (a' := ?_) rfl (by kernel_rfl) (fun _ _ _ h => h) (by rfl) (fun _ => (H.sub [0] rfl)) (fun wx => ?_) ?_ ?_; rotate_left 2; (focus (go_simp; first | done | rfl)); (focus ((try simp only [Kr.PT]); first | done | rfl)))
        (refine Kr.tPQ 6 (v := ?_) (a' := ?_) rfl (by kernel_rfl) (fun _ _ _ h => h) (by rfl) (fun _ => (H.sub [0] rfl)) (fun wx => ?_) ?_ ?_; rotate_left 2; (focus (go_simp; first | done | rfl)); (focus ((try simp only [Kr.PT]); first | done | rfl)))
        refine Kr.relistL (l2 := #[true, true, true, true, true, true, true, false, false, false]) (by kernel_rfl) ?_
        exact nd3x3_3 y7 p5 n5 c5 p7 n7 c7 H
      refine Kr.AllL.cons rfl (fun K hK => ?_) Kr.AllL.nil
      go_simp
      obtain ⟨y8, hy⟩ : ∃ y, Wd1.alloc (.cells #[.slice none 0 0] 43) = y := ⟨_, rfl⟩
      obtain ⟨bb, hb⟩ : ∃ b, Wd1.heap.size = b := ⟨_, rfl⟩
      rw [hy, hb]
      replace H := H.alloc hy hb rfl
      clear hy hb
      (refine Kr.outL hK (a' := ?_) ?_ (fun _ => (H.sub [1] rfl)) ?_; rotate_left; (focus ((try simp only [Kr.PT]); first | done | rfl))); clear hK K
      refine Kr.relistL (l2 := #[true, true, true, false, false, false, false, true, false, false]) (by kernel_rfl) ?_
      exact nd3x3_4 y8 bb p5 n5 c5 H
    case pf3x3_2 =>
      intro Wd2 bb H
      refine Kr.readyL (rs := [2]) (by kernel_rfl) (by simp) ?_
      refine Kr.AllL.cons rfl (fun K hK => ?_) Kr.AllL.nil
      go_simp
      go_at_call 47
      refine (of_v (x := 1) (by decide)).mono ?_
      rintro e y9 ⟨p9, n9, c9, rfl, hr, hg⟩
      replace H := H.grow hg
      replace H := H.num hr
      clear hr hg
      (refine Kr.outL hK (a' := ?_) ?_ (fun _ => (H.sub [1] rfl)) ?_; rotate_left; (focus ((try simp only [Kr.PT]); first | done | rfl))); clear hK K
      refine Kr.relistL (l2 := #[true, true, true, false, false, false, false, true, false, false]) (by kernel_rfl) ?_
      exact nd3x3_4 y9 bb p9 n9 c9 H
    case pf3x3_3 =>
      intro Wd3 p5 n5 c5 p7 n7 c7 H
      refine Kr.readyL (rs := [7]) (by kernel_rfl) (by simp) ?_
      refine Kr.AllL.cons rfl (fun K hK => ?_) Kr.AllL.nil
      go_simp
      obtain ⟨y10, hy⟩ : ∃ y, Wd3.alloc (.cells #[.slice none 0 0] 43) = y := ⟨_, rfl⟩
      obtain ⟨bb, hb⟩ : ∃ b, Wd3.heap.size = b := ⟨_, rfl⟩
      rw [hy, hb]
      replace H := H.alloc hy hb rfl
      clear hy hb
      (refine Kr.outL hK (a' := ?_) ?_ (fun _ => (H.sub [1] rfl)) ?_; rotate_left; (focus ((try simp only [Kr.PT]); first | done | rfl))); clear hK K
      refine Kr.relistL (l2 := #[true, true, true, true, true, true, true, true, false, false]) (by kernel_rfl) ?_
      exact nd3x3_5 y10 bb p5 n5 c5 p7 n7 c7 H
    case pf3x3_4 =>
      intro Wd4 bb p5 n5 c5 H
      refine Kr.readyL (rs := [3]) (by kernel_rfl) (by simp) ?_
      refine Kr.AllL.cons rfl (fun K hK => ?_) Kr.AllL.nil
      go_simp
      go_at_call 63
      have hP := Sub_v (Nat.le_of_lt HX2.out) (H.nw 2 rfl) (H.nw 0 rfl) HX64.out (dv_small (by decide))
      rw [HF.out] at hP
      refine (hP).mono ?_
      rintro e y11 ⟨p11, n11, c11, rfl, hr, hg⟩
      replace H := H.grow hg
      replace H := H.num hr.toNw
      clear hr hg
      clear hP
      (refine Kr.outL hK (a' := ?_) ?_ (fun _ => (H.sub [1] rfl)) ?_; rotate_left; (focus ((try simp only [Kr.PT]); first | done | rfl))); clear hK K
      (refine Kr.tPQ 4 (v := ?_) (a' := ?_) rfl (by kernel_rfl) (fun _ _ _ h => h) (by rfl) (fun _ => (H.sub [1] rfl)) (fun wx => ?_) ?_ ?_; rotate_left 2; (focus (go_simp; first | done | rfl)); (focus ((try simp only [Kr.PT]); first | done | rfl)))
      (refine Kr.tPQ 5 (v := ?_) (a' := ?_) rfl (by kernel_rfl) (fun _ _ _ h => h) (by rfl) (fun _ => (H.sub [1] rfl)) (fun wx => ?_) ?_ ?_; rotate_left 2; (focus (go_simp; first | done | rfl)); (focus ((try simp only [Kr.PT]); first | done | rfl)))
      (refine Kr.tPQ 6 (v := ?_) (a' := ?_) rfl (by kernel_rfl) (fun _ _ _ h => h) (by rfl) (fun _ => (H.sub [1] rfl)) (fun wx => ?_) ?_ ?_; rotate_left 2; (focus (go_simp; first | done | rfl)); (focus ((try simp only [Kr.PT]); first | done | rfl)))
      refine Kr.relistL (l2 := #[true, true, true, true, true, true, true, true, false, false]) (by kernel_rfl) ?_
      exact nd3x3_5 y11 bb p5 n5 c5 p11 n11 c11 H
    case pf3x3_5 =>
      intro Wd5 bb p5 n5 c5 p7 n7 c7 H
      refine Kr.readyL (rs := [8]) (by kernel_rfl) (by simp) ?_
      refine Kr.AllL.cons rfl (fun K hK => ?_) Kr.AllL.nil
      have hk := H.c
      simp only [Kr.Cells] at hk
      go_simp
      clear hk
      obtain ⟨y12, hy⟩ : ∃ y, Wd5.setCell ⟨bb, 0, none⟩ (.slice p7 n7 c7) = y := ⟨_, rfl⟩
      rw [hy]
      replace H := H.store 0 hy rfl rfl
      dsimp only [List.set] at H
      clear hy
      (refine Kr.outL hK (a' := ?_) ?_ (fun _ => (H.sub [1] rfl)) ?_; rotate_left; (focus ((try simp only [Kr.PT]); first | done | rfl))); clear hK K
      (refine Kr.tPQ 9 (v := ?_) (a' := ?_) rfl (by kernel_rfl) (fun _ _ _ h => h) (by rfl) (fun _ => (H.sub [1] rfl)) (fun wx => ?_) ?_ ?_; rotate_left 2; (focus (go_simp; first | done | rfl)); (focus ((try simp only [Kr.PT]); first | done | rfl)))
      refine Kr.relistL (l2 := #[true, true, true, true, true, true, true, true, true, true]) (by kernel_rfl) ?_
      exact nd3x3_6 y12 bb p5 n5 c5 p7 n7 c7 H
    case pf3x3_6 =>
      intro Wd6 bb p5 n5 c5 p7 n7 c7 H
      refine Kr.doneL (by kernel_rfl) ?_ _
      obtain ⟨p1, hp1⟩ : ∃ p, prodB c f = p := ⟨_, rfl⟩
      obtain ⟨p2, hp2⟩ : ∃ p, (c.ps.any fun d => !rightB k d) = p := ⟨_, rfl⟩
      obtain ⟨p3, hp3⟩ : ∃ p, rootB c r f x = p := ⟨_, rfl⟩
      have HP1 := Lib.hid hp1; have HP2 := Lib.hid hp2; have HP3 := Lib.hid hp3; have HR2 : Hid (B = (p1 && !p2 && p3)) := Lib.hid (by rw [HR1.out, hp1, hp2, hp3]); clear hp1 hp2 hp3 HR1
      cases p1
      · obtain rfl : B = false := HR2.out
        go_upto_region 4 with fail
        refine Kr.seqStartW ?_
        (refine Kr.seqQ (v := ?_) (a' := ?_) (by rfl) ?_ ?_ ?_; rotate_left 2; (focus (go_simp; first | done | rfl)); (focus ((try simp only [Kr.PT]); first | done | rfl)))
        have hk := H.c
        simp only [Kr.Cells] at hk
        iterate 2 (refine Kr.seqQ (v := ?_) (a' := ?_) (by rfl) ?_ ?_ ?_; rotate_left 2; (focus (go_simp; first | done | rfl)); (focus ((try simp only [Kr.PT]); first | done | rfl)))
        refine Kr.seqR (by rfl) (fun K hK => ?_)
        go_simp
        go_at_call 64
        have hP := isProduct_v (cp := cp) (HROW.out.grow H.g) (by rw [HML.out]; have := HMB.out; omega) HPV.out (H.nw 0 rfl) HF0.out HF64.out
        rw [HP1.out, HML.out] at hP
        refine (hP).mono ?_
        rintro e y13 ⟨rfl, hg⟩
        clear hk
        replace H := H.grow hg
        clear hg
        clear hP
        (refine Kr.outS hK (a' := ?_) ?_ ?_; rotate_left; (focus ((try simp only [Kr.PT]); first | done | rfl))); clear hK K
        (refine Kr.seqQ (v := ?_) (a' := ?_) (by rfl) ?_ ?_ ?_; rotate_left 2; (focus (go_simp; first | done | rfl)); (focus ((try simp only [Kr.PT]); first | done | rfl)))
        (refine Kr.seqSkipQ (a' := ?_) (by rfl) ?_ ?_; rotate_left; (focus ((try simp only [Kr.PT]); first | done | rfl)))
        (refine Kr.seqSkipQ (a' := ?_) (by rfl) ?_ ?_; rotate_left; (focus ((try simp only [Kr.PT]); first | done | rfl)))
        (refine Kr.seqSkipQ (a' := ?_) (by rfl) ?_ ?_; rotate_left; (focus ((try simp only [Kr.PT]); first | done | rfl)))
        (refine Kr.seqSkipQ (a' := ?_) (by rfl) ?_ ?_; rotate_left; (focus ((try simp only [Kr.PT]); first | done | rfl)))
        iterate 2 (refine Kr.seqQ (v := ?_) (a' := ?_) (by rfl) ?_ ?_ ?_; rotate_left 2; (focus (go_simp; first | done | rfl)); (focus ((try simp only [Kr.PT]); first | done | rfl)))
        (refine Kr.seqSkipQ (a' := ?_) (by rfl) ?_ ?_; rotate_left; (focus ((try simp only [Kr.PT]); first | done | rfl)))
        (refine Kr.seqSkipQ (a' := ?_) (by rfl) ?_ ?_; rotate_left; (focus ((try simp only [Kr.PT]); first | done | rfl)))
        (refine Kr.seqSkipQ (a' := ?_) (by rfl) ?_ ?_; rotate_left; (focus ((try simp only [Kr.PT]); first | done | rfl)))
        iterate 2 (refine Kr.seqQ (v := ?_) (a' := ?_) (by rfl) ?_ ?_ ?_; rotate_left 2; (focus (go_simp; first | done | rfl)); (focus ((try simp only [Kr.PT]); first | done | rfl)))
        refine Kr.seqDoneW ?_
        have hk := H.c
        simp only [Kr.Cells] at hk
        go_wp2
        refine bodyPost_ret (v := .bool false) (by simp [results, Tryd.results41, go_sem, hk]) rfl ⟨rfl, H.g⟩
      · cases p2
        · obtain rfl : B = p3 := HR2.out
          go_upto_region 4 with fail
          refine Kr.seqStartW ?_
          (refine Kr.seqQ (v := ?_) (a' := ?_) (by rfl) ?_ ?_ ?_; rotate_left 2; (focus (go_simp; first | done | rfl)); (focus ((try simp only [Kr.PT]); first | done | rfl)))
          have hk := H.c
          simp only [Kr.Cells] at hk
          iterate 2 (refine Kr.seqQ (v := ?_) (a' := ?_) (by rfl) ?_ ?_ ?_; rotate_left 2; (focus (go_simp; first | done | rfl)); (focus ((try simp only [Kr.PT]); first | done | rfl)))
          refine Kr.seqR (by rfl) (fun K hK => ?_)
          go_simp
          go_at_call 64
          have hP := isProduct_v (cp := cp) (HROW.out.grow H.g) (by rw [HML.out]; have := HMB.out; omega) HPV.out (H.nw 0 rfl) HF0.out HF64.out
          rw [HP1.out, HML.out] at hP
          refine (hP).mono ?_
          rintro e y14 ⟨rfl, hg⟩
          clear hk
          replace H := H.grow hg
          clear hg
          clear hP
          (refine Kr.outS hK (a' := ?_) ?_ ?_; rotate_left; (focus ((try simp only [Kr.PT]); first | done | rfl))); clear hK K
          iterate 2 (refine Kr.seqQ (v := ?_) (a' := ?_) (by rfl) ?_ ?_ ?_; rotate_left 2; (focus (go_simp; first | done | rfl)); (focus ((try simp only [Kr.PT]); first | done | rfl)))
          have hk := H.c
          simp only [Kr.Cells] at hk
          (refine Kr.seqQ (v := ?_) (a' := ?_) (by rfl) ?_ ?_ ?_; rotate_left 2; (focus (go_simp; first | done | rfl)); (focus ((try simp only [Kr.PT]); first | done | rfl)))
          refine Kr.seqR (by rfl) (fun K hK => ?_)
          go_simp
          go_at_call 39
          have hP := cfc_wrong (fun d => !rightB k d) k m0 cp pp c.ps HML.out (by have := HMB.out; omega) y14 (HROW.out.grow H.g) (fun d hd W v g hc => isWrong_v hc (fun W2 v2 hc2 => HI.out W2 v2 d hc2 (HGD.out d hd)))
          rw [HP2.out] at hP
          refine (hP).mono ?_
          rintro e y15 ⟨rfl, hg⟩
          clear hk
          replace H := H.grow hg
          clear hg
          clear hP
          (refine Kr.outS hK (a' := ?_) ?_ ?_; rotate_left; (focus ((try simp only [Kr.PT]); first | done | rfl))); clear hK K
          iterate 3 (refine Kr.seqQ (v := ?_) (a' := ?_) (by rfl) ?_ ?_ ?_; rotate_left 2; (focus (go_simp; first | done | rfl)); (focus ((try simp only [Kr.PT]); first | done | rfl)))
          have hk := H.c
          simp only [Kr.Cells] at hk
          iterate 2 (refine Kr.seqQ (v := ?_) (a' := ?_) (by rfl) ?_ ?_ ?_; rotate_left 2; (focus (go_simp; first | done | rfl)); (focus ((try simp only [Kr.PT]); first | done | rfl)))
          refine Kr.seqR (by rfl) (fun K hK => ?_)
          go_simp
          go_at_call 66
          have hP := isRoot_none (cp := cp) (H.nw 3 rfl) (H.nw 2 rfl) (H.nw 0 rfl) (HROW.out.grow H.g) (by rw [HML.out]; exact HMB.out) HPP.out HPV.out (parts_pos HP1.out HF0.out) HNE.out HRX.out HXM.out HF64.out
          rw [HP3.out, HML.out] at hP
          refine (hP).mono ?_
          rintro e y16 ⟨rfl, hg⟩
          clear hk
          replace H := H.grow hg
          clear hg
          clear hP
          (refine Kr.outS hK (a' := ?_) ?_ ?_; rotate_left; (focus ((try simp only [Kr.PT]); first | done | rfl))); clear hK K
          iterate 2 (refine Kr.seqQ (v := ?_) (a' := ?_) (by rfl) ?_ ?_ ?_; rotate_left 2; (focus (go_simp; first | done | rfl)); (focus ((try simp only [Kr.PT]); first | done | rfl)))
          refine Kr.seqDoneW ?_
          have hk := H.c
          simp only [Kr.Cells] at hk
          go_wp2
          refine bodyPost_ret (v := .bool B) (by simp [results, Tryd.results41, go_sem, hk]) rfl ⟨rfl, H.g⟩
        · obtain rfl : B = false := HR2.out
          go_upto_region 4 with fail
          refine Kr.seqStartW ?_
          (refine Kr.seqQ (v := ?_) (a' := ?_) (by rfl) ?_ ?_ ?_; rotate_left 2; (focus (go_simp; first | done | rfl)); (focus ((try simp only [Kr.PT]); first | done | rfl)))
          have hk := H.c
          simp only [Kr.Cells] at hk
          iterate 2 (refine Kr.seqQ (v := ?_) (a' := ?_) (by rfl) ?_ ?_ ?_; rotate_left 2; (focus (go_simp; first | done | rfl)); (focus ((try simp only [Kr.PT]); first | done | rfl)))
          refine Kr.seqR (by rfl) (fun K hK => ?_)
          go_simp
          go_at_call 64
          have hP := isProduct_v (cp := cp) (HROW.out.grow H.g) (by rw [HML.out]; have := HMB.out; omega) HPV.out (H.nw 0 rfl) HF0.out HF64.out
          rw [HP1.out, HML.out] at hP
          refine (hP).mono ?_
          rintro e y17 ⟨rfl, hg⟩
          clear hk
          replace H := H.grow hg
          clear hg
          clear hP
          (refine Kr.outS hK (a' := ?_) ?_ ?_; rotate_left; (focus ((try simp only [Kr.PT]); first | done | rfl))); clear hK K
          iterate 2 (refine Kr.seqQ (v := ?_) (a' := ?_) (by rfl) ?_ ?_ ?_; rotate_left 2; (focus (go_simp; first | done | rfl)); (focus ((try simp only [Kr.PT]); first | done | rfl)))
          have hk := H.c
          simp only [Kr.Cells] at hk
          (refine Kr.seqQ (v := ?_) (a' := ?_) (by rfl) ?_ ?_ ?_; rotate_left 2; (focus (go_simp; first | done | rfl)); (focus ((try simp only [Kr.PT]); first | done | rfl)))
          refine Kr.seqR (by rfl) (fun K hK => ?_)
          go_simp
          go_at_call 39
          have hP := cfc_wrong (fun d => !rightB k d) k m0 cp pp c.ps HML.out (by have := HMB.out; omega) y17 (HROW.out.grow H.g) (fun d hd W v g hc => isWrong_v hc (fun W2 v2 hc2 => HI.out W2 v2 d hc2 (HGD.out d hd)))
          rw [HP2.out] at hP
          refine (hP).mono ?_
          rintro e y18 ⟨rfl, hg⟩
          clear hk
          replace H := H.grow hg
          clear hg
          clear hP
          (refine Kr.outS hK (a' := ?_) ?_ ?_; rotate_left; (focus ((try simp only [Kr.PT]); first | done | rfl))); clear hK K
          iterate 3 (refine Kr.seqQ (v := ?_) (a' := ?_) (by rfl) ?_ ?_ ?_; rotate_left 2; (focus (go_simp; first | done | rfl)); (focus ((try simp only [Kr.PT]); first | done | rfl)))
          (refine Kr.seqSkipQ (a' := ?_) (by rfl) ?_ ?_; rotate_left; (focus ((try simp only [Kr.PT]); first | done | rfl)))
          (refine Kr.seqSkipQ (a' := ?_) (by rfl) ?_ ?_; rotate_left; (focus ((try simp only [Kr.PT]); first | done | rfl)))
          (refine Kr.seqSkipQ (a' := ?_) (by rfl) ?_ ?_; rotate_left; (focus ((try simp only [Kr.PT]); first | done | rfl)))
          iterate 2 (refine Kr.seqQ (v := ?_) (a' := ?_) (by rfl) ?_ ?_ ?_; rotate_left 2; (focus (go_simp; first | done | rfl)); (focus ((try simp only [Kr.PT]); first | done | rfl)))
          refine Kr.seqDoneW ?_
          have hk := H.c
          simp only [Kr.Cells] at hk
          go_wp2
          refine bodyPost_ret (v := .bool false) (by simp [results, Tryd.results41, go_sem, hk]) rfl ⟨rfl, H.g⟩
theorem isRight_v : ∀ {k : Nat} {v : Value} {c : Ct} {w : World}, CertV w k v c → Good k c →
    Calls Tryd.prog 41 #[v] w fun e w' => e = .returned (.bool (rightB k c)) ∧ Gr w w'
  | 0, _, _, _, h, _ => h.elim
  | k + 1, _, _, _, h, hg => isRight_step (fun _ _ _ h2 hg2 => isRight_v (k := k) h2 hg2) h hg
end Go.Proofs.YtfompolklkehpaaDoor.Pr


/- Verify where no parts are equal. -/
namespace Go.Proofs.YtfompolklkehpaaDoor.Pr
open Go.RowKit Go.Shelf Go.Proofs.YtfompolklkehpaaDoor.Nm Go.Proofs.YtfompolklkehpaaDoor.Ne Go.Proofs.YtfompolklkehpaaDoor.Nf Go.Proofs.YtfompolklkehpaaDoor.Nk Go.Proofs.YtfompolklkehpaaDoor.Nv Go.Proofs.YtfompolklkehpaaDoor.Nr2 Go.Proofs.YtfompolklkehpaaDoor.Mo Go.Proofs.YtfompolklkehpaaDoor.Mr Go.Proofs.YtfompolklkehpaaDoor.Kr

/-- What Verify says. -/
def verB (k : Nat) (c : Ct) : Bool := decide (0 < szq c) && rightB k c
set_option linter.unusedSimpArgs false in
set_option maxRecDepth 100000 in
set_option maxHeartbeats 16000000 in
theorem Verify_v {k : Nat} {c : Ct} {v : Value} {w : World} (hc : CertV w k v c) (hg : Good k c) :
    Calls Tryd.prog 23 #[v] w fun e w' => e = .returned (.bool (verB k c)) ∧ Gr w w' := by
  obtain ⟨pn, nn, cn, pr, nr, cr, pp, np, cp, rfl⟩ := hc.shape
  have HC := Lib.hid hc; have HG := Lib.hid hg; clear hc hg
  obtain ⟨z, hz⟩ : ∃ z, szq c = z := ⟨_, rfl⟩
  obtain ⟨b, hb⟩ : ∃ b, rightB k c = b := ⟨_, rfl⟩
  obtain ⟨B, hB⟩ : ∃ B, verB k c = B := ⟨_, rfl⟩
  rw [hB]
  have HZ := Lib.hid hz; have HB := Lib.hid hb; have HBB : Hid (B = (decide (0 < z) && b)) := Lib.hid (by rw [← hB]; unfold verB; rw [hz, hb]); clear hz hb hB
  have H := Sta.start w
  go_enter Tryd.func23, Tryd.ntmps23
  go_upto_region 0 with fail
  refine Kr.seqStartW ?_
  refine Kr.seqR (by rfl) (fun K hK => ?_)
  go_simp
  obtain ⟨y1, hy⟩ : ∃ y, w.alloc (.cells #[.slice pn nn cn, .slice pr nr cr, .slice pp np cp] 46) = y := ⟨_, rfl⟩
  obtain ⟨bc, hb⟩ : ∃ b, w.heap.size = b := ⟨_, rfl⟩
  rw [hy, hb]
  replace H := Sta_alloc3 H hy hb rfl rfl rfl
  clear hy hb
  (refine Kr.outS hK (a' := ?_) ?_ ?_; rotate_left; (focus ((try simp only [Kr.PT]); first | done | rfl))); clear hK K
  (refine Kr.seqQ (v := ?_) (a' := ?_) (by rfl) ?_ ?_ ?_; rotate_left 2; (focus (go_simp; first | done | rfl)); (focus ((try simp only [Kr.PT]); first | done | rfl)))
  refine Kr.seqDoneW ?_
  by_cases h0 : 0 < z
  · have H0 : Hid (decide ((0 : Int) < (z : Int)) = true) := Lib.hid (decide_eq_true (by omega))
    obtain rfl : B = b := by rw [HBB.out, decide_eq_true h0, Bool.true_and]
    clear h0
    go_upto_region 1 with fail
    refine Kr.seqStartW ?_
    have hk := H.c
    simp only [Kr.Cells] at hk
    (refine Kr.seqQ (v := ?_) (a' := ?_) (by rfl) ?_ ?_ ?_; rotate_left 2; (focus (go_simp; first | done | rfl)); (focus ((try simp only [Kr.PT]); first | done | rfl)))
    refine Kr.seqR (by rfl) (fun K hK => ?_)
    go_simp
    go_at_call 29
    have hP := Size_v (HC.out.grow H.g)
    rw [HZ.out] at hP
    refine (hP).mono ?_
    rintro e y2 ⟨rfl, hg⟩
    clear hk
    replace H := H.grow hg
    clear hg
    clear hP
    (refine Kr.outS hK (a' := ?_) ?_ ?_; rotate_left; (focus ((try simp only [Kr.PT]); first | done | rfl))); clear hK K
    (refine Kr.seqQ (v := .bool true) (a' := ?_) (by rfl) ?_ ?_ ?_; rotate_left 1; (focus (exact Kr.valOf rfl (gtrI H0.out))); (focus ((try simp only [Kr.PT]); first | done | rfl)))
    (refine Kr.seqQ (v := ?_) (a' := ?_) (by rfl) ?_ ?_ ?_; rotate_left 2; (focus (go_simp; first | done | rfl)); (focus ((try simp only [Kr.PT]); first | done | rfl)))
    have hk := H.c
    simp only [Kr.Cells] at hk
    (refine Kr.seqQ (v := ?_) (a' := ?_) (by rfl) ?_ ?_ ?_; rotate_left 2; (focus (go_simp; first | done | rfl)); (focus ((try simp only [Kr.PT]); first | done | rfl)))
    refine Kr.seqR (by rfl) (fun K hK => ?_)
    go_simp
    go_at_call 41
    have hP := isRight_v (HC.out.grow H.g) HG.out
    rw [HB.out] at hP
    refine (hP).mono ?_
    rintro e y3 ⟨rfl, hg⟩
    clear hk
    replace H := H.grow hg
    clear hg
    clear hP
    (refine Kr.outS hK (a' := ?_) ?_ ?_; rotate_left; (focus ((try simp only [Kr.PT]); first | done | rfl))); clear hK K
    iterate 2 (refine Kr.seqQ (v := ?_) (a' := ?_) (by rfl) ?_ ?_ ?_; rotate_left 2; (focus (go_simp; first | done | rfl)); (focus ((try simp only [Kr.PT]); first | done | rfl)))
    refine Kr.seqDoneW ?_
    have hk := H.c
    simp only [Kr.Cells] at hk
    go_wp2
    refine bodyPost_ret (v := .bool B) (by simp [results, Tryd.results23, go_sem, hk]) rfl ⟨rfl, H.g⟩
  · have H0 : Hid (decide ((0 : Int) < (z : Int)) = false) := Lib.hid (decide_eq_false (by omega))
    obtain rfl : B = false := by rw [HBB.out, decide_eq_false h0, Bool.false_and]
    clear h0
    go_upto_region 1 with fail
    refine Kr.seqStartW ?_
    have hk := H.c
    simp only [Kr.Cells] at hk
    (refine Kr.seqQ (v := ?_) (a' := ?_) (by rfl) ?_ ?_ ?_; rotate_left 2; (focus (go_simp; first | done | rfl)); (focus ((try simp only [Kr.PT]); first | done | rfl)))
    refine Kr.seqR (by rfl) (fun K hK => ?_)
    go_simp
    go_at_call 29
    have hP := Size_v (HC.out.grow H.g)
    rw [HZ.out] at hP
    refine (hP).mono ?_
    rintro e y4 ⟨rfl, hg⟩
    clear hk
    replace H := H.grow hg
    clear hg
    clear hP
    (refine Kr.outS hK (a' := ?_) ?_ ?_; rotate_left; (focus ((try simp only [Kr.PT]); first | done | rfl))); clear hK K
    (refine Kr.seqQ (v := .bool false) (a' := ?_) (by rfl) ?_ ?_ ?_; rotate_left 1; (focus (exact Kr.valOf rfl (gtrI H0.out))); (focus ((try simp only [Kr.PT]); first | done | rfl)))
    (refine Kr.seqQ (v := ?_) (a' := ?_) (by rfl) ?_ ?_ ?_; rotate_left 2; (focus (go_simp; first | done | rfl)); (focus ((try simp only [Kr.PT]); first | done | rfl)))
    (refine Kr.seqSkipQ (a' := ?_) (by rfl) ?_ ?_; rotate_left; (focus ((try simp only [Kr.PT]); first | done | rfl)))
    (refine Kr.seqSkipQ (a' := ?_) (by rfl) ?_ ?_; rotate_left; (focus ((try simp only [Kr.PT]); first | done | rfl)))
    iterate 2 (refine Kr.seqQ (v := ?_) (a' := ?_) (by rfl) ?_ ?_ ?_; rotate_left 2; (focus (go_simp; first | done | rfl)); (focus ((try simp only [Kr.PT]); first | done | rfl)))
    refine Kr.seqDoneW ?_
    have hk := H.c
    simp only [Kr.Cells] at hk
    go_wp2
    refine bodyPost_ret (v := .bool false) (by simp [results, Tryd.results23, go_sem, hk]) rfl ⟨rfl, H.g⟩
end Go.Proofs.YtfompolklkehpaaDoor.Pr


/- Certificates in an interval of blocks: what changes outside leaves them. -/
namespace Go.Proofs.YtfompolklkehpaaDoor.Pr
open Go Go.RowKit Go.Shelf Go.Proofs.YtfompolklkehpaaDoor.Nm Go.Proofs.YtfompolklkehpaaDoor.Ne Go.Proofs.YtfompolklkehpaaDoor.Nf Go.Proofs.YtfompolklkehpaaDoor.Nk Go.Proofs.YtfompolklkehpaaDoor.Nv Go.Proofs.YtfompolklkehpaaDoor.Nr2 Go.Proofs.YtfompolklkehpaaDoor.Kr

/-- These blocks are as they were. -/
def Same2 (W W' : World) (s e : Nat) : Prop := ∀ b, s ≤ b → b < e → W'.heap[b]? = W.heap[b]?
/-- A slice of words lies in these blocks. -/
def InI (s e : Nat) (p : Option Addr) (n : Nat) : Prop := n = 0 ∨ ∀ a, p = some a → s ≤ a.block ∧ a.block < e
theorem nw_same {W W' : World} {s e : Nat} {p : Option Addr} {n c : Nat} {l : List Nat} (h : Nw W p n c l) (hi : InI s e p n) (g : Same2 W W' s e) : Nw W' p n c l := by
  refine ⟨h.len, h.le, h.nil, ?_, h.ok, h.small⟩
  rcases h.rd with h0 | ⟨b, off, rfl, hc⟩
  · exact .inl h0
  · rcases hi with h0 | hi
    · left
      have := h.len
      exact List.eq_nil_of_length_eq_zero (by omega)
    · refine .inr ⟨b, off, rfl, fun i hi2 => ?_⟩
      have hb := hi _ rfl
      exact (World.cell?_of_block (a := ⟨b, off + i, none⟩) (g b hb.1 hb.2)).trans (hc i hi2)
/-- The value reads as this certificate, and all of it lies in these blocks. -/
def CertI (W : World) (s e : Nat) : Nat → Value → Ct → Prop
  | 0, _, _ => False
  | k + 1, v, c => ∃ (pn : Option Addr) (nn cn : Nat) (pr : Option Addr) (nr cr : Nat) (pp : Option Addr) (cp : Nat),
      v = .agg #[.slice pn nn cn, .slice pr nr cr, .slice pp c.ps.length cp] ∧ Nw W pn nn cn c.n ∧ InI s e pn nn ∧ Nw W pr nr cr c.r ∧ InI s e pr nr ∧ c.ps.length < 9223372036854775808 ∧ (pp = none ∨ ∃ b off, pp = some ⟨b, off, none⟩) ∧
      ∀ (j : Nat) (d : Ct), c.ps[j]? = some d → ∃ (b off : Nat) (v0 v1 v2 : Value), pp = some ⟨b, off, none⟩ ∧ s ≤ b ∧ b < e ∧ W.cell? ⟨b, off + j * 3, none⟩ = some v0 ∧ W.cell? ⟨b, off + j * 3 + 1, none⟩ = some v1 ∧ W.cell? ⟨b, off + j * 3 + 2, none⟩ = some v2 ∧ CertI W s e k (.agg #[v0, v1, v2]) d
theorem CertI.cert {W : World} {s e : Nat} : ∀ {k : Nat} {v : Value} {c : Ct}, CertI W s e k v c → CertV W k v c
  | 0, _, _, h => h
  | _ + 1, _, _, ⟨pn, nn, cn, pr, nr, cr, pp, cp, e1, h1, _, h2, _, hl, hp, h3⟩ =>
    ⟨pn, nn, cn, pr, nr, cr, pp, cp, e1, h1, h2, hl, hp, fun j d hd => by
      obtain ⟨b, off, v0, v1, v2, e, _, _, c0, c1, c2, h⟩ := h3 j d hd
      exact ⟨b, off, v0, v1, v2, e, c0, c1, c2, h.cert⟩⟩
theorem CertI.kept {W W' : World} {s e : Nat} (g : Same2 W W' s e) : ∀ {k : Nat} {v : Value} {c : Ct}, CertI W s e k v c → CertI W' s e k v c
  | 0, _, _, h => h
  | _ + 1, _, _, ⟨pn, nn, cn, pr, nr, cr, pp, cp, e1, h1, i1, h2, i2, hl, hp, h3⟩ =>
    ⟨pn, nn, cn, pr, nr, cr, pp, cp, e1, nw_same h1 i1 g, i1, nw_same h2 i2 g, i2, hl, hp, fun j d hd => by
      obtain ⟨b, off, v0, v1, v2, e, hs, he, c0, c1, c2, h⟩ := h3 j d hd
      exact ⟨b, off, v0, v1, v2, e, hs, he, (World.cell?_of_block (a := ⟨b, off + j * 3, none⟩) (g b hs he)).trans c0, (World.cell?_of_block (a := ⟨b, off + j * 3 + 1, none⟩) (g b hs he)).trans c1, (World.cell?_of_block (a := ⟨b, off + j * 3 + 2, none⟩) (g b hs he)).trans c2, h.kept g⟩⟩
theorem InI.mono {s e s' e' n : Nat} {p : Option Addr} (h : InI s e p n) (hs : s' ≤ s) (he : e ≤ e') : InI s' e' p n :=
  h.imp id fun h a ha => ⟨Nat.le_trans hs (h a ha).1, Nat.lt_of_lt_of_le (h a ha).2 he⟩
theorem CertI.mono {W : World} {s e s' e' : Nat} (hs : s' ≤ s) (he : e ≤ e') : ∀ {k : Nat} {v : Value} {c : Ct}, CertI W s e k v c → CertI W s' e' k v c
  | 0, _, _, h => h
  | _ + 1, _, _, ⟨pn, nn, cn, pr, nr, cr, pp, cp, e1, h1, i1, h2, i2, hl, hp, h3⟩ =>
    ⟨pn, nn, cn, pr, nr, cr, pp, cp, e1, h1, i1.mono hs he, h2, i2.mono hs he, hl, hp, fun j d hd => by
      obtain ⟨b, off, v0, v1, v2, e, hb, hb2, c0, c1, c2, h⟩ := h3 j d hd
      exact ⟨b, off, v0, v1, v2, e, Nat.le_trans hs hb, Nat.lt_of_lt_of_le hb2 he, c0, c1, c2, h.mono hs he⟩⟩
theorem CertI.deep {W : World} {s e : Nat} : ∀ {k : Nat} {v : Value} {c : Ct}, CertI W s e k v c → CertI W s e (k + 1) v c
  | 0, _, _, h => h.elim
  | _ + 1, _, _, ⟨pn, nn, cn, pr, nr, cr, pp, cp, e1, h1, i1, h2, i2, hl, hp, h3⟩ =>
    ⟨pn, nn, cn, pr, nr, cr, pp, cp, e1, h1, i1, h2, i2, hl, hp, fun j d hd => by
      obtain ⟨b, off, v0, v1, v2, e, hb, hb2, c0, c1, c2, h⟩ := h3 j d hd
      exact ⟨b, off, v0, v1, v2, e, hb, hb2, c0, c1, c2, h.deep⟩⟩
/-- What grows from a world leaves its blocks. -/
theorem same2_gr {W W' : World} {s e : Nat} (g : Gr W W') (he : e ≤ W.heap.size) : Same2 W W' s e := fun b _ h => g.block b (Nat.lt_of_lt_of_le h he)
/-- A row that lies elsewhere grows. -/
theorem same2_grown {W W' : World} {s e : Nat} {row : Option Nat} (g : W.grownBy W' row) (he : e ≤ W.heap.size) (hr : ∀ k, row = some k → k < s ∨ e ≤ k) : Same2 W W' s e := fun b h1 h2 =>
  g.block b (Nat.lt_of_lt_of_le h2 he) (fun e2 => by
    rcases hr b e2.symm with h | h <;> omega)
/-- A store elsewhere. -/
theorem same2_store {W : World} {s e : Nat} (a : Addr) (v : Value) (ha : a.block < s ∨ e ≤ a.block) : Same2 W (W.setCell a v) s e := fun b h1 h2 => by
  have hk : a.block ≠ b := by rcases ha with h | h <;> omega
  simp only [World.setCell, Array.getElem?_modify, if_neg hk]
end Go.Proofs.YtfompolklkehpaaDoor.Pr


/- Parts in a row that grows by append; the certificate of a prime as a function of its fuel. -/
namespace Go.Proofs.YtfompolklkehpaaDoor.Pr
open Go Go.RowKit Go.Shelf Go.Proofs.YtfompolklkehpaaDoor.Nm Go.Proofs.YtfompolklkehpaaDoor.Ne Go.Proofs.YtfompolklkehpaaDoor.Nf Go.Proofs.YtfompolklkehpaaDoor.Nk Go.Proofs.YtfompolklkehpaaDoor.Nv Go.Proofs.YtfompolklkehpaaDoor.Nr2 Go.Proofs.YtfompolklkehpaaDoor.Kr

/-- Words of a result lie in the blocks that the call made. -/
theorem inI_of {B : Nat} {w : World} {p : Option Addr} {n c : Nat} {l : List Nat} (h : Nr B w p n c l) : InI B w.heap.size p n := by
  rcases h.own with h0 | ⟨b, off, rfl, hb, hc⟩
  · left; rw [← h.len, h0]; rfl
  · rcases Nat.eq_zero_or_pos n with h0 | h0
    · exact .inl h0
    · have h1 := World.block_lt_of_cell? w _ (hc 0 (by rw [h.len]; exact h0)).1
      exact .inr fun a ha => by cases ha; exact ⟨hb, h1⟩
/-- A part that lies in an interval of blocks from B on, apart from the row's block. -/
def PartI (W : World) (B : Nat) (row : Option Nat) (K : Nat) (v : Value) (d : Ct) : Prop :=
  ∃ s e, B ≤ s ∧ e ≤ W.heap.size ∧ (∀ k, row = some k → k < s ∨ e ≤ k) ∧ CertI W s e K v d
/-- The slice is the call's own, from block B on, and holds these parts. -/
def Parts3 (B K : Nat) (v : Value) (ps : List Ct) (W : World) : Prop :=
  B ≤ W.heap.size ∧ ∃ vs : List Value, W.ownsRow B 46 3 v ps.length vs ∧
    ∀ (j : Nat) (d : Ct), ps[j]? = some d → ∃ v0 v1 v2, vs[j * 3]? = some v0 ∧ vs[j * 3 + 1]? = some v1 ∧ vs[j * 3 + 2]? = some v2 ∧ PartI W B v.ownBlock K (.agg #[v0, v1, v2]) d
theorem Parts3.start {W : World} {B : Nat} (K : Nat) (hB : B ≤ W.heap.size) : Parts3 B K (.slice none 0 0) [] W :=
  ⟨hB, [], ⟨rfl, .inl ⟨rfl, rfl⟩⟩, fun j d h => by simp at h⟩
theorem Parts3.grow {B K : Nat} {v : Value} {ps : List Ct} {W W' : World} (h : Parts3 B K v ps W) (g : Gr W W') : Parts3 B K v ps W' := by
  obtain ⟨hB, vs, h1, h2⟩ := h
  refine ⟨Nat.le_trans hB g.size, vs, ownsRow_below h1 g, fun j d hd => ?_⟩
  obtain ⟨v0, v1, v2, e0, e1, e2, s, e, hs, he, hr, hc⟩ := h2 j d hd
  exact ⟨v0, v1, v2, e0, e1, e2, s, e, hs, Nat.le_trans he g.size, hr, hc.kept (same2_gr g he)⟩
theorem Parts3.store {B K : Nat} {v : Value} {ps : List Ct} {W : World} (h : Parts3 B K v ps W) (a : Addr) (u : Value) (ha : a.block < B) : Parts3 B K v ps (W.setCell a u) := by
  obtain ⟨hB, vs, h1, h2⟩ := h
  have hsz : (W.setCell a u).heap.size = W.heap.size := World.size_setCell ..
  refine ⟨by rw [hsz]; exact hB, vs, ownsRow_setCell_below h1 ha u, fun j d hd => ?_⟩
  obtain ⟨v0, v1, v2, e0, e1, e2, s, e, hs, he, hr, hc⟩ := h2 j d hd
  exact ⟨v0, v1, v2, e0, e1, e2, s, e, hs, by rw [hsz]; exact he, hr, hc.kept (same2_store a u (.inl (Nat.lt_of_lt_of_le ha hs)))⟩
theorem Parts3.append {B K : Nat} {v v1 : Value} {ps : List Ct} {d : Ct} {u0 u1 u2 : Value} {vs : List Value} {W W' : World} {g s e : Nat} (hB : B ≤ W.heap.size) (h1 : W.ownsRow B 46 3 v ps.length vs)
    (h2 : ∀ (j : Nat) (d : Ct), ps[j]? = some d → ∃ v0 v1 v2, vs[j * 3]? = some v0 ∧ vs[j * 3 + 1]? = some v1 ∧ vs[j * 3 + 2]? = some v2 ∧ PartI W B v.ownBlock K (.agg #[v0, v1, v2]) d)
    (hs : B ≤ s) (he : e ≤ W.heap.size) (hr : ∀ k, v.ownBlock = some k → k < s ∨ e ≤ k) (hc : CertI W s e K (.agg #[u0, u1, u2]) d)
    (ho : W'.ownsRow B 46 3 v1 (ps.length + 1) (vs ++ [u0, u1, u2])) (hg : W.grownBy W' v.ownBlock) (hv : v1.ownBlock = some g) (hat : v.ownBlock = some g ∨ g = W.heap.size) : Parts3 B K v1 (ps ++ [d]) W' := by
  have hrow : ∀ (s e : Nat), e ≤ W.heap.size → (∀ k, v.ownBlock = some k → k < s ∨ e ≤ k) → ∀ k, v1.ownBlock = some k → k < s ∨ e ≤ k := fun s e he hr k hk => by
    rw [hv] at hk
    cases hk
    rcases hat with h | h
    · exact hr g h
    · exact .inr (by omega)
  refine ⟨Nat.le_trans hB hg.size, vs ++ [u0, u1, u2], by rw [List.length_append]; exact ho, fun j x hx => ?_⟩
  have hlen := h1.1
  rcases Nat.lt_or_ge j ps.length with hj | hj
  · rw [List.getElem?_append_left hj] at hx
    obtain ⟨w0, w1, w2, e0, e1, e2, s', e', hs', he', hr', hc'⟩ := h2 j x hx
    have hin : ∀ i, i < vs.length → (vs ++ [u0, u1, u2])[i]? = vs[i]? := fun i hi => List.getElem?_append_left hi
    refine ⟨w0, w1, w2, by rw [hin _ (by omega)]; exact e0, by rw [hin _ (by omega)]; exact e1, by rw [hin _ (by omega)]; exact e2, s', e', hs', Nat.le_trans he' hg.size, hrow s' e' he' hr', hc'.kept (same2_grown hg he' hr')⟩
  · rw [List.getElem?_append_right hj] at hx
    have hj0 : j - ps.length = 0 := by
      rcases Nat.eq_zero_or_pos (j - ps.length) with h | h
      · exact h
      · rw [List.getElem?_eq_none (show [d].length ≤ _ from h)] at hx; cases hx
    rw [hj0] at hx
    have hxd : d = x := by simpa using hx
    subst hxd
    have hj1 : j = ps.length := by omega
    subst hj1
    have hin : ∀ i, (vs ++ [u0, u1, u2])[ps.length * 3 + i]? = [u0, u1, u2][i]? := fun i => by
      rw [List.getElem?_append_right (by omega), hlen]
      congr 1
      omega
    exact ⟨u0, u1, u2, hin 0, hin 1, hin 2, s, e, hs, Nat.le_trans he hg.size, hrow s e he hr, hc.kept (same2_grown hg he hr)⟩
/-- The walk's state over an append onto a row of one's own. -/
theorem sta_append {w W W' : World} {cs : List (Nat × Nat × Value)} {fs : List (World → Prop)} {row : Option Nat} (H : Sta w W cs fs) (hg : W.grownBy W' row) (hr : ∀ k, row = some k → w.heap.size ≤ k ∧ ∀ x ∈ cs, x.1 ≠ k) (hf : ∀ F ∈ fs, F W') : Sta w W' cs fs := by
  have hk : ∀ cs : List (Nat × Nat × Value), Cells W cs → (∀ x ∈ cs, ∀ k, row = some k → x.1 ≠ k) → Cells W' cs := by
    intro cs
    induction cs with
    | nil => exact fun _ _ => trivial
    | cons x r ih =>
      intro h hn
      have hlt := World.block_lt_of_cell? _ _ h.1.1
      have hne : some x.1 ≠ row := fun e => hn x (List.mem_cons_self ..) x.1 e.symm rfl
      exact ⟨⟨(hg.cell_far ⟨x.1, x.2.1, none⟩ hlt hne).trans h.1.1, (hg.frozen_far ⟨x.1, x.2.1, none⟩ hlt hne).trans h.1.2⟩, ih h.2 fun z hz => hn z (List.mem_cons_of_mem _ hz)⟩
  exact ⟨gr_grown H.g hg (fun k e => (hr k e).1), hk cs H.c (fun x hx k e => (hr k e).2 x hx), H.low, H.ne, hf, H.k⟩
/-- What the finished row says. -/
theorem Parts3.done {B K : Nat} {v : Value} {ps : List Ct} {W : World} (h : Parts3 B K v ps W) (_hn : ps.length < 9223372036854775808) : ∃ pp cp, v = .slice pp ps.length cp ∧ (pp = none ∨ ∃ b off, pp = some ⟨b, off, none⟩) ∧
    ∀ (j : Nat) (d : Ct), ps[j]? = some d → ∃ (b off : Nat) (v0 v1 v2 : Value), pp = some ⟨b, off, none⟩ ∧ B ≤ b ∧ b < W.heap.size ∧ W.cell? ⟨b, off + j * 3, none⟩ = some v0 ∧ W.cell? ⟨b, off + j * 3 + 1, none⟩ = some v1 ∧ W.cell? ⟨b, off + j * 3 + 2, none⟩ = some v2 ∧ CertI W B W.heap.size K (.agg #[v0, v1, v2]) d := by
  obtain ⟨hB, vs, h1, h2⟩ := h
  rcases Nat.eq_zero_or_pos ps.length with h0 | h0
  · rcases h1.2 with ⟨hv, _⟩ | ⟨g, cap, cur, hv, _⟩
    · exact ⟨none, 0, by rw [hv, h0], .inl rfl, fun j d hd => by rw [List.eq_nil_of_length_eq_zero h0] at hd; simp at hd⟩
    · exact ⟨_, cap, hv, .inr ⟨g, 0, rfl⟩, fun j d hd => by rw [List.eq_nil_of_length_eq_zero h0] at hd; simp at hd⟩
  · obtain ⟨g, cap, rfl, hb, hlt⟩ := h1.form h0
    refine ⟨_, cap, rfl, .inr ⟨g, 0, rfl⟩, fun j d hd => ?_⟩
    obtain ⟨w0, w1, w2, e0, e1, e2, s, e, hs, he, _, hc⟩ := h2 j d hd
    have hj := (List.getElem?_eq_some_iff.1 hd).1
    have hcell := World.ownsRow.cellAt h1
    exact ⟨g, 0, w0, w1, w2, rfl, hb, hlt, by rw [Nat.zero_add, hcell _ (by omega)]; exact e0, by rw [Nat.zero_add, hcell _ (by omega)]; exact e1, by rw [Nat.zero_add, hcell _ (by omega)]; exact e2, hc.mono hs he⟩

open Classical in
/-- The least primitive root. -/
noncomputable def rootOf (p : Nat) (l : List Nat) : Nat := if h : ∃ r, IsRoot p l r then Classical.choose h else 0
theorem rootOf_eq {p r : Nat} {l : List Nat} (h : IsRoot p l r) : rootOf p l = r := by
  have hx : ∃ r, IsRoot p l r := ⟨r, h⟩
  unfold rootOf
  rw [dif_pos hx]
  exact (Classical.choose_spec hx).unique h
/-- The certificates of a list of numbers: the first error, or all of them. -/
def certsBy (f : Nat → Nat × Ct) : List Nat → Nat × List Ct
  | [] => (0, [])
  | q :: l => if (f q).1 = 0 then (if (certsBy f l).1 = 0 then (0, (f q).2 :: (certsBy f l).2) else ((certsBy f l).1, [])) else ((f q).1, [])
/-- What Certify makes, with its error number. -/
noncomputable def cert : Nat → Nat → Nat × Ct
  | 0, _ => (1, .mk [] [] [])
  | k + 1, n =>
    if isP n = true then
      match facs (n - 1) with
      | none => (9, .mk [] [] [])
      | some l => if (certsBy (cert k) l).1 = 0 then (0, .mk (digs n) (digs (rootOf n l)) (certsBy (cert k) l).2) else ((certsBy (cert k) l).1, .mk [] [] [])
    else (1, .mk [] [] [])
/-- Parts that are there, and what is to come. -/
def comb (ps : List Ct) (x : Nat × List Ct) : Nat × List Ct := if x.1 = 0 then (0, ps ++ x.2) else (x.1, [])
theorem comb_nil (f : Nat → Nat × Ct) : ∀ l, comb [] (certsBy f l) = certsBy f l
  | [] => rfl
  | q :: l => by
    by_cases h : (f q).1 = 0
    · by_cases h2 : (certsBy f l).1 = 0
      · simp [comb, certsBy, h, h2]
      · simp [comb, certsBy, h, h2]
    · simp [comb, certsBy, h]
theorem comb_cons {f : Nat → Nat × Ct} {q : Nat} {l : List Nat} {ps : List Ct} (h : (f q).1 = 0) : comb ps (certsBy f (q :: l)) = comb (ps ++ [(f q).2]) (certsBy f l) := by
  by_cases h2 : (certsBy f l).1 = 0
  · simp [comb, certsBy, h, h2]
  · simp [comb, certsBy, h, h2]
theorem comb_fail {f : Nat → Nat × Ct} {q : Nat} {l : List Nat} {ps : List Ct} (h : (f q).1 ≠ 0) : comb ps (certsBy f (q :: l)) = ((f q).1, []) := by
  simp [comb, certsBy, h]
theorem drop_cons {α : Type} {l : List α} {j : Nat} {x : α} (h : l[j]? = some x) : l.drop j = x :: l.drop (j + 1) := by
  obtain ⟨h1, h2⟩ := List.getElem?_eq_some_iff.1 h
  rw [← h2, List.drop_eq_getElem_cons h1]
end Go.Proofs.YtfompolklkehpaaDoor.Pr


/- slices.Equal at rows of ints. -/
namespace Go.Proofs.YtfompolklkehpaaDoor.Pr
open Go.RowKit Go.Shelf Go.Proofs.YtfompolklkehpaaDoor.Nm Go.Proofs.YtfompolklkehpaaDoor.Ne Go.Proofs.YtfompolklkehpaaDoor.Nf Go.Proofs.YtfompolklkehpaaDoor.Nk Go.Proofs.YtfompolklkehpaaDoor.Nv Go.Proofs.YtfompolklkehpaaDoor.Nr2 Go.Proofs.YtfompolklkehpaaDoor.Mo Go.Proofs.YtfompolklkehpaaDoor.Mr Go.Proofs.YtfompolklkehpaaDoor.Kr

theorem neqI {w : World} {x y : Int} {b : Bool} (h : (!decide (x = y)) = b) : (binOp .neq 3 (.int .i64 x) (.int .i64 y)).run Tryd.prog w = .ok (.bool b) w := by
  have e : (x != y) = b := by rw [← h, bne]; congr 1
  go_simp
set_option linter.unusedSimpArgs false in
set_option maxRecDepth 100000 in
set_option maxHeartbeats 16000000 in
theorem equalI_v {v u : Value} {l m : List Nat} {w : World} (hv : IntsV v l w) (hu : IntsV u m w) (hs : l.length ≤ 1048576) :
    Calls Tryd.prog 17 #[v, u] w fun e w' => e = .returned (.bool (decide (l = m))) ∧ Gr w w' := by
  obtain ⟨pp, c, rfl, hr1⟩ := hv.form
  obtain ⟨qq, d, rfl, hr2⟩ := hu.form
  have HR1 := Lib.hid hr1; have HR2 := Lib.hid hr2; clear hr1 hr2 hv hu
  obtain ⟨n, hn⟩ : ∃ n, l.length = n := ⟨_, rfl⟩
  obtain ⟨k, hk⟩ : ∃ k, m.length = k := ⟨_, rfl⟩
  rw [hn, hk]
  have HN := Lib.hid hn; have HK := Lib.hid hk; have HNB : Hid (n ≤ 1048576) := Lib.hid (hn ▸ hs); clear hn hk hs
  obtain ⟨Q, hQ⟩ : ∃ Q, decide (l = m) = Q := ⟨_, rfl⟩
  rw [hQ]
  have HQ := Lib.hid hQ; clear hQ
  have H := Sta.start w
  go_enter Tryd.func17, Tryd.ntmps17
  go_upto_region 0 with fail
  refine Kr.seqStartW ?_
  (refine Kr.seqQ (v := ?_) (a' := ?_) (by rfl) ?_ ?_ ?_; rotate_left 2; (focus (go_simp; first | done | rfl)); (focus ((try simp only [Kr.PT]); first | done | rfl)))
  refine Kr.seqDoneW ?_
  by_cases hnk : n = k
  · subst hnk
    have HE : Hid ((!decide ((n : Int) = (n : Int))) = false) := Lib.hid (by simp)
    go_upto_region 1 with fail
    refine Kr.seqStartW ?_
    iterate 4 (refine Kr.seqQ (v := ?_) (a' := ?_) (by rfl) ?_ ?_ ?_; rotate_left 2; (focus (go_simp; first | done | rfl)); (focus ((try simp only [Kr.PT]); first | done | rfl)))
    (refine Kr.seqQ (v := .bool false) (a' := ?_) (by rfl) ?_ ?_ ?_; rotate_left 1; (focus (exact Kr.valOf rfl (neqI HE.out))); (focus ((try simp only [Kr.PT]); first | done | rfl)))
    refine Kr.seqDoneW ?_
    go_upto_region 3 with fail
    refine Kr.seqStartW ?_
    iterate 3 (refine Kr.seqQ (v := ?_) (a' := ?_) (by rfl) ?_ ?_ ?_; rotate_left 2; (focus (go_simp; first | done | rfl)); (focus ((try simp only [Kr.PT]); first | done | rfl)))
    refine Kr.seqDoneW ?_
    have H2 := Lib.hid H
    clear H
    go_wp2_with fail
    go_loopw [13] (fun i wr => ∃ j : Nat, j ≤ n ∧ i = .int .i64 (j : Int) ∧ Hid (l.take j = m.take j) ∧ Hid (Sta w wr [] [])) (fun i _ => n - (intOf i).toNat)
    case atStart => exact ⟨0, Nat.zero_le _, rfl, Lib.hid (by simp), H2⟩
    case round =>
      clear H2
      obtain ⟨j, hj, rfl, HT, HH⟩ := hrel
      have H := HH.out; clear HH
      by_cases hjn : j = n
      · have HL : Hid (decide ((j : Int) < (n : Int)) = false) := Lib.hid (decide_eq_false (by omega))
        obtain rfl : true = Q := by rw [← HQ.out]; refine (decide_eq_true ?_).symm; have h := HT.out; rw [hjn] at h; rw [← List.take_length (l := l), ← List.take_length (l := m), HN.out, HK.out]; exact h
        clear hjn
        go_upto_region 4 with fail
        refine Kr.seqStartW ?_
        (refine Kr.seqQ (v := .bool false) (a' := ?_) (by rfl) ?_ ?_ ?_; rotate_left 1; (focus (exact Kr.valOf rfl (lssT HL.out))); (focus ((try simp only [Kr.PT]); first | done | rfl)))
        refine Kr.seqDoneW ?_
        go_upto_region 9 with fail
        refine Kr.seqStartW ?_
        (refine Kr.seqQ (v := ?_) (a' := ?_) (by rfl) ?_ ?_ ?_; rotate_left 2; (focus (go_simp; first | done | rfl)); (focus ((try simp only [Kr.PT]); first | done | rfl)))
        refine Kr.seqDoneW ?_
        have hk : True := trivial
        go_wp2
        refine bodyPost_ret (v := .bool true) (by simp [results, Tryd.results17, go_sem, hk]) rfl ⟨rfl, H.g⟩
      · have HJ : Hid (j < n) := Lib.hid (by omega)
        have HL : Hid (decide ((j : Int) < (n : Int)) = true) := Lib.hid (decide_eq_true (by omega))
        clear hjn
        obtain ⟨a, ha⟩ : ∃ a, l[j]? = some a := ⟨_, List.getElem?_eq_getElem (by rw [HN.out]; exact HJ.out)⟩
        obtain ⟨b, hb⟩ : ∃ b, m[j]? = some b := ⟨_, List.getElem?_eq_getElem (by rw [HK.out]; exact HJ.out)⟩
        obtain ⟨g1, o1, e1, c1⟩ := HR1.out j a ha
        obtain ⟨g2, o2, e2, c2⟩ := HR2.out j b hb
        subst e1; subst e2
        have HC1 := Lib.hid (fun W (g : Gr w W) => g.cell c1); have HC2 := Lib.hid (fun W (g : Gr w W) => g.cell c2); have HA := Lib.hid ha; have HB := Lib.hid hb; clear ha hb c1 c2
        go_upto_region 4 with fail
        refine Kr.seqStartW ?_
        (refine Kr.seqQ (v := .bool true) (a' := ?_) (by rfl) ?_ ?_ ?_; rotate_left 1; (focus (exact Kr.valOf rfl (lssT HL.out))); (focus ((try simp only [Kr.PT]); first | done | rfl)))
        refine Kr.seqDoneW ?_
        go_upto_region 5 with fail
        refine Kr.seqStartW ?_
        iterate 2 (refine Kr.seqQ (v := ?_) (a' := ?_) (by rfl) ?_ ?_ ?_; rotate_left 2; (focus (go_simp; first | done | rfl)); (focus ((try simp only [Kr.PT]); first | done | rfl)))
        refine Kr.seqDoneW ?_
        have ha1 : j < n := HJ.out; have ha2 : (j : Int) < (n : Int) := by omega
        by_cases hab : a = b
        · have HE2 : Hid ((!decide ((a : Int) = (b : Int))) = false) := Lib.hid (by simp; omega)
          have HT2 : Hid (l.take (j + 1) = m.take (j + 1)) := Lib.hid (by rw [List.take_add_one, List.take_add_one, HA.out, HB.out, HT.out, hab])
          clear hab
          go_upto_region 6 with fail
          refine Kr.startL (fun W' => W'.cell? ⟨g1, o1 + j, none⟩ = some (.int .i64 (a : Int)) ∧ W'.cell? ⟨g2, o2 + j, none⟩ = some (.int .i64 (b : Int)) ∧ Kr.Cells W' []) [] (by kernel_rfl) ?_
          have gd : Gr wr wr.drew := (Gr.refl _).drew
          generalize wr.drew = d2 at gd ⊢
          replace H := H.grow gd
          clear gd
          (refine Kr.tPQ 0 (v := ?_) (a' := ?_) rfl (by kernel_rfl) (fun _ _ _ h => h) (by rfl) (fun _ => ⟨HC1.out _ H.g, ⟨HC2.out _ H.g, (H.sub [] rfl)⟩⟩) (fun wx => ?_) ?_ ?_; rotate_left 2; (focus (go_simp; first | done | rfl)); (focus ((try simp only [Kr.PT]); first | done | rfl)))
          (refine Kr.tPQ 1 (v := ?_) (a' := ?_) rfl (by kernel_rfl) (fun _ _ _ h => h) (by rfl) (fun _ => ⟨HC1.out _ H.g, ⟨HC2.out _ H.g, (H.sub [] rfl)⟩⟩) (fun wx => ?_) ?_ ?_; rotate_left 2; (focus (go_simp; first | done | rfl)); (focus ((try simp only [Kr.PT]); first | done | rfl)))
          (refine Kr.tPQ 2 (v := ?_) (a' := ?_) rfl (by kernel_rfl) (fun _ _ _ h => h) (by rfl) (fun _ => ⟨HC1.out _ H.g, ⟨HC2.out _ H.g, (H.sub [] rfl)⟩⟩) (fun wx => ?_) ?_ ?_; rotate_left 2; (focus (go_simp; first | done | rfl)); (focus ((try simp only [Kr.PT]); first | done | rfl)))
          (refine Kr.tSQ 3 [] (v := ?_) (a' := ?_) rfl (by kernel_rfl) (fun _ _ _ h => h) (by rfl) ⟨HC1.out _ H.g, ⟨HC2.out _ H.g, (H.sub [] rfl)⟩⟩ (fun wx hSx => ?_) ?_ ?_; rotate_left 2; (focus (simp only [Kr.Cells] at hSx; go_simp; first | done | rfl)); (focus ((try simp only [Kr.PT]); first | done | rfl)))
          (refine Kr.tPQ 4 (v := ?_) (a' := ?_) rfl (by kernel_rfl) (fun _ _ _ h => h) (by rfl) (fun _ => ⟨HC1.out _ H.g, ⟨HC2.out _ H.g, (H.sub [] rfl)⟩⟩) (fun wx => ?_) ?_ ?_; rotate_left 2; (focus (go_simp; first | done | rfl)); (focus ((try simp only [Kr.PT]); first | done | rfl)))
          (refine Kr.tPQ 5 (v := ?_) (a' := ?_) rfl (by kernel_rfl) (fun _ _ _ h => h) (by rfl) (fun _ => ⟨HC1.out _ H.g, ⟨HC2.out _ H.g, (H.sub [] rfl)⟩⟩) (fun wx => ?_) ?_ ?_; rotate_left 2; (focus (go_simp; first | done | rfl)); (focus ((try simp only [Kr.PT]); first | done | rfl)))
          (refine Kr.tPQ 6 (v := ?_) (a' := ?_) rfl (by kernel_rfl) (fun _ _ _ h => h) (by rfl) (fun _ => ⟨HC1.out _ H.g, ⟨HC2.out _ H.g, (H.sub [] rfl)⟩⟩) (fun wx => ?_) ?_ ?_; rotate_left 2; (focus (go_simp; first | done | rfl)); (focus ((try simp only [Kr.PT]); first | done | rfl)))
          (refine Kr.tSQ 7 [] (v := ?_) (a' := ?_) rfl (by kernel_rfl) (fun _ _ _ h => h) (by rfl) ⟨HC1.out _ H.g, ⟨HC2.out _ H.g, (H.sub [] rfl)⟩⟩ (fun wx hSx => ?_) ?_ ?_; rotate_left 2; (focus (simp only [Kr.Cells] at hSx; go_simp; first | done | rfl)); (focus ((try simp only [Kr.PT]); first | done | rfl)))
          (refine Kr.tPQ 8 (v := .bool false) (a' := ?_) rfl (by kernel_rfl) (fun _ _ _ h => h) (by rfl) (fun _ => ⟨HC1.out _ H.g, ⟨HC2.out _ H.g, (H.sub [] rfl)⟩⟩) (fun wx => ?_) ?_ ?_; rotate_left 1; (focus (exact Kr.valOf rfl (neqI HE2.out))); (focus ((try simp only [Kr.PT]); first | done | rfl)))
          refine Kr.doneL (by kernel_rfl) ?_ _
          clear ha1 ha2
          have HADD : Hid (IntKind.i64.wrap ((j : Int) + 1) = ((j + 1 : Nat) : Int)) := Lib.hid (wrap_nat (by omega) (by have h1 := HJ.out; have h2 := HNB.out; omega))
          go_upto_region 8 with fail
          refine Kr.seqStartW ?_
          (refine Kr.seqQ (v := .int .i64 ((j + 1 : Nat) : Int)) (a' := ?_) (by rfl) ?_ ?_ ?_; rotate_left 1; (focus (exact Kr.valOf rfl (addI HADD.out))); (focus ((try simp only [Kr.PT]); first | done | rfl)))
          (refine Kr.seqQ (v := ?_) (a' := ?_) (by rfl) ?_ ?_ ?_; rotate_left 2; (focus (go_simp; first | done | rfl)); (focus ((try simp only [Kr.PT]); first | done | rfl)))
          refine Kr.seqDoneW ?_
          go_wp2
          go_roundw
          case rel => exact ⟨j + 1, HJ.out, rfl, HT2, Lib.hid H⟩
          case measure => simp [intOf]; have := HJ.out; omega
        · have HE2 : Hid ((!decide ((a : Int) = (b : Int))) = true) := Lib.hid (by simp; omega)
          obtain rfl : false = Q := by rw [← HQ.out]; refine (decide_eq_false ?_).symm; intro e; have h1 := HA.out; rw [e, HB.out] at h1; exact hab (Option.some.inj h1).symm
          clear hab
          go_upto_region 6 with fail
          refine Kr.startL (fun W' => W'.cell? ⟨g1, o1 + j, none⟩ = some (.int .i64 (a : Int)) ∧ W'.cell? ⟨g2, o2 + j, none⟩ = some (.int .i64 (b : Int)) ∧ Kr.Cells W' []) [] (by kernel_rfl) ?_
          have gd : Gr wr wr.drew := (Gr.refl _).drew
          generalize wr.drew = d4 at gd ⊢
          replace H := H.grow gd
          clear gd
          (refine Kr.tPQ 0 (v := ?_) (a' := ?_) rfl (by kernel_rfl) (fun _ _ _ h => h) (by rfl) (fun _ => ⟨HC1.out _ H.g, ⟨HC2.out _ H.g, (H.sub [] rfl)⟩⟩) (fun wx => ?_) ?_ ?_; rotate_left 2; (focus (go_simp; first | done | rfl)); (focus ((try simp only [Kr.PT]); first | done | rfl)))
          (refine Kr.tPQ 1 (v := ?_) (a' := ?_) rfl (by kernel_rfl) (fun _ _ _ h => h) (by rfl) (fun _ => ⟨HC1.out _ H.g, ⟨HC2.out _ H.g, (H.sub [] rfl)⟩⟩) (fun wx => ?_) ?_ ?_; rotate_left 2; (focus (go_simp; first | done | rfl)); (focus ((try simp only [Kr.PT]); first | done | rfl)))
          (refine Kr.tPQ 2 (v := ?_) (a' := ?_) rfl (by kernel_rfl) (fun _ _ _ h => h) (by rfl) (fun _ => ⟨HC1.out _ H.g, ⟨HC2.out _ H.g, (H.sub [] rfl)⟩⟩) (fun wx => ?_) ?_ ?_; rotate_left 2; (focus (go_simp; first | done | rfl)); (focus ((try simp only [Kr.PT]); first | done | rfl)))
          (refine Kr.tSQ 3 [] (v := ?_) (a' := ?_) rfl (by kernel_rfl) (fun _ _ _ h => h) (by rfl) ⟨HC1.out _ H.g, ⟨HC2.out _ H.g, (H.sub [] rfl)⟩⟩ (fun wx hSx => ?_) ?_ ?_; rotate_left 2; (focus (simp only [Kr.Cells] at hSx; go_simp; first | done | rfl)); (focus ((try simp only [Kr.PT]); first | done | rfl)))
          (refine Kr.tPQ 4 (v := ?_) (a' := ?_) rfl (by kernel_rfl) (fun _ _ _ h => h) (by rfl) (fun _ => ⟨HC1.out _ H.g, ⟨HC2.out _ H.g, (H.sub [] rfl)⟩⟩) (fun wx => ?_) ?_ ?_; rotate_left 2; (focus (go_simp; first | done | rfl)); (focus ((try simp only [Kr.PT]); first | done | rfl)))
          (refine Kr.tPQ 5 (v := ?_) (a' := ?_) rfl (by kernel_rfl) (fun _ _ _ h => h) (by rfl) (fun _ => ⟨HC1.out _ H.g, ⟨HC2.out _ H.g, (H.sub [] rfl)⟩⟩) (fun wx => ?_) ?_ ?_; rotate_left 2; (focus (go_simp; first | done | rfl)); (focus ((try simp only [Kr.PT]); first | done | rfl)))
          (refine Kr.tPQ 6 (v := ?_) (a' := ?_) rfl (by kernel_rfl) (fun _ _ _ h => h) (by rfl) (fun _ => ⟨HC1.out _ H.g, ⟨HC2.out _ H.g, (H.sub [] rfl)⟩⟩) (fun wx => ?_) ?_ ?_; rotate_left 2; (focus (go_simp; first | done | rfl)); (focus ((try simp only [Kr.PT]); first | done | rfl)))
          (refine Kr.tSQ 7 [] (v := ?_) (a' := ?_) rfl (by kernel_rfl) (fun _ _ _ h => h) (by rfl) ⟨HC1.out _ H.g, ⟨HC2.out _ H.g, (H.sub [] rfl)⟩⟩ (fun wx hSx => ?_) ?_ ?_; rotate_left 2; (focus (simp only [Kr.Cells] at hSx; go_simp; first | done | rfl)); (focus ((try simp only [Kr.PT]); first | done | rfl)))
          (refine Kr.tPQ 8 (v := .bool true) (a' := ?_) rfl (by kernel_rfl) (fun _ _ _ h => h) (by rfl) (fun _ => ⟨HC1.out _ H.g, ⟨HC2.out _ H.g, (H.sub [] rfl)⟩⟩) (fun wx => ?_) ?_ ?_; rotate_left 1; (focus (exact Kr.valOf rfl (neqI HE2.out))); (focus ((try simp only [Kr.PT]); first | done | rfl)))
          refine Kr.doneL (by kernel_rfl) ?_ _
          clear ha1 ha2
          go_upto_region 7 with fail
          refine Kr.seqStartW ?_
          (refine Kr.seqQ (v := ?_) (a' := ?_) (by rfl) ?_ ?_ ?_; rotate_left 2; (focus (go_simp; first | done | rfl)); (focus ((try simp only [Kr.PT]); first | done | rfl)))
          refine Kr.seqDoneW ?_
          have hk : True := trivial
          go_wp2
          refine bodyPost_ret (v := .bool false) (by simp [results, Tryd.results17, go_sem, hk]) rfl ⟨rfl, H.g⟩
  · have HE : Hid ((!decide ((n : Int) = (k : Int))) = true) := Lib.hid (by simp; omega)
    obtain rfl : Q = false := by rw [← HQ.out]; exact decide_eq_false (fun e => hnk (by rw [← HN.out, ← HK.out, e]))
    clear hnk
    go_upto_region 1 with fail
    refine Kr.seqStartW ?_
    iterate 4 (refine Kr.seqQ (v := ?_) (a' := ?_) (by rfl) ?_ ?_ ?_; rotate_left 2; (focus (go_simp; first | done | rfl)); (focus ((try simp only [Kr.PT]); first | done | rfl)))
    (refine Kr.seqQ (v := .bool true) (a' := ?_) (by rfl) ?_ ?_ ?_; rotate_left 1; (focus (exact Kr.valOf rfl (neqI HE.out))); (focus ((try simp only [Kr.PT]); first | done | rfl)))
    refine Kr.seqDoneW ?_
    go_upto_region 2 with fail
    refine Kr.seqStartW ?_
    (refine Kr.seqQ (v := ?_) (a' := ?_) (by rfl) ?_ ?_ ?_; rotate_left 2; (focus (go_simp; first | done | rfl)); (focus ((try simp only [Kr.PT]); first | done | rfl)))
    refine Kr.seqDoneW ?_
    have hk : True := trivial
    go_wp2
    refine bodyPost_ret (v := .bool false) (by simp [results, Tryd.results17, go_sem, hk]) rfl ⟨rfl, H.g⟩
end Go.Proofs.YtfompolklkehpaaDoor.Pr


/- The walk of PrimeTests, but for the examples. -/
namespace Go.Proofs.YtfompolklkehpaaDoor.Pr
open Go.RowKit Go.Shelf Go.Proofs.YtfompolklkehpaaDoor.Nm Go.Proofs.YtfompolklkehpaaDoor.Ne Go.Proofs.YtfompolklkehpaaDoor.Nf Go.Proofs.YtfompolklkehpaaDoor.Nk Go.Proofs.YtfompolklkehpaaDoor.Nv Go.Proofs.YtfompolklkehpaaDoor.Nr2 Go.Proofs.YtfompolklkehpaaDoor.Mo Go.Proofs.YtfompolklkehpaaDoor.Mr Go.Proofs.YtfompolklkehpaaDoor.Kr

theorem neqB {w : World} {b : Bool} : (binOp .neq 4 (.bool b) (.bool b)).run Tryd.prog w = .ok (.bool false) w := by
  cases b <;> go_simp
set_option linter.unusedSimpArgs false in
set_option maxRecDepth 100000 in
set_option maxHeartbeats 16000000 in
theorem tests_neg {n : Int} {w : World} (h : n < 0) (hT : Wb.Tab w ∧ Bas w) (haw : ∀ W, Gr w W → Calls Tryd.prog 10 #[] W fun e w' => e = .returned (.bool true) ∧ Gr W w') :
    Calls Tryd.prog 3 #[.int .i64 n] w fun r w' => r = .returned (.bool true) ∧ Gr w w' := by
  have HT := Lib.hid hT; have HAW := Lib.hid haw; clear hT haw
  have HLT := Lib.hid h; have HL : Hid (decide (n < 0) = true) := Lib.hid (decide_eq_true h); clear h
  have H := Sta.start w
  go_enter Tryd.func3, Tryd.ntmps3
  go_upto_region 0 with fail
  refine Kr.seqStartW ?_
  (refine Kr.seqQ (v := ?_) (a' := ?_) (by rfl) ?_ ?_ ?_; rotate_left 2; (focus (go_simp; first | done | rfl)); (focus ((try simp only [Kr.PT]); first | done | rfl)))
  refine Kr.seqDoneW ?_
  go_upto_region 1 with fail
  refine Kr.seqStartW ?_
  refine Kr.seqR (by rfl) (fun K hK => ?_)
  go_simp
  go_at_call 10
  refine (HAW.out _ H.g).mono ?_
  rintro e y1 ⟨rfl, hg⟩
  replace H := H.grow hg
  clear hg
  (refine Kr.outS hK (a' := ?_) ?_ ?_; rotate_left; (focus ((try simp only [Kr.PT]); first | done | rfl))); clear hK K
  (refine Kr.seqQ (v := ?_) (a' := ?_) (by rfl) ?_ ?_ ?_; rotate_left 2; (focus (go_simp; first | done | rfl)); (focus ((try simp only [Kr.PT]); first | done | rfl)))
  refine Kr.seqDoneW ?_
  go_upto_region 3 with fail
  refine Kr.seqStartW ?_
  (refine Kr.seqQ (v := ?_) (a' := ?_) (by rfl) ?_ ?_ ?_; rotate_left 2; (focus (go_simp; first | done | rfl)); (focus ((try simp only [Kr.PT]); first | done | rfl)))
  refine Kr.seqR (by rfl) (fun K hK => ?_)
  go_simp
  go_at_call 11
  refine (Next_neg HLT.out).mono ?_
  rintro e y2 ⟨rfl, hg⟩
  replace H := H.grow hg
  clear hg
  (refine Kr.outS hK (a' := ?_) ?_ ?_; rotate_left; (focus ((try simp only [Kr.PT]); first | done | rfl))); clear hK K
  iterate 5 (refine Kr.seqQ (v := ?_) (a' := ?_) (by rfl) ?_ ?_ ?_; rotate_left 2; (focus (go_simp; first | done | rfl)); (focus ((try simp only [Kr.PT]); first | done | rfl)))
  refine Kr.seqDoneW ?_
  go_upto_region 4 with fail
  refine Kr.seqStartW ?_
  (refine Kr.seqQ (v := ?_) (a' := ?_) (by rfl) ?_ ?_ ?_; rotate_left 2; (focus (go_simp; first | done | rfl)); (focus ((try simp only [Kr.PT]); first | done | rfl)))
  refine Kr.seqR (by rfl) (fun K hK => ?_)
  go_simp
  go_at_call 12
  refine (Is_low (by have := HLT.out; omega)).mono ?_
  rintro e y3 ⟨rfl, hg⟩
  replace H := H.grow hg
  clear hg
  (refine Kr.outS hK (a' := ?_) ?_ ?_; rotate_left; (focus ((try simp only [Kr.PT]); first | done | rfl))); clear hK K
  (refine Kr.seqQ (v := ?_) (a' := ?_) (by rfl) ?_ ?_ ?_; rotate_left 2; (focus (go_simp; first | done | rfl)); (focus ((try simp only [Kr.PT]); first | done | rfl)))
  refine Kr.seqR (by rfl) (fun K hK => ?_)
  go_simp
  go_at_call 13
  refine (rIs_low (by have := HLT.out; omega)).mono ?_
  rintro e y4 ⟨rfl, hg⟩
  replace H := H.grow hg
  clear hg
  (refine Kr.outS hK (a' := ?_) ?_ ?_; rotate_left; (focus ((try simp only [Kr.PT]); first | done | rfl))); clear hK K
  (refine Kr.seqQ (v := .bool false) (a' := ?_) (by rfl) ?_ ?_ ?_; rotate_left 1; (focus (exact Kr.valOf rfl (neqB))); (focus ((try simp only [Kr.PT]); first | done | rfl)))
  refine Kr.seqDoneW ?_
  go_upto_region 6 with fail
  refine Kr.seqStartW ?_
  (refine Kr.seqQ (v := ?_) (a' := ?_) (by rfl) ?_ ?_ ?_; rotate_left 2; (focus (go_simp; first | done | rfl)); (focus ((try simp only [Kr.PT]); first | done | rfl)))
  (refine Kr.seqQ (v := .bool true) (a' := ?_) (by rfl) ?_ ?_ ?_; rotate_left 1; (focus (exact Kr.valOf rfl (lssT HL.out))); (focus ((try simp only [Kr.PT]); first | done | rfl)))
  (refine Kr.seqQ (v := ?_) (a' := ?_) (by rfl) ?_ ?_ ?_; rotate_left 2; (focus (go_simp; first | done | rfl)); (focus ((try simp only [Kr.PT]); first | done | rfl)))
  (refine Kr.seqSkipQ (a' := ?_) (by rfl) ?_ ?_; rotate_left; (focus ((try simp only [Kr.PT]); first | done | rfl)))
  (refine Kr.seqSkipQ (a' := ?_) (by rfl) ?_ ?_; rotate_left; (focus ((try simp only [Kr.PT]); first | done | rfl)))
  (refine Kr.seqQ (v := ?_) (a' := ?_) (by rfl) ?_ ?_ ?_; rotate_left 2; (focus (go_simp; first | done | rfl)); (focus ((try simp only [Kr.PT]); first | done | rfl)))
  refine Kr.seqDoneW ?_
  go_upto_region 7 with fail
  refine Kr.seqStartW ?_
  iterate 7 (refine Kr.seqQ (v := ?_) (a' := ?_) (by rfl) ?_ ?_ ?_; rotate_left 2; (focus (go_simp; first | done | rfl)); (focus ((try simp only [Kr.PT]); first | done | rfl)))
  refine Kr.seqDoneW ?_
  have hk : True := trivial
  go_wp2
  refine bodyPost_ret (v := .bool true) (by simp [results, Tryd.results3, go_sem, hk]) rfl ⟨rfl, H.g⟩
set_option linter.unusedSimpArgs false in
set_option maxRecDepth 100000 in
set_option maxHeartbeats 16000000 in
theorem tests_big {n : Nat} {w : World} (h : 2305843009213693950 < n) (hn : n < 9223372036854775808) (hT : Wb.Tab w ∧ Bas w) (haw : ∀ W, Gr w W → Calls Tryd.prog 10 #[] W fun e w' => e = .returned (.bool true) ∧ Gr W w') :
    Calls Tryd.prog 3 #[.int .i64 (n : Int)] w fun r w' => r = .returned (.bool true) ∧ Gr w w' := by
  have HT := Lib.hid hT; have HAW := Lib.hid haw; clear hT haw
  have HN := Lib.hid hn; clear hn
  have HBIG := Lib.hid h; have HL : Hid (decide ((n : Int) < 0) = false) := Lib.hid (decide_eq_false (by omega)); have HG : Hid (decide ((2305843009213693950 : Int) < (n : Int)) = true) := Lib.hid (decide_eq_true (by omega)); clear h
  obtain ⟨b, hb⟩ : ∃ b, isP n = b := ⟨_, rfl⟩
  have HB := Lib.hid hb; clear hb
  have H := Sta.start w
  go_enter Tryd.func3, Tryd.ntmps3
  go_upto_region 0 with fail
  refine Kr.seqStartW ?_
  (refine Kr.seqQ (v := ?_) (a' := ?_) (by rfl) ?_ ?_ ?_; rotate_left 2; (focus (go_simp; first | done | rfl)); (focus ((try simp only [Kr.PT]); first | done | rfl)))
  refine Kr.seqDoneW ?_
  go_upto_region 1 with fail
  refine Kr.seqStartW ?_
  refine Kr.seqR (by rfl) (fun K hK => ?_)
  go_simp
  go_at_call 10
  refine (HAW.out _ H.g).mono ?_
  rintro e y1 ⟨rfl, hg⟩
  replace H := H.grow hg
  clear hg
  (refine Kr.outS hK (a' := ?_) ?_ ?_; rotate_left; (focus ((try simp only [Kr.PT]); first | done | rfl))); clear hK K
  (refine Kr.seqQ (v := ?_) (a' := ?_) (by rfl) ?_ ?_ ?_; rotate_left 2; (focus (go_simp; first | done | rfl)); (focus ((try simp only [Kr.PT]); first | done | rfl)))
  refine Kr.seqDoneW ?_
  go_upto_region 3 with fail
  refine Kr.seqStartW ?_
  (refine Kr.seqQ (v := ?_) (a' := ?_) (by rfl) ?_ ?_ ?_; rotate_left 2; (focus (go_simp; first | done | rfl)); (focus ((try simp only [Kr.PT]); first | done | rfl)))
  refine Kr.seqR (by rfl) (fun K hK => ?_)
  go_simp
  go_at_call 11
  refine (Next_big (by have := HBIG.out; omega)).mono ?_
  rintro e y2 ⟨rfl, hg⟩
  replace H := H.grow hg
  clear hg
  (refine Kr.outS hK (a' := ?_) ?_ ?_; rotate_left; (focus ((try simp only [Kr.PT]); first | done | rfl))); clear hK K
  iterate 5 (refine Kr.seqQ (v := ?_) (a' := ?_) (by rfl) ?_ ?_ ?_; rotate_left 2; (focus (go_simp; first | done | rfl)); (focus ((try simp only [Kr.PT]); first | done | rfl)))
  refine Kr.seqDoneW ?_
  go_upto_region 4 with fail
  refine Kr.seqStartW ?_
  (refine Kr.seqQ (v := ?_) (a' := ?_) (by rfl) ?_ ?_ ?_; rotate_left 2; (focus (go_simp; first | done | rfl)); (focus ((try simp only [Kr.PT]); first | done | rfl)))
  refine Kr.seqR (by rfl) (fun K hK => ?_)
  go_simp
  go_at_call 12
  have hP := Is_v (n := n) (w := y2) ⟨Tab_grow HT.out.1 H.g, Bas_grow HT.out.2 H.g⟩ HN.out
  rw [HB.out] at hP
  refine (hP).mono ?_
  rintro e y3 ⟨rfl, hg⟩
  replace H := H.grow hg
  clear hg
  clear hP
  (refine Kr.outS hK (a' := ?_) ?_ ?_; rotate_left; (focus ((try simp only [Kr.PT]); first | done | rfl))); clear hK K
  (refine Kr.seqQ (v := ?_) (a' := ?_) (by rfl) ?_ ?_ ?_; rotate_left 2; (focus (go_simp; first | done | rfl)); (focus ((try simp only [Kr.PT]); first | done | rfl)))
  refine Kr.seqR (by rfl) (fun K hK => ?_)
  go_simp
  go_at_call 13
  have hP := rIs_v (n := n) (w := y3) HN.out
  rw [HB.out] at hP
  refine (hP).mono ?_
  rintro e y4 ⟨rfl, hg⟩
  replace H := H.grow hg
  clear hg
  clear hP
  (refine Kr.outS hK (a' := ?_) ?_ ?_; rotate_left; (focus ((try simp only [Kr.PT]); first | done | rfl))); clear hK K
  (refine Kr.seqQ (v := .bool false) (a' := ?_) (by rfl) ?_ ?_ ?_; rotate_left 1; (focus (exact Kr.valOf rfl (neqB))); (focus ((try simp only [Kr.PT]); first | done | rfl)))
  refine Kr.seqDoneW ?_
  go_upto_region 6 with fail
  refine Kr.seqStartW ?_
  (refine Kr.seqQ (v := ?_) (a' := ?_) (by rfl) ?_ ?_ ?_; rotate_left 2; (focus (go_simp; first | done | rfl)); (focus ((try simp only [Kr.PT]); first | done | rfl)))
  (refine Kr.seqQ (v := .bool false) (a' := ?_) (by rfl) ?_ ?_ ?_; rotate_left 1; (focus (exact Kr.valOf rfl (lssT HL.out))); (focus ((try simp only [Kr.PT]); first | done | rfl)))
  iterate 2 (refine Kr.seqQ (v := ?_) (a' := ?_) (by rfl) ?_ ?_ ?_; rotate_left 2; (focus (go_simp; first | done | rfl)); (focus ((try simp only [Kr.PT]); first | done | rfl)))
  (refine Kr.seqQ (v := .bool true) (a' := ?_) (by rfl) ?_ ?_ ?_; rotate_left 1; (focus (exact Kr.valOf rfl (gtrI HG.out))); (focus ((try simp only [Kr.PT]); first | done | rfl)))
  (refine Kr.seqQ (v := ?_) (a' := ?_) (by rfl) ?_ ?_ ?_; rotate_left 2; (focus (go_simp; first | done | rfl)); (focus ((try simp only [Kr.PT]); first | done | rfl)))
  refine Kr.seqDoneW ?_
  go_upto_region 7 with fail
  refine Kr.seqStartW ?_
  iterate 7 (refine Kr.seqQ (v := ?_) (a' := ?_) (by rfl) ?_ ?_ ?_; rotate_left 2; (focus (go_simp; first | done | rfl)); (focus ((try simp only [Kr.PT]); first | done | rfl)))
  refine Kr.seqDoneW ?_
  have hk : True := trivial
  go_wp2
  refine bodyPost_ret (v := .bool true) (by simp [results, Tryd.results3, go_sem, hk]) rfl ⟨rfl, H.g⟩
set_option linter.unusedSimpArgs false in
set_option maxRecDepth 100000 in
set_option maxHeartbeats 16000000 in
theorem tests_ok {n : Nat} {w : World} (h : n ≤ 2305843009213693950) (hn : n < 9223372036854775808) (hT : Wb.Tab w ∧ Bas w) (haw : ∀ W, Gr w W → Calls Tryd.prog 10 #[] W fun e w' => e = .returned (.bool true) ∧ Gr W w') :
    Calls Tryd.prog 3 #[.int .i64 (n : Int)] w fun r w' => r = .returned (.bool true) ∧ Gr w w' := by
  have HT := Lib.hid hT; have HAW := Lib.hid haw; clear hT haw
  have HN := Lib.hid hn; clear hn
  have HSM := Lib.hid h; have HL : Hid (decide ((n : Int) < 0) = false) := Lib.hid (decide_eq_false (by omega)); have HG : Hid (decide ((2305843009213693950 : Int) < (n : Int)) = false) := Lib.hid (decide_eq_false (by omega)); clear h
  obtain ⟨b, hb⟩ : ∃ b, isP n = b := ⟨_, rfl⟩
  have HB := Lib.hid hb; clear hb
  have H := Sta.start w
  go_enter Tryd.func3, Tryd.ntmps3
  go_upto_region 0 with fail
  refine Kr.seqStartW ?_
  (refine Kr.seqQ (v := ?_) (a' := ?_) (by rfl) ?_ ?_ ?_; rotate_left 2; (focus (go_simp; first | done | rfl)); (focus ((try simp only [Kr.PT]); first | done | rfl)))
  refine Kr.seqDoneW ?_
  go_upto_region 1 with fail
  refine Kr.seqStartW ?_
  refine Kr.seqR (by rfl) (fun K hK => ?_)
  go_simp
  go_at_call 10
  refine (HAW.out _ H.g).mono ?_
  rintro e y1 ⟨rfl, hg⟩
  replace H := H.grow hg
  clear hg
  (refine Kr.outS hK (a' := ?_) ?_ ?_; rotate_left; (focus ((try simp only [Kr.PT]); first | done | rfl))); clear hK K
  (refine Kr.seqQ (v := ?_) (a' := ?_) (by rfl) ?_ ?_ ?_; rotate_left 2; (focus (go_simp; first | done | rfl)); (focus ((try simp only [Kr.PT]); first | done | rfl)))
  refine Kr.seqDoneW ?_
  go_upto_region 3 with fail
  refine Kr.seqStartW ?_
  (refine Kr.seqQ (v := ?_) (a' := ?_) (by rfl) ?_ ?_ ?_; rotate_left 2; (focus (go_simp; first | done | rfl)); (focus ((try simp only [Kr.PT]); first | done | rfl)))
  refine Kr.seqR (by rfl) (fun K hK => ?_)
  go_simp
  go_at_call 11
  refine (Next_v ⟨Tab_grow HT.out.1 H.g, Bas_grow HT.out.2 H.g⟩ HSM.out).mono ?_
  rintro e y2 ⟨p, hp, _, rfl, hg⟩
  have HP := Lib.hid hp; clear hp
  replace H := H.grow hg
  clear hg
  (refine Kr.outS hK (a' := ?_) ?_ ?_; rotate_left; (focus ((try simp only [Kr.PT]); first | done | rfl))); clear hK K
  iterate 5 (refine Kr.seqQ (v := ?_) (a' := ?_) (by rfl) ?_ ?_ ?_; rotate_left 2; (focus (go_simp; first | done | rfl)); (focus ((try simp only [Kr.PT]); first | done | rfl)))
  refine Kr.seqDoneW ?_
  go_upto_region 4 with fail
  refine Kr.seqStartW ?_
  (refine Kr.seqQ (v := ?_) (a' := ?_) (by rfl) ?_ ?_ ?_; rotate_left 2; (focus (go_simp; first | done | rfl)); (focus ((try simp only [Kr.PT]); first | done | rfl)))
  refine Kr.seqR (by rfl) (fun K hK => ?_)
  go_simp
  go_at_call 12
  have hP := Is_v (n := n) (w := y2) ⟨Tab_grow HT.out.1 H.g, Bas_grow HT.out.2 H.g⟩ HN.out
  rw [HB.out] at hP
  refine (hP).mono ?_
  rintro e y3 ⟨rfl, hg⟩
  replace H := H.grow hg
  clear hg
  clear hP
  (refine Kr.outS hK (a' := ?_) ?_ ?_; rotate_left; (focus ((try simp only [Kr.PT]); first | done | rfl))); clear hK K
  (refine Kr.seqQ (v := ?_) (a' := ?_) (by rfl) ?_ ?_ ?_; rotate_left 2; (focus (go_simp; first | done | rfl)); (focus ((try simp only [Kr.PT]); first | done | rfl)))
  refine Kr.seqR (by rfl) (fun K hK => ?_)
  go_simp
  go_at_call 13
  have hP := rIs_v (n := n) (w := y3) HN.out
  rw [HB.out] at hP
  refine (hP).mono ?_
  rintro e y4 ⟨rfl, hg⟩
  replace H := H.grow hg
  clear hg
  clear hP
  (refine Kr.outS hK (a' := ?_) ?_ ?_; rotate_left; (focus ((try simp only [Kr.PT]); first | done | rfl))); clear hK K
  (refine Kr.seqQ (v := .bool false) (a' := ?_) (by rfl) ?_ ?_ ?_; rotate_left 1; (focus (exact Kr.valOf rfl (neqB))); (focus ((try simp only [Kr.PT]); first | done | rfl)))
  refine Kr.seqDoneW ?_
  go_upto_region 6 with fail
  refine Kr.seqStartW ?_
  (refine Kr.seqQ (v := ?_) (a' := ?_) (by rfl) ?_ ?_ ?_; rotate_left 2; (focus (go_simp; first | done | rfl)); (focus ((try simp only [Kr.PT]); first | done | rfl)))
  (refine Kr.seqQ (v := .bool false) (a' := ?_) (by rfl) ?_ ?_ ?_; rotate_left 1; (focus (exact Kr.valOf rfl (lssT HL.out))); (focus ((try simp only [Kr.PT]); first | done | rfl)))
  iterate 2 (refine Kr.seqQ (v := ?_) (a' := ?_) (by rfl) ?_ ?_ ?_; rotate_left 2; (focus (go_simp; first | done | rfl)); (focus ((try simp only [Kr.PT]); first | done | rfl)))
  (refine Kr.seqQ (v := .bool false) (a' := ?_) (by rfl) ?_ ?_ ?_; rotate_left 1; (focus (exact Kr.valOf rfl (gtrI HG.out))); (focus ((try simp only [Kr.PT]); first | done | rfl)))
  (refine Kr.seqQ (v := ?_) (a' := ?_) (by rfl) ?_ ?_ ?_; rotate_left 2; (focus (go_simp; first | done | rfl)); (focus ((try simp only [Kr.PT]); first | done | rfl)))
  refine Kr.seqDoneW ?_
  go_upto_region 8 with fail
  refine Kr.seqStartW ?_
  iterate 5 (refine Kr.seqQ (v := ?_) (a' := ?_) (by rfl) ?_ ?_ ?_; rotate_left 2; (focus (go_simp; first | done | rfl)); (focus ((try simp only [Kr.PT]); first | done | rfl)))
  refine Kr.seqR (by rfl) (fun K hK => ?_)
  go_simp
  go_at_call 14
  refine (rNext_v HSM.out).mono ?_
  rintro e y5 ⟨p2, hp2, _, rfl, hg⟩
  obtain rfl := HP.out.unique hp2
  replace H := H.grow hg
  clear hg hp2
  have HEP : Hid (decide ((p : Int) = (p : Int)) = true) := Lib.hid (by simp)
  (refine Kr.outS hK (a' := ?_) ?_ ?_; rotate_left; (focus ((try simp only [Kr.PT]); first | done | rfl))); clear hK K
  (refine Kr.seqQ (v := .bool true) (a' := ?_) (by rfl) ?_ ?_ ?_; rotate_left 1; (focus (exact Kr.valOf rfl (eqlI HEP.out))); (focus ((try simp only [Kr.PT]); first | done | rfl)))
  iterate 2 (refine Kr.seqQ (v := ?_) (a' := ?_) (by rfl) ?_ ?_ ?_; rotate_left 2; (focus (go_simp; first | done | rfl)); (focus ((try simp only [Kr.PT]); first | done | rfl)))
  refine Kr.seqDoneW ?_
  have hk : True := trivial
  go_wp2
  refine bodyPost_ret (v := .bool true) (by simp [results, Tryd.results3, go_sem, hk]) rfl ⟨rfl, H.g⟩
end Go.Proofs.YtfompolklkehpaaDoor.Pr


/- The walk of PrimeFactors, but for the examples. -/
namespace Go.Proofs.YtfompolklkehpaaDoor.Pr
open Go.RowKit Go.Shelf Go.Proofs.YtfompolklkehpaaDoor.Nm Go.Proofs.YtfompolklkehpaaDoor.Ne Go.Proofs.YtfompolklkehpaaDoor.Nf Go.Proofs.YtfompolklkehpaaDoor.Nk Go.Proofs.YtfompolklkehpaaDoor.Nv Go.Proofs.YtfompolklkehpaaDoor.Nr2 Go.Proofs.YtfompolklkehpaaDoor.Mo Go.Proofs.YtfompolklkehpaaDoor.Mr Go.Proofs.YtfompolklkehpaaDoor.Kr

theorem fac_some {good bad : Value} {N : Nat} {l : List Nat} {w w' : World} {e : Ending} (hf : facs N = some l) (h : FacOut good bad N w e w') : ∃ v, e = .returned (.tuple #[v, good]) ∧ IntsV v l w' ∧ Gr w w' := by
  obtain ⟨hg, ⟨l2, v, h1, rfl, h2⟩ | ⟨h1, _⟩⟩ := h
  · rw [hf] at h1
    cases h1
    exact ⟨v, rfl, h2.ints, hg⟩
  · rw [hf] at h1; cases h1
theorem fac_none {good bad : Value} {N : Nat} {w w' : World} {e : Ending} (hf : facs N = none) (h : FacOut good bad N w e w') : e = .returned (.tuple #[.slice none 0 0, bad]) ∧ Gr w w' := by
  obtain ⟨hg, ⟨l2, v, h1, _⟩ | ⟨_, h2⟩⟩ := h
  · rw [hf] at h1; cases h1
  · exact ⟨h2, hg⟩
set_option linter.unusedSimpArgs false in
set_option maxRecDepth 100000 in
set_option maxHeartbeats 16000000 in
theorem factors_neg {n : Int} {w : World} (h : n < 1) (hT : Wb.Tab w ∧ Bas w) (haw : ∀ W, Gr w W → Calls Tryd.prog 10 #[] W fun e w' => e = .returned (.bool true) ∧ Gr W w') :
    Calls Tryd.prog 4 #[.int .i64 n] w fun r w' => r = .returned (.bool true) ∧ Gr w w' := by
  have HT := Lib.hid hT; have HAW := Lib.hid haw; clear hT haw
  have HLT := Lib.hid h; have HL : Hid (decide (n < 1) = true) := Lib.hid (decide_eq_true h); clear h
  have H := Sta.start w
  go_enter Tryd.func4, Tryd.ntmps4
  go_upto_region 0 with fail
  refine Kr.seqStartW ?_
  (refine Kr.seqQ (v := ?_) (a' := ?_) (by rfl) ?_ ?_ ?_; rotate_left 2; (focus (go_simp; first | done | rfl)); (focus ((try simp only [Kr.PT]); first | done | rfl)))
  refine Kr.seqDoneW ?_
  go_upto_region 1 with fail
  refine Kr.seqStartW ?_
  refine Kr.seqR (by rfl) (fun K hK => ?_)
  go_simp
  go_at_call 10
  refine (HAW.out _ H.g).mono ?_
  rintro e y1 ⟨rfl, hg⟩
  replace H := H.grow hg
  clear hg
  (refine Kr.outS hK (a' := ?_) ?_ ?_; rotate_left; (focus ((try simp only [Kr.PT]); first | done | rfl))); clear hK K
  (refine Kr.seqQ (v := ?_) (a' := ?_) (by rfl) ?_ ?_ ?_; rotate_left 2; (focus (go_simp; first | done | rfl)); (focus ((try simp only [Kr.PT]); first | done | rfl)))
  refine Kr.seqDoneW ?_
  go_upto_region 3 with fail
  refine Kr.seqStartW ?_
  (refine Kr.seqQ (v := ?_) (a' := ?_) (by rfl) ?_ ?_ ?_; rotate_left 2; (focus (go_simp; first | done | rfl)); (focus ((try simp only [Kr.PT]); first | done | rfl)))
  refine Kr.seqR (by rfl) (fun K hK => ?_)
  go_simp
  go_at_call 15
  refine (Factors_neg HLT.out).mono ?_
  rintro e y2 ⟨rfl, hg⟩
  replace H := H.grow hg
  clear hg
  (refine Kr.outS hK (a' := ?_) ?_ ?_; rotate_left; (focus ((try simp only [Kr.PT]); first | done | rfl))); clear hK K
  iterate 5 (refine Kr.seqQ (v := ?_) (a' := ?_) (by rfl) ?_ ?_ ?_; rotate_left 2; (focus (go_simp; first | done | rfl)); (focus ((try simp only [Kr.PT]); first | done | rfl)))
  refine Kr.seqDoneW ?_
  go_upto_region 4 with fail
  refine Kr.seqStartW ?_
  (refine Kr.seqQ (v := ?_) (a' := ?_) (by rfl) ?_ ?_ ?_; rotate_left 2; (focus (go_simp; first | done | rfl)); (focus ((try simp only [Kr.PT]); first | done | rfl)))
  (refine Kr.seqQ (v := .bool true) (a' := ?_) (by rfl) ?_ ?_ ?_; rotate_left 1; (focus (exact Kr.valOf rfl (lssT HL.out))); (focus ((try simp only [Kr.PT]); first | done | rfl)))
  (refine Kr.seqQ (v := ?_) (a' := ?_) (by rfl) ?_ ?_ ?_; rotate_left 2; (focus (go_simp; first | done | rfl)); (focus ((try simp only [Kr.PT]); first | done | rfl)))
  (refine Kr.seqSkipQ (a' := ?_) (by rfl) ?_ ?_; rotate_left; (focus ((try simp only [Kr.PT]); first | done | rfl)))
  (refine Kr.seqSkipQ (a' := ?_) (by rfl) ?_ ?_; rotate_left; (focus ((try simp only [Kr.PT]); first | done | rfl)))
  (refine Kr.seqQ (v := ?_) (a' := ?_) (by rfl) ?_ ?_ ?_; rotate_left 2; (focus (go_simp; first | done | rfl)); (focus ((try simp only [Kr.PT]); first | done | rfl)))
  refine Kr.seqDoneW ?_
  go_upto_region 5 with fail
  refine Kr.seqStartW ?_
  iterate 8 (refine Kr.seqQ (v := ?_) (a' := ?_) (by rfl) ?_ ?_ ?_; rotate_left 2; (focus (go_simp; first | done | rfl)); (focus ((try simp only [Kr.PT]); first | done | rfl)))
  refine Kr.seqDoneW ?_
  have hk : True := trivial
  go_wp2
  refine bodyPost_ret (v := .bool true) (by simp [results, Tryd.results4, go_sem, hk]) rfl ⟨rfl, H.g⟩
set_option linter.unusedSimpArgs false in
set_option maxRecDepth 100000 in
set_option maxHeartbeats 16000000 in
theorem factors_big {n : Int} {w : World} (h : 2305843009213693952 ≤ n) (hT : Wb.Tab w ∧ Bas w) (haw : ∀ W, Gr w W → Calls Tryd.prog 10 #[] W fun e w' => e = .returned (.bool true) ∧ Gr W w') :
    Calls Tryd.prog 4 #[.int .i64 n] w fun r w' => r = .returned (.bool true) ∧ Gr w w' := by
  have HT := Lib.hid hT; have HAW := Lib.hid haw; clear hT haw
  have HLT := Lib.hid h; have HL : Hid (decide (n < 1) = false) := Lib.hid (decide_eq_false (by omega)); have HG : Hid (decide ((2305843009213693952 : Int) ≤ n) = true) := Lib.hid (decide_eq_true h); clear h
  have H := Sta.start w
  go_enter Tryd.func4, Tryd.ntmps4
  go_upto_region 0 with fail
  refine Kr.seqStartW ?_
  (refine Kr.seqQ (v := ?_) (a' := ?_) (by rfl) ?_ ?_ ?_; rotate_left 2; (focus (go_simp; first | done | rfl)); (focus ((try simp only [Kr.PT]); first | done | rfl)))
  refine Kr.seqDoneW ?_
  go_upto_region 1 with fail
  refine Kr.seqStartW ?_
  refine Kr.seqR (by rfl) (fun K hK => ?_)
  go_simp
  go_at_call 10
  refine (HAW.out _ H.g).mono ?_
  rintro e y1 ⟨rfl, hg⟩
  replace H := H.grow hg
  clear hg
  (refine Kr.outS hK (a' := ?_) ?_ ?_; rotate_left; (focus ((try simp only [Kr.PT]); first | done | rfl))); clear hK K
  (refine Kr.seqQ (v := ?_) (a' := ?_) (by rfl) ?_ ?_ ?_; rotate_left 2; (focus (go_simp; first | done | rfl)); (focus ((try simp only [Kr.PT]); first | done | rfl)))
  refine Kr.seqDoneW ?_
  go_upto_region 3 with fail
  refine Kr.seqStartW ?_
  (refine Kr.seqQ (v := ?_) (a' := ?_) (by rfl) ?_ ?_ ?_; rotate_left 2; (focus (go_simp; first | done | rfl)); (focus ((try simp only [Kr.PT]); first | done | rfl)))
  refine Kr.seqR (by rfl) (fun K hK => ?_)
  go_simp
  go_at_call 15
  refine (Factors_big HLT.out).mono ?_
  rintro e y2 ⟨rfl, hg⟩
  replace H := H.grow hg
  clear hg
  (refine Kr.outS hK (a' := ?_) ?_ ?_; rotate_left; (focus ((try simp only [Kr.PT]); first | done | rfl))); clear hK K
  iterate 5 (refine Kr.seqQ (v := ?_) (a' := ?_) (by rfl) ?_ ?_ ?_; rotate_left 2; (focus (go_simp; first | done | rfl)); (focus ((try simp only [Kr.PT]); first | done | rfl)))
  refine Kr.seqDoneW ?_
  go_upto_region 4 with fail
  refine Kr.seqStartW ?_
  (refine Kr.seqQ (v := ?_) (a' := ?_) (by rfl) ?_ ?_ ?_; rotate_left 2; (focus (go_simp; first | done | rfl)); (focus ((try simp only [Kr.PT]); first | done | rfl)))
  (refine Kr.seqQ (v := .bool false) (a' := ?_) (by rfl) ?_ ?_ ?_; rotate_left 1; (focus (exact Kr.valOf rfl (lssT HL.out))); (focus ((try simp only [Kr.PT]); first | done | rfl)))
  iterate 2 (refine Kr.seqQ (v := ?_) (a' := ?_) (by rfl) ?_ ?_ ?_; rotate_left 2; (focus (go_simp; first | done | rfl)); (focus ((try simp only [Kr.PT]); first | done | rfl)))
  (refine Kr.seqQ (v := .bool true) (a' := ?_) (by rfl) ?_ ?_ ?_; rotate_left 1; (focus (exact Kr.valOf rfl (geqI HG.out))); (focus ((try simp only [Kr.PT]); first | done | rfl)))
  (refine Kr.seqQ (v := ?_) (a' := ?_) (by rfl) ?_ ?_ ?_; rotate_left 2; (focus (go_simp; first | done | rfl)); (focus ((try simp only [Kr.PT]); first | done | rfl)))
  refine Kr.seqDoneW ?_
  go_upto_region 5 with fail
  refine Kr.seqStartW ?_
  iterate 8 (refine Kr.seqQ (v := ?_) (a' := ?_) (by rfl) ?_ ?_ ?_; rotate_left 2; (focus (go_simp; first | done | rfl)); (focus ((try simp only [Kr.PT]); first | done | rfl)))
  refine Kr.seqDoneW ?_
  have hk : True := trivial
  go_wp2
  refine bodyPost_ret (v := .bool true) (by simp [results, Tryd.results4, go_sem, hk]) rfl ⟨rfl, H.g⟩
set_option linter.unusedSimpArgs false in
set_option maxRecDepth 100000 in
set_option maxHeartbeats 16000000 in
theorem factors_none {n : Nat} {w : World} (h1 : 0 < n) (hn : n < 2305843009213693952) (hf : facs n = none) (hT : Wb.Tab w ∧ Bas w) (haw : ∀ W, Gr w W → Calls Tryd.prog 10 #[] W fun e w' => e = .returned (.bool true) ∧ Gr W w') :
    Calls Tryd.prog 4 #[.int .i64 (n : Int)] w fun r w' => r = .returned (.bool true) ∧ Gr w w' := by
  have HT := Lib.hid hT; have HAW := Lib.hid haw; clear hT haw
  have HN := Lib.hid hn; have HN1 := Lib.hid h1; have HF := Lib.hid hf; have HL : Hid (decide ((n : Int) < 1) = false) := Lib.hid (decide_eq_false (by omega)); have HG : Hid (decide ((2305843009213693952 : Int) ≤ (n : Int)) = false) := Lib.hid (decide_eq_false (by omega)); clear hn h1 hf
  have H := Sta.start w
  go_enter Tryd.func4, Tryd.ntmps4
  go_upto_region 0 with fail
  refine Kr.seqStartW ?_
  (refine Kr.seqQ (v := ?_) (a' := ?_) (by rfl) ?_ ?_ ?_; rotate_left 2; (focus (go_simp; first | done | rfl)); (focus ((try simp only [Kr.PT]); first | done | rfl)))
  refine Kr.seqDoneW ?_
  go_upto_region 1 with fail
  refine Kr.seqStartW ?_
  refine Kr.seqR (by rfl) (fun K hK => ?_)
  go_simp
  go_at_call 10
  refine (HAW.out _ H.g).mono ?_
  rintro e y1 ⟨rfl, hg⟩
  replace H := H.grow hg
  clear hg
  (refine Kr.outS hK (a' := ?_) ?_ ?_; rotate_left; (focus ((try simp only [Kr.PT]); first | done | rfl))); clear hK K
  (refine Kr.seqQ (v := ?_) (a' := ?_) (by rfl) ?_ ?_ ?_; rotate_left 2; (focus (go_simp; first | done | rfl)); (focus ((try simp only [Kr.PT]); first | done | rfl)))
  refine Kr.seqDoneW ?_
  go_upto_region 3 with fail
  refine Kr.seqStartW ?_
  (refine Kr.seqQ (v := ?_) (a' := ?_) (by rfl) ?_ ?_ ?_; rotate_left 2; (focus (go_simp; first | done | rfl)); (focus ((try simp only [Kr.PT]); first | done | rfl)))
  refine Kr.seqR (by rfl) (fun K hK => ?_)
  go_simp
  go_at_call 15
  refine (((Factors_v ⟨Tab_grow HT.out.1 H.g, Bas_grow HT.out.2 H.g⟩ HN1.out HN.out).mono fun e w2 h => fac_none HF.out h)).mono ?_
  rintro e y2 ⟨rfl, hg⟩
  replace H := H.grow hg
  clear hg
  (refine Kr.outS hK (a' := ?_) ?_ ?_; rotate_left; (focus ((try simp only [Kr.PT]); first | done | rfl))); clear hK K
  iterate 5 (refine Kr.seqQ (v := ?_) (a' := ?_) (by rfl) ?_ ?_ ?_; rotate_left 2; (focus (go_simp; first | done | rfl)); (focus ((try simp only [Kr.PT]); first | done | rfl)))
  refine Kr.seqDoneW ?_
  go_upto_region 4 with fail
  refine Kr.seqStartW ?_
  (refine Kr.seqQ (v := ?_) (a' := ?_) (by rfl) ?_ ?_ ?_; rotate_left 2; (focus (go_simp; first | done | rfl)); (focus ((try simp only [Kr.PT]); first | done | rfl)))
  (refine Kr.seqQ (v := .bool false) (a' := ?_) (by rfl) ?_ ?_ ?_; rotate_left 1; (focus (exact Kr.valOf rfl (lssT HL.out))); (focus ((try simp only [Kr.PT]); first | done | rfl)))
  iterate 2 (refine Kr.seqQ (v := ?_) (a' := ?_) (by rfl) ?_ ?_ ?_; rotate_left 2; (focus (go_simp; first | done | rfl)); (focus ((try simp only [Kr.PT]); first | done | rfl)))
  (refine Kr.seqQ (v := .bool false) (a' := ?_) (by rfl) ?_ ?_ ?_; rotate_left 1; (focus (exact Kr.valOf rfl (geqI HG.out))); (focus ((try simp only [Kr.PT]); first | done | rfl)))
  (refine Kr.seqQ (v := ?_) (a' := ?_) (by rfl) ?_ ?_ ?_; rotate_left 2; (focus (go_simp; first | done | rfl)); (focus ((try simp only [Kr.PT]); first | done | rfl)))
  refine Kr.seqDoneW ?_
  go_upto_region 6 with fail
  refine Kr.seqStartW ?_
  (refine Kr.seqQ (v := ?_) (a' := ?_) (by rfl) ?_ ?_ ?_; rotate_left 2; (focus (go_simp; first | done | rfl)); (focus ((try simp only [Kr.PT]); first | done | rfl)))
  refine Kr.seqR (by rfl) (fun K hK => ?_)
  go_simp
  go_at_call 16
  refine (((rFactors_v HN1.out HN.out).mono fun e w2 h => fac_none HF.out h)).mono ?_
  rintro e y3 ⟨rfl, hg⟩
  replace H := H.grow hg
  clear hg
  (refine Kr.outS hK (a' := ?_) ?_ ?_; rotate_left; (focus ((try simp only [Kr.PT]); first | done | rfl))); clear hK K
  iterate 5 (refine Kr.seqQ (v := ?_) (a' := ?_) (by rfl) ?_ ?_ ?_; rotate_left 2; (focus (go_simp; first | done | rfl)); (focus ((try simp only [Kr.PT]); first | done | rfl)))
  refine Kr.seqDoneW ?_
  go_upto_region 7 with fail
  refine Kr.seqStartW ?_
  iterate 2 (refine Kr.seqQ (v := ?_) (a' := ?_) (by rfl) ?_ ?_ ?_; rotate_left 2; (focus (go_simp; first | done | rfl)); (focus ((try simp only [Kr.PT]); first | done | rfl)))
  refine Kr.seqDoneW ?_
  go_upto_region 8 with fail
  refine Kr.seqStartW ?_
  iterate 8 (refine Kr.seqQ (v := ?_) (a' := ?_) (by rfl) ?_ ?_ ?_; rotate_left 2; (focus (go_simp; first | done | rfl)); (focus ((try simp only [Kr.PT]); first | done | rfl)))
  refine Kr.seqDoneW ?_
  have hk : True := trivial
  go_wp2
  refine bodyPost_ret (v := .bool true) (by simp [results, Tryd.results4, go_sem, hk]) rfl ⟨rfl, H.g⟩
set_option linter.unusedSimpArgs false in
set_option maxRecDepth 100000 in
set_option maxHeartbeats 16000000 in
theorem factors_some {n : Nat} {l : List Nat} {w : World} (h1 : 0 < n) (hn : n < 2305843009213693952) (hf : facs n = some l) (hT : Wb.Tab w ∧ Bas w) (haw : ∀ W, Gr w W → Calls Tryd.prog 10 #[] W fun e w' => e = .returned (.bool true) ∧ Gr W w') :
    Calls Tryd.prog 4 #[.int .i64 (n : Int)] w fun r w' => r = .returned (.bool true) ∧ Gr w w' := by
  have HT := Lib.hid hT; have HAW := Lib.hid haw; clear hT haw
  have HN := Lib.hid hn; have HN1 := Lib.hid h1; have HF := Lib.hid hf; have HL : Hid (decide ((n : Int) < 1) = false) := Lib.hid (decide_eq_false (by omega)); have HG : Hid (decide ((2305843009213693952 : Int) ≤ (n : Int)) = false) := Lib.hid (decide_eq_false (by omega)); clear hn h1 hf
  have H := Sta.start w
  go_enter Tryd.func4, Tryd.ntmps4
  go_upto_region 0 with fail
  refine Kr.seqStartW ?_
  (refine Kr.seqQ (v := ?_) (a' := ?_) (by rfl) ?_ ?_ ?_; rotate_left 2; (focus (go_simp; first | done | rfl)); (focus ((try simp only [Kr.PT]); first | done | rfl)))
  refine Kr.seqDoneW ?_
  go_upto_region 1 with fail
  refine Kr.seqStartW ?_
  refine Kr.seqR (by rfl) (fun K hK => ?_)
  go_simp
  go_at_call 10
  refine (HAW.out _ H.g).mono ?_
  rintro e y1 ⟨rfl, hg⟩
  replace H := H.grow hg
  clear hg
  (refine Kr.outS hK (a' := ?_) ?_ ?_; rotate_left; (focus ((try simp only [Kr.PT]); first | done | rfl))); clear hK K
  (refine Kr.seqQ (v := ?_) (a' := ?_) (by rfl) ?_ ?_ ?_; rotate_left 2; (focus (go_simp; first | done | rfl)); (focus ((try simp only [Kr.PT]); first | done | rfl)))
  refine Kr.seqDoneW ?_
  go_upto_region 3 with fail
  refine Kr.seqStartW ?_
  (refine Kr.seqQ (v := ?_) (a' := ?_) (by rfl) ?_ ?_ ?_; rotate_left 2; (focus (go_simp; first | done | rfl)); (focus ((try simp only [Kr.PT]); first | done | rfl)))
  refine Kr.seqR (by rfl) (fun K hK => ?_)
  go_simp
  go_at_call 15
  refine ((Factors_v ⟨Tab_grow HT.out.1 H.g, Bas_grow HT.out.2 H.g⟩ HN1.out HN.out).mono fun e w2 h => fac_some HF.out h).mono ?_
  rintro e yA ⟨v1, rfl, hv, hg⟩
  have HV := Lib.hid hv; clear hv
  replace H := H.grow hg
  clear hg
  have HGR : Hid (Gr yA yA) := Lib.hid (Gr.refl _)
  (refine Kr.outS hK (a' := ?_) ?_ ?_; rotate_left; (focus ((try simp only [Kr.PT]); first | done | rfl))); clear hK K
  iterate 5 (refine Kr.seqQ (v := ?_) (a' := ?_) (by rfl) ?_ ?_ ?_; rotate_left 2; (focus (go_simp; first | done | rfl)); (focus ((try simp only [Kr.PT]); first | done | rfl)))
  refine Kr.seqDoneW ?_
  go_upto_region 4 with fail
  refine Kr.seqStartW ?_
  (refine Kr.seqQ (v := ?_) (a' := ?_) (by rfl) ?_ ?_ ?_; rotate_left 2; (focus (go_simp; first | done | rfl)); (focus ((try simp only [Kr.PT]); first | done | rfl)))
  (refine Kr.seqQ (v := .bool false) (a' := ?_) (by rfl) ?_ ?_ ?_; rotate_left 1; (focus (exact Kr.valOf rfl (lssT HL.out))); (focus ((try simp only [Kr.PT]); first | done | rfl)))
  iterate 2 (refine Kr.seqQ (v := ?_) (a' := ?_) (by rfl) ?_ ?_ ?_; rotate_left 2; (focus (go_simp; first | done | rfl)); (focus ((try simp only [Kr.PT]); first | done | rfl)))
  (refine Kr.seqQ (v := .bool false) (a' := ?_) (by rfl) ?_ ?_ ?_; rotate_left 1; (focus (exact Kr.valOf rfl (geqI HG.out))); (focus ((try simp only [Kr.PT]); first | done | rfl)))
  (refine Kr.seqQ (v := ?_) (a' := ?_) (by rfl) ?_ ?_ ?_; rotate_left 2; (focus (go_simp; first | done | rfl)); (focus ((try simp only [Kr.PT]); first | done | rfl)))
  refine Kr.seqDoneW ?_
  go_upto_region 6 with fail
  refine Kr.seqStartW ?_
  (refine Kr.seqQ (v := ?_) (a' := ?_) (by rfl) ?_ ?_ ?_; rotate_left 2; (focus (go_simp; first | done | rfl)); (focus ((try simp only [Kr.PT]); first | done | rfl)))
  refine Kr.seqR (by rfl) (fun K hK => ?_)
  go_simp
  go_at_call 16
  refine ((rFactors_v HN1.out HN.out).mono fun e w2 h => fac_some HF.out h).mono ?_
  rintro e yB ⟨v2, rfl, hv, hg⟩
  have HV2 := Lib.hid hv; clear hv
  replace HGR := Lib.hid (HGR.out.trans hg)
  replace H := H.grow hg
  clear hg
  have HGS : Hid (Gr yB yB) := Lib.hid (Gr.refl _)
  (refine Kr.outS hK (a' := ?_) ?_ ?_; rotate_left; (focus ((try simp only [Kr.PT]); first | done | rfl))); clear hK K
  iterate 5 (refine Kr.seqQ (v := ?_) (a' := ?_) (by rfl) ?_ ?_ ?_; rotate_left 2; (focus (go_simp; first | done | rfl)); (focus ((try simp only [Kr.PT]); first | done | rfl)))
  refine Kr.seqDoneW ?_
  go_upto_region 7 with fail
  refine Kr.seqStartW ?_
  iterate 2 (refine Kr.seqQ (v := ?_) (a' := ?_) (by rfl) ?_ ?_ ?_; rotate_left 2; (focus (go_simp; first | done | rfl)); (focus ((try simp only [Kr.PT]); first | done | rfl)))
  refine Kr.seqDoneW ?_
  go_upto_region 9 with fail
  refine Kr.seqStartW ?_
  iterate 5 (refine Kr.seqQ (v := ?_) (a' := ?_) (by rfl) ?_ ?_ ?_; rotate_left 2; (focus (go_simp; first | done | rfl)); (focus ((try simp only [Kr.PT]); first | done | rfl)))
  refine Kr.seqR (by rfl) (fun K hK => ?_)
  go_simp
  go_at_call 17
  have hP := equalI_v (HV.out.grow HGR.out) (HV2.out.grow HGS.out) (facs_len HN1.out HN.out HF.out)
  rw [decide_eq_true rfl] at hP
  refine (hP).mono ?_
  rintro e y2 ⟨rfl, hg⟩
  replace HGR := Lib.hid (HGR.out.trans hg)
  replace HGS := Lib.hid (HGS.out.trans hg)
  replace H := H.grow hg
  clear hg
  clear hP
  (refine Kr.outS hK (a' := ?_) ?_ ?_; rotate_left; (focus ((try simp only [Kr.PT]); first | done | rfl))); clear hK K
  iterate 2 (refine Kr.seqQ (v := ?_) (a' := ?_) (by rfl) ?_ ?_ ?_; rotate_left 2; (focus (go_simp; first | done | rfl)); (focus ((try simp only [Kr.PT]); first | done | rfl)))
  refine Kr.seqDoneW ?_
  have hk : True := trivial
  go_wp2
  refine bodyPost_ret (v := .bool true) (by simp [results, Tryd.results4, go_sem, hk]) rfl ⟨rfl, H.g⟩
end Go.Proofs.YtfompolklkehpaaDoor.Pr


/- The walk of PrimeRoots, but for the examples. -/
namespace Go.Proofs.YtfompolklkehpaaDoor.Pr
open Go.RowKit Go.Shelf Go.Proofs.YtfompolklkehpaaDoor.Nm Go.Proofs.YtfompolklkehpaaDoor.Ne Go.Proofs.YtfompolklkehpaaDoor.Nf Go.Proofs.YtfompolklkehpaaDoor.Nk Go.Proofs.YtfompolklkehpaaDoor.Nv Go.Proofs.YtfompolklkehpaaDoor.Nr2 Go.Proofs.YtfompolklkehpaaDoor.Mo Go.Proofs.YtfompolklkehpaaDoor.Mr Go.Proofs.YtfompolklkehpaaDoor.Kr

theorem root_some {p : Nat} {l : List Nat} {w w' : World} {e : Ending} (hf : facs (p - 1) = some l) (h : RootOut p w e w') : ∃ r : Nat, IsRoot p l r ∧ e = .returned (.tuple #[.int .i64 (r : Int), .int .i64 0]) ∧ Gr w w' := by
  obtain ⟨hg, ⟨l2, r, h1, h2, _, rfl⟩ | ⟨h1, _⟩⟩ := h
  · rw [hf] at h1
    cases h1
    exact ⟨r, h2, rfl, hg⟩
  · rw [hf] at h1; cases h1
theorem root_none {p : Nat} {w w' : World} {e : Ending} (hf : facs (p - 1) = none) (h : RootOut p w e w') : e = .returned (.tuple #[.int .i64 0, .int .i64 9]) ∧ Gr w w' := by
  obtain ⟨hg, ⟨l2, r, h1, _⟩ | ⟨_, h2⟩⟩ := h
  · rw [hf] at h1; cases h1
  · exact ⟨h2, hg⟩
set_option linter.unusedSimpArgs false in
set_option maxRecDepth 100000 in
set_option maxHeartbeats 16000000 in
theorem roots_low {n : Int} {w : World} (h : n < 2) (hT : Wb.Tab w ∧ Bas w) (haw : ∀ W, Gr w W → Calls Tryd.prog 10 #[] W fun e w' => e = .returned (.bool true) ∧ Gr W w') :
    Calls Tryd.prog 5 #[.int .i64 n] w fun r w' => r = .returned (.bool true) ∧ Gr w w' := by
  have HT := Lib.hid hT; have HAW := Lib.hid haw; clear hT haw
  have HLT := Lib.hid h; have HL : Hid (decide (n < 2) = true) := Lib.hid (decide_eq_true h); clear h
  have H := Sta.start w
  go_enter Tryd.func5, Tryd.ntmps5
  go_upto_region 0 with fail
  refine Kr.seqStartW ?_
  (refine Kr.seqQ (v := ?_) (a' := ?_) (by rfl) ?_ ?_ ?_; rotate_left 2; (focus (go_simp; first | done | rfl)); (focus ((try simp only [Kr.PT]); first | done | rfl)))
  refine Kr.seqDoneW ?_
  go_upto_region 1 with fail
  refine Kr.seqStartW ?_
  refine Kr.seqR (by rfl) (fun K hK => ?_)
  go_simp
  go_at_call 10
  refine (HAW.out _ H.g).mono ?_
  rintro e y1 ⟨rfl, hg⟩
  replace H := H.grow hg
  clear hg
  (refine Kr.outS hK (a' := ?_) ?_ ?_; rotate_left; (focus ((try simp only [Kr.PT]); first | done | rfl))); clear hK K
  (refine Kr.seqQ (v := ?_) (a' := ?_) (by rfl) ?_ ?_ ?_; rotate_left 2; (focus (go_simp; first | done | rfl)); (focus ((try simp only [Kr.PT]); first | done | rfl)))
  refine Kr.seqDoneW ?_
  go_upto_region 3 with fail
  refine Kr.seqStartW ?_
  (refine Kr.seqQ (v := ?_) (a' := ?_) (by rfl) ?_ ?_ ?_; rotate_left 2; (focus (go_simp; first | done | rfl)); (focus ((try simp only [Kr.PT]); first | done | rfl)))
  refine Kr.seqR (by rfl) (fun K hK => ?_)
  go_simp
  go_at_call 18
  refine (Root_no (fun W _ => before_no (by have := HLT.out; omega) (fun W2 _ => Is_low HLT.out))).mono ?_
  rintro e y2 ⟨rfl, hg⟩
  replace H := H.grow hg
  clear hg
  (refine Kr.outS hK (a' := ?_) ?_ ?_; rotate_left; (focus ((try simp only [Kr.PT]); first | done | rfl))); clear hK K
  iterate 5 (refine Kr.seqQ (v := ?_) (a' := ?_) (by rfl) ?_ ?_ ?_; rotate_left 2; (focus (go_simp; first | done | rfl)); (focus ((try simp only [Kr.PT]); first | done | rfl)))
  refine Kr.seqDoneW ?_
  go_upto_region 4 with fail
  refine Kr.seqStartW ?_
  (refine Kr.seqQ (v := ?_) (a' := ?_) (by rfl) ?_ ?_ ?_; rotate_left 2; (focus (go_simp; first | done | rfl)); (focus ((try simp only [Kr.PT]); first | done | rfl)))
  (refine Kr.seqQ (v := .bool true) (a' := ?_) (by rfl) ?_ ?_ ?_; rotate_left 1; (focus (exact Kr.valOf rfl (lssT HL.out))); (focus ((try simp only [Kr.PT]); first | done | rfl)))
  (refine Kr.seqQ (v := ?_) (a' := ?_) (by rfl) ?_ ?_ ?_; rotate_left 2; (focus (go_simp; first | done | rfl)); (focus ((try simp only [Kr.PT]); first | done | rfl)))
  (refine Kr.seqSkipQ (a' := ?_) (by rfl) ?_ ?_; rotate_left; (focus ((try simp only [Kr.PT]); first | done | rfl)))
  (refine Kr.seqSkipQ (a' := ?_) (by rfl) ?_ ?_; rotate_left; (focus ((try simp only [Kr.PT]); first | done | rfl)))
  iterate 2 (refine Kr.seqQ (v := ?_) (a' := ?_) (by rfl) ?_ ?_ ?_; rotate_left 2; (focus (go_simp; first | done | rfl)); (focus ((try simp only [Kr.PT]); first | done | rfl)))
  (refine Kr.seqSkipQ (a' := ?_) (by rfl) ?_ ?_; rotate_left; (focus ((try simp only [Kr.PT]); first | done | rfl)))
  (refine Kr.seqSkipQ (a' := ?_) (by rfl) ?_ ?_; rotate_left; (focus ((try simp only [Kr.PT]); first | done | rfl)))
  (refine Kr.seqSkipQ (a' := ?_) (by rfl) ?_ ?_; rotate_left; (focus ((try simp only [Kr.PT]); first | done | rfl)))
  (refine Kr.seqQ (v := ?_) (a' := ?_) (by rfl) ?_ ?_ ?_; rotate_left 2; (focus (go_simp; first | done | rfl)); (focus ((try simp only [Kr.PT]); first | done | rfl)))
  refine Kr.seqDoneW ?_
  go_upto_region 5 with fail
  refine Kr.seqStartW ?_
  iterate 7 (refine Kr.seqQ (v := ?_) (a' := ?_) (by rfl) ?_ ?_ ?_; rotate_left 2; (focus (go_simp; first | done | rfl)); (focus ((try simp only [Kr.PT]); first | done | rfl)))
  refine Kr.seqDoneW ?_
  have hk : True := trivial
  go_wp2
  refine bodyPost_ret (v := .bool true) (by simp [results, Tryd.results5, go_sem, hk]) rfl ⟨rfl, H.g⟩
set_option linter.unusedSimpArgs false in
set_option maxRecDepth 100000 in
set_option maxHeartbeats 16000000 in
theorem roots_big {n : Int} {w : World} (h : 2305843009213693952 ≤ n) (hT : Wb.Tab w ∧ Bas w) (haw : ∀ W, Gr w W → Calls Tryd.prog 10 #[] W fun e w' => e = .returned (.bool true) ∧ Gr W w') :
    Calls Tryd.prog 5 #[.int .i64 n] w fun r w' => r = .returned (.bool true) ∧ Gr w w' := by
  have HT := Lib.hid hT; have HAW := Lib.hid haw; clear hT haw
  have HLT := Lib.hid h; have HL : Hid (decide (n < 2) = false) := Lib.hid (decide_eq_false (by omega)); have HG : Hid (decide ((2305843009213693952 : Int) ≤ n) = true) := Lib.hid (decide_eq_true h); clear h
  have H := Sta.start w
  go_enter Tryd.func5, Tryd.ntmps5
  go_upto_region 0 with fail
  refine Kr.seqStartW ?_
  (refine Kr.seqQ (v := ?_) (a' := ?_) (by rfl) ?_ ?_ ?_; rotate_left 2; (focus (go_simp; first | done | rfl)); (focus ((try simp only [Kr.PT]); first | done | rfl)))
  refine Kr.seqDoneW ?_
  go_upto_region 1 with fail
  refine Kr.seqStartW ?_
  refine Kr.seqR (by rfl) (fun K hK => ?_)
  go_simp
  go_at_call 10
  refine (HAW.out _ H.g).mono ?_
  rintro e y1 ⟨rfl, hg⟩
  replace H := H.grow hg
  clear hg
  (refine Kr.outS hK (a' := ?_) ?_ ?_; rotate_left; (focus ((try simp only [Kr.PT]); first | done | rfl))); clear hK K
  (refine Kr.seqQ (v := ?_) (a' := ?_) (by rfl) ?_ ?_ ?_; rotate_left 2; (focus (go_simp; first | done | rfl)); (focus ((try simp only [Kr.PT]); first | done | rfl)))
  refine Kr.seqDoneW ?_
  go_upto_region 3 with fail
  refine Kr.seqStartW ?_
  (refine Kr.seqQ (v := ?_) (a' := ?_) (by rfl) ?_ ?_ ?_; rotate_left 2; (focus (go_simp; first | done | rfl)); (focus ((try simp only [Kr.PT]); first | done | rfl)))
  refine Kr.seqR (by rfl) (fun K hK => ?_)
  go_simp
  go_at_call 18
  refine (Root_no (fun W _ => before_big HLT.out)).mono ?_
  rintro e y2 ⟨rfl, hg⟩
  replace H := H.grow hg
  clear hg
  (refine Kr.outS hK (a' := ?_) ?_ ?_; rotate_left; (focus ((try simp only [Kr.PT]); first | done | rfl))); clear hK K
  iterate 5 (refine Kr.seqQ (v := ?_) (a' := ?_) (by rfl) ?_ ?_ ?_; rotate_left 2; (focus (go_simp; first | done | rfl)); (focus ((try simp only [Kr.PT]); first | done | rfl)))
  refine Kr.seqDoneW ?_
  go_upto_region 4 with fail
  refine Kr.seqStartW ?_
  (refine Kr.seqQ (v := ?_) (a' := ?_) (by rfl) ?_ ?_ ?_; rotate_left 2; (focus (go_simp; first | done | rfl)); (focus ((try simp only [Kr.PT]); first | done | rfl)))
  (refine Kr.seqQ (v := .bool false) (a' := ?_) (by rfl) ?_ ?_ ?_; rotate_left 1; (focus (exact Kr.valOf rfl (lssT HL.out))); (focus ((try simp only [Kr.PT]); first | done | rfl)))
  iterate 2 (refine Kr.seqQ (v := ?_) (a' := ?_) (by rfl) ?_ ?_ ?_; rotate_left 2; (focus (go_simp; first | done | rfl)); (focus ((try simp only [Kr.PT]); first | done | rfl)))
  (refine Kr.seqQ (v := .bool true) (a' := ?_) (by rfl) ?_ ?_ ?_; rotate_left 1; (focus (exact Kr.valOf rfl (geqI HG.out))); (focus ((try simp only [Kr.PT]); first | done | rfl)))
  iterate 2 (refine Kr.seqQ (v := ?_) (a' := ?_) (by rfl) ?_ ?_ ?_; rotate_left 2; (focus (go_simp; first | done | rfl)); (focus ((try simp only [Kr.PT]); first | done | rfl)))
  (refine Kr.seqSkipQ (a' := ?_) (by rfl) ?_ ?_; rotate_left; (focus ((try simp only [Kr.PT]); first | done | rfl)))
  (refine Kr.seqSkipQ (a' := ?_) (by rfl) ?_ ?_; rotate_left; (focus ((try simp only [Kr.PT]); first | done | rfl)))
  (refine Kr.seqSkipQ (a' := ?_) (by rfl) ?_ ?_; rotate_left; (focus ((try simp only [Kr.PT]); first | done | rfl)))
  (refine Kr.seqQ (v := ?_) (a' := ?_) (by rfl) ?_ ?_ ?_; rotate_left 2; (focus (go_simp; first | done | rfl)); (focus ((try simp only [Kr.PT]); first | done | rfl)))
  refine Kr.seqDoneW ?_
  go_upto_region 5 with fail
  refine Kr.seqStartW ?_
  iterate 7 (refine Kr.seqQ (v := ?_) (a' := ?_) (by rfl) ?_ ?_ ?_; rotate_left 2; (focus (go_simp; first | done | rfl)); (focus ((try simp only [Kr.PT]); first | done | rfl)))
  refine Kr.seqDoneW ?_
  have hk : True := trivial
  go_wp2
  refine bodyPost_ret (v := .bool true) (by simp [results, Tryd.results5, go_sem, hk]) rfl ⟨rfl, H.g⟩
set_option linter.unusedSimpArgs false in
set_option maxRecDepth 100000 in
set_option maxHeartbeats 16000000 in
theorem roots_no {n : Nat} {w : World} (h2 : 2 ≤ n) (hn : n < 2305843009213693952) (hp : isP n = false) (hT : Wb.Tab w ∧ Bas w) (haw : ∀ W, Gr w W → Calls Tryd.prog 10 #[] W fun e w' => e = .returned (.bool true) ∧ Gr W w') :
    Calls Tryd.prog 5 #[.int .i64 (n : Int)] w fun r w' => r = .returned (.bool true) ∧ Gr w w' := by
  have HT := Lib.hid hT; have HAW := Lib.hid haw; clear hT haw
  have HN := Lib.hid hn; have HN2 := Lib.hid h2; have HP := Lib.hid hp; have HL : Hid (decide ((n : Int) < 2) = false) := Lib.hid (decide_eq_false (by omega)); have HG : Hid (decide ((2305843009213693952 : Int) ≤ (n : Int)) = false) := Lib.hid (decide_eq_false (by omega)); clear hn h2 hp
  have H := Sta.start w
  go_enter Tryd.func5, Tryd.ntmps5
  go_upto_region 0 with fail
  refine Kr.seqStartW ?_
  (refine Kr.seqQ (v := ?_) (a' := ?_) (by rfl) ?_ ?_ ?_; rotate_left 2; (focus (go_simp; first | done | rfl)); (focus ((try simp only [Kr.PT]); first | done | rfl)))
  refine Kr.seqDoneW ?_
  go_upto_region 1 with fail
  refine Kr.seqStartW ?_
  refine Kr.seqR (by rfl) (fun K hK => ?_)
  go_simp
  go_at_call 10
  refine (HAW.out _ H.g).mono ?_
  rintro e y1 ⟨rfl, hg⟩
  replace H := H.grow hg
  clear hg
  (refine Kr.outS hK (a' := ?_) ?_ ?_; rotate_left; (focus ((try simp only [Kr.PT]); first | done | rfl))); clear hK K
  (refine Kr.seqQ (v := ?_) (a' := ?_) (by rfl) ?_ ?_ ?_; rotate_left 2; (focus (go_simp; first | done | rfl)); (focus ((try simp only [Kr.PT]); first | done | rfl)))
  refine Kr.seqDoneW ?_
  go_upto_region 3 with fail
  refine Kr.seqStartW ?_
  (refine Kr.seqQ (v := ?_) (a' := ?_) (by rfl) ?_ ?_ ?_; rotate_left 2; (focus (go_simp; first | done | rfl)); (focus ((try simp only [Kr.PT]); first | done | rfl)))
  refine Kr.seqR (by rfl) (fun K hK => ?_)
  go_simp
  go_at_call 18
  refine (Root_no (fun W g => before_no (by have := HN.out; omega) (fun W2 g2 => (Is_v (n := n) ⟨Tab_grow HT.out.1 (H.g.trans (g.trans g2)), Bas_grow HT.out.2 (H.g.trans (g.trans g2))⟩ (by have := HN.out; omega)).mono fun e w2 h => by rw [HP.out] at h; exact h))).mono ?_
  rintro e y2 ⟨rfl, hg⟩
  replace H := H.grow hg
  clear hg
  (refine Kr.outS hK (a' := ?_) ?_ ?_; rotate_left; (focus ((try simp only [Kr.PT]); first | done | rfl))); clear hK K
  iterate 5 (refine Kr.seqQ (v := ?_) (a' := ?_) (by rfl) ?_ ?_ ?_; rotate_left 2; (focus (go_simp; first | done | rfl)); (focus ((try simp only [Kr.PT]); first | done | rfl)))
  refine Kr.seqDoneW ?_
  go_upto_region 4 with fail
  refine Kr.seqStartW ?_
  (refine Kr.seqQ (v := ?_) (a' := ?_) (by rfl) ?_ ?_ ?_; rotate_left 2; (focus (go_simp; first | done | rfl)); (focus ((try simp only [Kr.PT]); first | done | rfl)))
  (refine Kr.seqQ (v := .bool false) (a' := ?_) (by rfl) ?_ ?_ ?_; rotate_left 1; (focus (exact Kr.valOf rfl (lssT HL.out))); (focus ((try simp only [Kr.PT]); first | done | rfl)))
  iterate 2 (refine Kr.seqQ (v := ?_) (a' := ?_) (by rfl) ?_ ?_ ?_; rotate_left 2; (focus (go_simp; first | done | rfl)); (focus ((try simp only [Kr.PT]); first | done | rfl)))
  (refine Kr.seqQ (v := .bool false) (a' := ?_) (by rfl) ?_ ?_ ?_; rotate_left 1; (focus (exact Kr.valOf rfl (geqI HG.out))); (focus ((try simp only [Kr.PT]); first | done | rfl)))
  iterate 3 (refine Kr.seqQ (v := ?_) (a' := ?_) (by rfl) ?_ ?_ ?_; rotate_left 2; (focus (go_simp; first | done | rfl)); (focus ((try simp only [Kr.PT]); first | done | rfl)))
  refine Kr.seqR (by rfl) (fun K hK => ?_)
  go_simp
  go_at_call 13
  have hP := rIs_v (n := n) (w := y2) (by have := HN.out; omega)
  rw [HP.out] at hP
  refine (hP).mono ?_
  rintro e y3 ⟨rfl, hg⟩
  replace H := H.grow hg
  clear hg
  clear hP
  (refine Kr.outS hK (a' := ?_) ?_ ?_; rotate_left; (focus ((try simp only [Kr.PT]); first | done | rfl))); clear hK K
  iterate 2 (refine Kr.seqQ (v := ?_) (a' := ?_) (by rfl) ?_ ?_ ?_; rotate_left 2; (focus (go_simp; first | done | rfl)); (focus ((try simp only [Kr.PT]); first | done | rfl)))
  refine Kr.seqDoneW ?_
  go_upto_region 5 with fail
  refine Kr.seqStartW ?_
  iterate 7 (refine Kr.seqQ (v := ?_) (a' := ?_) (by rfl) ?_ ?_ ?_; rotate_left 2; (focus (go_simp; first | done | rfl)); (focus ((try simp only [Kr.PT]); first | done | rfl)))
  refine Kr.seqDoneW ?_
  have hk : True := trivial
  go_wp2
  refine bodyPost_ret (v := .bool true) (by simp [results, Tryd.results5, go_sem, hk]) rfl ⟨rfl, H.g⟩
set_option linter.unusedSimpArgs false in
set_option maxRecDepth 100000 in
set_option maxHeartbeats 16000000 in
theorem roots_none {n : Nat} {w : World} (h2 : 2 ≤ n) (hn : n < 2305843009213693952) (hp : isP n = true) (hf : facs (n - 1) = none) (hT : Wb.Tab w ∧ Bas w) (haw : ∀ W, Gr w W → Calls Tryd.prog 10 #[] W fun e w' => e = .returned (.bool true) ∧ Gr W w') :
    Calls Tryd.prog 5 #[.int .i64 (n : Int)] w fun r w' => r = .returned (.bool true) ∧ Gr w w' := by
  have HT := Lib.hid hT; have HAW := Lib.hid haw; clear hT haw
  have HN := Lib.hid hn; have HN2 := Lib.hid h2; have HP := Lib.hid hp; have HL : Hid (decide ((n : Int) < 2) = false) := Lib.hid (decide_eq_false (by omega)); have HG : Hid (decide ((2305843009213693952 : Int) ≤ (n : Int)) = false) := Lib.hid (decide_eq_false (by omega)); clear hn h2 hp
  have HF := Lib.hid hf; clear hf
  obtain ⟨a, ha⟩ : ∃ a, n - 1 = a := ⟨_, rfl⟩
  have HA := Lib.hid ha; have HSUB : Hid (IntKind.i64.wrap ((n : Int) - 1) = (a : Int)) := Lib.hid (wrap_nat (by have := HN2.out; omega) (by have := HN.out; omega)); have HA1 : Hid (0 < a) := Lib.hid (by have := HN2.out; omega); have HAM : Hid (a < 2305843009213693952) := Lib.hid (by have := HN.out; omega); have HFA := Lib.hid (ha ▸ HF.out); clear ha
  have H := Sta.start w
  go_enter Tryd.func5, Tryd.ntmps5
  go_upto_region 0 with fail
  refine Kr.seqStartW ?_
  (refine Kr.seqQ (v := ?_) (a' := ?_) (by rfl) ?_ ?_ ?_; rotate_left 2; (focus (go_simp; first | done | rfl)); (focus ((try simp only [Kr.PT]); first | done | rfl)))
  refine Kr.seqDoneW ?_
  go_upto_region 1 with fail
  refine Kr.seqStartW ?_
  refine Kr.seqR (by rfl) (fun K hK => ?_)
  go_simp
  go_at_call 10
  refine (HAW.out _ H.g).mono ?_
  rintro e y1 ⟨rfl, hg⟩
  replace H := H.grow hg
  clear hg
  (refine Kr.outS hK (a' := ?_) ?_ ?_; rotate_left; (focus ((try simp only [Kr.PT]); first | done | rfl))); clear hK K
  (refine Kr.seqQ (v := ?_) (a' := ?_) (by rfl) ?_ ?_ ?_; rotate_left 2; (focus (go_simp; first | done | rfl)); (focus ((try simp only [Kr.PT]); first | done | rfl)))
  refine Kr.seqDoneW ?_
  go_upto_region 3 with fail
  refine Kr.seqStartW ?_
  (refine Kr.seqQ (v := ?_) (a' := ?_) (by rfl) ?_ ?_ ?_; rotate_left 2; (focus (go_simp; first | done | rfl)); (focus ((try simp only [Kr.PT]); first | done | rfl)))
  refine Kr.seqR (by rfl) (fun K hK => ?_)
  go_simp
  go_at_call 18
  refine (((Root_v ⟨Tab_grow HT.out.1 H.g, Bas_grow HT.out.2 H.g⟩ HP.out HN.out).mono fun e w2 h => root_none HF.out h)).mono ?_
  rintro e y2 ⟨rfl, hg⟩
  replace H := H.grow hg
  clear hg
  (refine Kr.outS hK (a' := ?_) ?_ ?_; rotate_left; (focus ((try simp only [Kr.PT]); first | done | rfl))); clear hK K
  iterate 5 (refine Kr.seqQ (v := ?_) (a' := ?_) (by rfl) ?_ ?_ ?_; rotate_left 2; (focus (go_simp; first | done | rfl)); (focus ((try simp only [Kr.PT]); first | done | rfl)))
  refine Kr.seqDoneW ?_
  go_upto_region 4 with fail
  refine Kr.seqStartW ?_
  (refine Kr.seqQ (v := ?_) (a' := ?_) (by rfl) ?_ ?_ ?_; rotate_left 2; (focus (go_simp; first | done | rfl)); (focus ((try simp only [Kr.PT]); first | done | rfl)))
  (refine Kr.seqQ (v := .bool false) (a' := ?_) (by rfl) ?_ ?_ ?_; rotate_left 1; (focus (exact Kr.valOf rfl (lssT HL.out))); (focus ((try simp only [Kr.PT]); first | done | rfl)))
  iterate 2 (refine Kr.seqQ (v := ?_) (a' := ?_) (by rfl) ?_ ?_ ?_; rotate_left 2; (focus (go_simp; first | done | rfl)); (focus ((try simp only [Kr.PT]); first | done | rfl)))
  (refine Kr.seqQ (v := .bool false) (a' := ?_) (by rfl) ?_ ?_ ?_; rotate_left 1; (focus (exact Kr.valOf rfl (geqI HG.out))); (focus ((try simp only [Kr.PT]); first | done | rfl)))
  iterate 3 (refine Kr.seqQ (v := ?_) (a' := ?_) (by rfl) ?_ ?_ ?_; rotate_left 2; (focus (go_simp; first | done | rfl)); (focus ((try simp only [Kr.PT]); first | done | rfl)))
  refine Kr.seqR (by rfl) (fun K hK => ?_)
  go_simp
  go_at_call 13
  have hP := rIs_v (n := n) (w := y2) (by have := HN.out; omega)
  rw [HP.out] at hP
  refine (hP).mono ?_
  rintro e y3 ⟨rfl, hg⟩
  replace H := H.grow hg
  clear hg
  clear hP
  (refine Kr.outS hK (a' := ?_) ?_ ?_; rotate_left; (focus ((try simp only [Kr.PT]); first | done | rfl))); clear hK K
  iterate 2 (refine Kr.seqQ (v := ?_) (a' := ?_) (by rfl) ?_ ?_ ?_; rotate_left 2; (focus (go_simp; first | done | rfl)); (focus ((try simp only [Kr.PT]); first | done | rfl)))
  refine Kr.seqDoneW ?_
  go_upto_region 6 with fail
  refine Kr.seqStartW ?_
  (refine Kr.seqQ (v := ?_) (a' := ?_) (by rfl) ?_ ?_ ?_; rotate_left 2; (focus (go_simp; first | done | rfl)); (focus ((try simp only [Kr.PT]); first | done | rfl)))
  (refine Kr.seqQ (v := .int .i64 (a : Int)) (a' := ?_) (by rfl) ?_ ?_ ?_; rotate_left 1; (focus (exact Kr.valOf rfl (subI HSUB.out))); (focus ((try simp only [Kr.PT]); first | done | rfl)))
  refine Kr.seqR (by rfl) (fun K hK => ?_)
  go_simp
  go_at_call 16
  refine (((rFactors_v HA1.out HAM.out).mono fun e w2 h => fac_none HFA.out h)).mono ?_
  rintro e y4 ⟨rfl, hg⟩
  replace H := H.grow hg
  clear hg
  (refine Kr.outS hK (a' := ?_) ?_ ?_; rotate_left; (focus ((try simp only [Kr.PT]); first | done | rfl))); clear hK K
  iterate 5 (refine Kr.seqQ (v := ?_) (a' := ?_) (by rfl) ?_ ?_ ?_; rotate_left 2; (focus (go_simp; first | done | rfl)); (focus ((try simp only [Kr.PT]); first | done | rfl)))
  refine Kr.seqDoneW ?_
  go_upto_region 7 with fail
  refine Kr.seqStartW ?_
  iterate 2 (refine Kr.seqQ (v := ?_) (a' := ?_) (by rfl) ?_ ?_ ?_; rotate_left 2; (focus (go_simp; first | done | rfl)); (focus ((try simp only [Kr.PT]); first | done | rfl)))
  refine Kr.seqDoneW ?_
  go_upto_region 8 with fail
  refine Kr.seqStartW ?_
  iterate 7 (refine Kr.seqQ (v := ?_) (a' := ?_) (by rfl) ?_ ?_ ?_; rotate_left 2; (focus (go_simp; first | done | rfl)); (focus ((try simp only [Kr.PT]); first | done | rfl)))
  refine Kr.seqDoneW ?_
  have hk : True := trivial
  go_wp2
  refine bodyPost_ret (v := .bool true) (by simp [results, Tryd.results5, go_sem, hk]) rfl ⟨rfl, H.g⟩
set_option linter.unusedSimpArgs false in
set_option maxRecDepth 100000 in
set_option maxHeartbeats 16000000 in
theorem roots_some {n : Nat} {l : List Nat} {w : World} (h2 : 2 ≤ n) (hn : n < 2305843009213693952) (hp : isP n = true) (hf : facs (n - 1) = some l) (hT : Wb.Tab w ∧ Bas w) (haw : ∀ W, Gr w W → Calls Tryd.prog 10 #[] W fun e w' => e = .returned (.bool true) ∧ Gr W w') :
    Calls Tryd.prog 5 #[.int .i64 (n : Int)] w fun r w' => r = .returned (.bool true) ∧ Gr w w' := by
  have HT := Lib.hid hT; have HAW := Lib.hid haw; clear hT haw
  have HN := Lib.hid hn; have HN2 := Lib.hid h2; have HP := Lib.hid hp; have HL : Hid (decide ((n : Int) < 2) = false) := Lib.hid (decide_eq_false (by omega)); have HG : Hid (decide ((2305843009213693952 : Int) ≤ (n : Int)) = false) := Lib.hid (decide_eq_false (by omega)); clear hn h2 hp
  have HF := Lib.hid hf; clear hf
  obtain ⟨a, ha⟩ : ∃ a, n - 1 = a := ⟨_, rfl⟩
  have HA := Lib.hid ha; have HSUB : Hid (IntKind.i64.wrap ((n : Int) - 1) = (a : Int)) := Lib.hid (wrap_nat (by have := HN2.out; omega) (by have := HN.out; omega)); have HA1 : Hid (0 < a) := Lib.hid (by have := HN2.out; omega); have HAM : Hid (a < 2305843009213693952) := Lib.hid (by have := HN.out; omega); have HFA := Lib.hid (ha ▸ HF.out); clear ha
  have H := Sta.start w
  go_enter Tryd.func5, Tryd.ntmps5
  go_upto_region 0 with fail
  refine Kr.seqStartW ?_
  (refine Kr.seqQ (v := ?_) (a' := ?_) (by rfl) ?_ ?_ ?_; rotate_left 2; (focus (go_simp; first | done | rfl)); (focus ((try simp only [Kr.PT]); first | done | rfl)))
  refine Kr.seqDoneW ?_
  go_upto_region 1 with fail
  refine Kr.seqStartW ?_
  refine Kr.seqR (by rfl) (fun K hK => ?_)
  go_simp
  go_at_call 10
  refine (HAW.out _ H.g).mono ?_
  rintro e y1 ⟨rfl, hg⟩
  replace H := H.grow hg
  clear hg
  (refine Kr.outS hK (a' := ?_) ?_ ?_; rotate_left; (focus ((try simp only [Kr.PT]); first | done | rfl))); clear hK K
  (refine Kr.seqQ (v := ?_) (a' := ?_) (by rfl) ?_ ?_ ?_; rotate_left 2; (focus (go_simp; first | done | rfl)); (focus ((try simp only [Kr.PT]); first | done | rfl)))
  refine Kr.seqDoneW ?_
  go_upto_region 3 with fail
  refine Kr.seqStartW ?_
  (refine Kr.seqQ (v := ?_) (a' := ?_) (by rfl) ?_ ?_ ?_; rotate_left 2; (focus (go_simp; first | done | rfl)); (focus ((try simp only [Kr.PT]); first | done | rfl)))
  refine Kr.seqR (by rfl) (fun K hK => ?_)
  go_simp
  go_at_call 18
  refine ((Root_v ⟨Tab_grow HT.out.1 H.g, Bas_grow HT.out.2 H.g⟩ HP.out HN.out).mono fun e w2 h => root_some HF.out h).mono ?_
  rintro e yA ⟨r, hr, rfl, hg⟩
  have HR := Lib.hid hr; clear hr
  replace H := H.grow hg
  clear hg
  (refine Kr.outS hK (a' := ?_) ?_ ?_; rotate_left; (focus ((try simp only [Kr.PT]); first | done | rfl))); clear hK K
  iterate 5 (refine Kr.seqQ (v := ?_) (a' := ?_) (by rfl) ?_ ?_ ?_; rotate_left 2; (focus (go_simp; first | done | rfl)); (focus ((try simp only [Kr.PT]); first | done | rfl)))
  refine Kr.seqDoneW ?_
  go_upto_region 4 with fail
  refine Kr.seqStartW ?_
  (refine Kr.seqQ (v := ?_) (a' := ?_) (by rfl) ?_ ?_ ?_; rotate_left 2; (focus (go_simp; first | done | rfl)); (focus ((try simp only [Kr.PT]); first | done | rfl)))
  (refine Kr.seqQ (v := .bool false) (a' := ?_) (by rfl) ?_ ?_ ?_; rotate_left 1; (focus (exact Kr.valOf rfl (lssT HL.out))); (focus ((try simp only [Kr.PT]); first | done | rfl)))
  iterate 2 (refine Kr.seqQ (v := ?_) (a' := ?_) (by rfl) ?_ ?_ ?_; rotate_left 2; (focus (go_simp; first | done | rfl)); (focus ((try simp only [Kr.PT]); first | done | rfl)))
  (refine Kr.seqQ (v := .bool false) (a' := ?_) (by rfl) ?_ ?_ ?_; rotate_left 1; (focus (exact Kr.valOf rfl (geqI HG.out))); (focus ((try simp only [Kr.PT]); first | done | rfl)))
  iterate 3 (refine Kr.seqQ (v := ?_) (a' := ?_) (by rfl) ?_ ?_ ?_; rotate_left 2; (focus (go_simp; first | done | rfl)); (focus ((try simp only [Kr.PT]); first | done | rfl)))
  refine Kr.seqR (by rfl) (fun K hK => ?_)
  go_simp
  go_at_call 13
  have hP := rIs_v (n := n) (w := yA) (by have := HN.out; omega)
  rw [HP.out] at hP
  refine (hP).mono ?_
  rintro e y2 ⟨rfl, hg⟩
  replace H := H.grow hg
  clear hg
  clear hP
  (refine Kr.outS hK (a' := ?_) ?_ ?_; rotate_left; (focus ((try simp only [Kr.PT]); first | done | rfl))); clear hK K
  iterate 2 (refine Kr.seqQ (v := ?_) (a' := ?_) (by rfl) ?_ ?_ ?_; rotate_left 2; (focus (go_simp; first | done | rfl)); (focus ((try simp only [Kr.PT]); first | done | rfl)))
  refine Kr.seqDoneW ?_
  go_upto_region 6 with fail
  refine Kr.seqStartW ?_
  (refine Kr.seqQ (v := ?_) (a' := ?_) (by rfl) ?_ ?_ ?_; rotate_left 2; (focus (go_simp; first | done | rfl)); (focus ((try simp only [Kr.PT]); first | done | rfl)))
  (refine Kr.seqQ (v := .int .i64 (a : Int)) (a' := ?_) (by rfl) ?_ ?_ ?_; rotate_left 1; (focus (exact Kr.valOf rfl (subI HSUB.out))); (focus ((try simp only [Kr.PT]); first | done | rfl)))
  refine Kr.seqR (by rfl) (fun K hK => ?_)
  go_simp
  go_at_call 16
  refine ((rFactors_v HA1.out HAM.out).mono fun e w2 h => fac_some HFA.out h).mono ?_
  rintro e yB ⟨v2, rfl, hv, hg⟩
  have HV2 := Lib.hid hv; clear hv
  replace H := H.grow hg
  clear hg
  have HGS : Hid (Gr yB yB) := Lib.hid (Gr.refl _)
  (refine Kr.outS hK (a' := ?_) ?_ ?_; rotate_left; (focus ((try simp only [Kr.PT]); first | done | rfl))); clear hK K
  iterate 5 (refine Kr.seqQ (v := ?_) (a' := ?_) (by rfl) ?_ ?_ ?_; rotate_left 2; (focus (go_simp; first | done | rfl)); (focus ((try simp only [Kr.PT]); first | done | rfl)))
  refine Kr.seqDoneW ?_
  go_upto_region 7 with fail
  refine Kr.seqStartW ?_
  iterate 2 (refine Kr.seqQ (v := ?_) (a' := ?_) (by rfl) ?_ ?_ ?_; rotate_left 2; (focus (go_simp; first | done | rfl)); (focus ((try simp only [Kr.PT]); first | done | rfl)))
  refine Kr.seqDoneW ?_
  go_upto_region 9 with fail
  refine Kr.seqStartW ?_
  iterate 6 (refine Kr.seqQ (v := ?_) (a' := ?_) (by rfl) ?_ ?_ ?_; rotate_left 2; (focus (go_simp; first | done | rfl)); (focus ((try simp only [Kr.PT]); first | done | rfl)))
  refine Kr.seqR (by rfl) (fun K hK => ?_)
  go_simp
  go_at_call 19
  refine (rRoot_v (HV2.out.grow HGS.out) (facs_len HA1.out HAM.out HFA.out) HN2.out HN.out (fun q hq => by have h := facs_le HA1.out HFA.out q hq; rw [HA.out]; exact h)).mono ?_
  rintro e y3 ⟨r2, hr2, rfl, hg⟩
  obtain rfl := HR.out.unique hr2
  replace HGS := Lib.hid (HGS.out.trans hg)
  replace H := H.grow hg
  clear hg hr2
  have HEP : Hid (decide ((r : Int) = (r : Int)) = true) := Lib.hid (by simp)
  (refine Kr.outS hK (a' := ?_) ?_ ?_; rotate_left; (focus ((try simp only [Kr.PT]); first | done | rfl))); clear hK K
  (refine Kr.seqQ (v := .bool true) (a' := ?_) (by rfl) ?_ ?_ ?_; rotate_left 1; (focus (exact Kr.valOf rfl (eqlI HEP.out))); (focus ((try simp only [Kr.PT]); first | done | rfl)))
  iterate 2 (refine Kr.seqQ (v := ?_) (a' := ?_) (by rfl) ?_ ?_ ?_; rotate_left 2; (focus (go_simp; first | done | rfl)); (focus ((try simp only [Kr.PT]); first | done | rfl)))
  refine Kr.seqDoneW ?_
  have hk : True := trivial
  go_wp2
  refine bodyPost_ret (v := .bool true) (by simp [results, Tryd.results5, go_sem, hk]) rfl ⟨rfl, H.g⟩
end Go.Proofs.YtfompolklkehpaaDoor.Pr


/- Certify. -/
namespace Go.Proofs.YtfompolklkehpaaDoor.Pr
open Go.RowKit Go.Shelf Go.Proofs.YtfompolklkehpaaDoor.Nm Go.Proofs.YtfompolklkehpaaDoor.Ne Go.Proofs.YtfompolklkehpaaDoor.Nf Go.Proofs.YtfompolklkehpaaDoor.Nk Go.Proofs.YtfompolklkehpaaDoor.Nv Go.Proofs.YtfompolklkehpaaDoor.Nr2 Go.Proofs.YtfompolklkehpaaDoor.Mo Go.Proofs.YtfompolklkehpaaDoor.Mr Go.Proofs.YtfompolklkehpaaDoor.Kr

/-- The end of a certificate. -/
noncomputable def fin (n : Nat) (l : List Nat) (x : Nat × List Ct) : Nat × Ct := if x.1 = 0 then (0, .mk (digs n) (digs (rootOf n l)) x.2) else (x.1, .mk [] [] [])
theorem cert_no {k n : Nat} (h : isP n = false) : cert (k + 1) n = (1, .mk [] [] []) := by rw [cert, h]; rfl
theorem cert_none {k n : Nat} (h : isP n = true) (hf : facs (n - 1) = none) : cert (k + 1) n = (9, .mk [] [] []) := by rw [cert, if_pos h, hf]
theorem cert_some {k n : Nat} {l : List Nat} (h : isP n = true) (hf : facs (n - 1) = some l) : cert (k + 1) n = fin n l (certsBy (cert k) l) := by rw [cert, if_pos h, hf]; rfl
/-- What Certify hands back. -/
def CertOut (k n : Nat) (w : World) (e : Ending) (w' : World) : Prop :=
  Gr w w' ∧ (((cert k n).1 = 0 ∧ ∃ v, e = .returned (.tuple #[v, .int .i64 0]) ∧ CertI w' w.heap.size w'.heap.size k v (cert k n).2) ∨
    ((cert k n).1 ≠ 0 ∧ e = .returned (.tuple #[.agg #[.slice none 0 0, .slice none 0 0, .slice none 0 0], .int .i64 (((cert k n).1 : Nat) : Int)])))
theorem CertOut.good {k n : Nat} {w w' : World} {e : Ending} (h : CertOut k n w e w') (h0 : (cert k n).1 = 0) : ∃ (qn : Option Addr) (mn dn : Nat) (qr : Option Addr) (mr dr : Nat) (qp : Option Addr) (mp dp : Nat),
    e = .returned (.tuple #[.agg #[.slice qn mn dn, .slice qr mr dr, .slice qp mp dp], .int .i64 0]) ∧ CertI w' w.heap.size w'.heap.size k (.agg #[.slice qn mn dn, .slice qr mr dr, .slice qp mp dp]) (cert k n).2 ∧ Gr w w' := by
  obtain ⟨g, ⟨_, v, rfl, hc⟩ | ⟨h1, _⟩⟩ := h
  · obtain ⟨qn, mn, dn, qr, mr, dr, qp, mp, dp, rfl⟩ := hc.cert.shape
    exact ⟨qn, mn, dn, qr, mr, dr, qp, mp, dp, rfl, hc, g⟩
  · exact absurd h0 h1
theorem CertOut.bad {k n : Nat} {w w' : World} {e : Ending} (h : CertOut k n w e w') (h0 : (cert k n).1 ≠ 0) :
    e = .returned (.tuple #[.agg #[.slice none 0 0, .slice none 0 0, .slice none 0 0], .int .i64 (((cert k n).1 : Nat) : Int)]) ∧ Gr w w' := by
  obtain ⟨g, ⟨h1, _⟩ | ⟨_, h1⟩⟩ := h
  · exact absurd h1 h0
  · exact ⟨h1, g⟩
theorem PartI.grow {W W' : World} {B K : Nat} {row : Option Nat} {v : Value} {d : Ct} (h : PartI W B row K v d) (g : Gr W W') : PartI W' B row K v d := by
  obtain ⟨s, e, hs, he, hr, hc⟩ := h
  exact ⟨s, e, hs, Nat.le_trans he g.size, hr, hc.kept (same2_gr g he)⟩
theorem Parts3.base {B K : Nat} {v : Value} {ps : List Ct} {W : World} (h : Parts3 B K v ps W) : B ≤ W.heap.size := h.1
theorem Parts3.row {B K : Nat} {v : Value} {ps : List Ct} {W : World} (h : Parts3 B K v ps W) : ∀ k, v.ownBlock = some k → B ≤ k ∧ k < W.heap.size := by
  obtain ⟨_, vs, h1, _⟩ := h
  exact h1.lt
theorem infoC : (Tryd.prog.info? 46).map (fun i => (i.zero, i.size, i.bytes)) = some (some (.agg #[.slice none 0 0, .slice none 0 0, .slice none 0 0]), 3, 72) := by kernel_rfl
theorem one_cert (w : World) (u0 u1 u2 : Value) : ∀ (j : Nat) (u : Value), ([u0, u1, u2])[j]? = some u → (w.alloc (.cells #[u0, u1, u2] 46)).cell? ((⟨w.heap.size, 0, none⟩ : Addr).add j) = some u :=
  World.news_of_block (heap_alloc_new _ _)
theorem neqX {w : World} {x : Nat} {b : Bool} (h : decide (x ≠ 0) = b) : (binOp .neq 23 (.int .i64 (x : Int)) (.int .i64 0)).run Tryd.prog w = .ok (.bool b) w := by
  have e : ((x : Int) != 0) = b := by
    rw [← h]
    by_cases hx : x = 0 <;> simp [hx]
  clear h
  go_simp
  first | done | exact e
/-- The words lie below what is there. -/
theorem InI_top {W : World} {s e : Nat} {p : Option Addr} {n c : Nat} {l : List Nat} (h : InI s e p n) (hn : Nw W p n c l) : InI s W.heap.size p n := by
  rcases h with h | h
  · exact .inl h
  · rcases hn.rd with h0 | ⟨b, off, rfl, hc⟩
    · left; rw [← hn.len, h0]; rfl
    · rcases Nat.eq_zero_or_pos l.length with h0 | h0
      · left; rw [← hn.len]; exact h0
      · exact .inr fun a ha => ⟨(h a ha).1, by cases ha; exact World.block_lt_of_cell? W _ (hc 0 h0)⟩
/-- A number has been handed back, made anew. -/
def HasI (z : Nat) (w : World) (e : Ending) (w' : World) : Prop :=
  ∃ (p : Option Addr) (n c : Nat), e = .returned (.agg #[.slice p n c]) ∧ Nw w' p n c (digs z) ∧ InI w.heap.size w'.heap.size p n ∧ Gr w w'
set_option linter.unusedSimpArgs false in
set_option maxRecDepth 100000 in
set_option maxHeartbeats 16000000 in
theorem of_own {x : Nat} {w : World} (hx : x < 9223372036854775808) :
    Calls Tryd.prog 47 #[.int .i64 (x : Int)] w (HasI x w) := by
  have HX := Lib.hid hx; clear hx
  have H := Sta.start w
  go_enter Tryd.func47, Tryd.ntmps47
  go_upto_region 0 with fail
  refine Kr.seqStartW ?_
  refine Kr.seqR (by rfl) (fun K hK => ?_)
  go_simp
  obtain ⟨y1, hy⟩ : ∃ y, w.alloc (.cells #[.slice none 0 0] 43) = y := ⟨_, rfl⟩
  obtain ⟨br, hb⟩ : ∃ b, w.heap.size = b := ⟨_, rfl⟩
  rw [hy, hb]
  replace H := H.alloc hy hb rfl
  clear hy hb
  (refine Kr.outS hK (a' := ?_) ?_ ?_; rotate_left; (focus ((try simp only [Kr.PT]); first | done | rfl))); clear hK K
  refine Kr.seqDoneW ?_
  go_upto_region 1 with fail
  refine Kr.seqStartW ?_
  (refine Kr.seqQ (v := ?_) (a' := ?_) (by rfl) ?_ ?_ ?_; rotate_left 2; (focus (go_simp; first | done | rfl)); (focus ((try simp only [Kr.PT]); first | done | rfl)))
  refine Kr.seqR (by rfl) (fun K hK => ?_)
  go_simp
  go_at_call 69
  refine (Of_v (x := x) HX.out).mono ?_
  rintro e y2 ⟨p9, n9, c9, rfl, hr, hg⟩
  have hm : w.heap.size ≤ y1.heap.size := H.g.size
  have HI := Lib.hid ((inI_of hr).mono hm (Nat.le_refl _))
  replace H := H.grow hg
  replace H := H.num hr.toNw
  clear hr hg hm
  obtain ⟨E9, hE9⟩ : ∃ E, y2.heap.size = E := ⟨_, rfl⟩
  rw [hE9] at HI
  have HE9 : Hid (Gr y2 y2) := Lib.hid (Gr.refl _)
  clear hE9 HE9
  (refine Kr.outS hK (a' := ?_) ?_ ?_; rotate_left; (focus ((try simp only [Kr.PT]); first | done | rfl))); clear hK K
  iterate 3 (refine Kr.seqQ (v := ?_) (a' := ?_) (by rfl) ?_ ?_ ?_; rotate_left 2; (focus (go_simp; first | done | rfl)); (focus ((try simp only [Kr.PT]); first | done | rfl)))
  refine Kr.seqR (by rfl) (fun K hK => ?_)
  go_simp
  obtain ⟨y3, hy⟩ : ∃ y, y2.alloc (.cells #[.slice none 0 0] 43) = y := ⟨_, rfl⟩
  obtain ⟨bn, hb⟩ : ∃ b, y2.heap.size = b := ⟨_, rfl⟩
  rw [hy, hb]
  replace H := H.alloc hy hb rfl
  clear hy hb
  (refine Kr.outS hK (a' := ?_) ?_ ?_; rotate_left; (focus ((try simp only [Kr.PT]); first | done | rfl))); clear hK K
  have hk := H.c
  simp only [Kr.Cells] at hk
  refine Kr.seqR (by rfl) (fun K hK => ?_)
  go_simp
  clear hk
  obtain ⟨y4, hy⟩ : ∃ y, y3.setCell ⟨bn, 0, none⟩ (.slice p9 n9 c9) = y := ⟨_, rfl⟩
  rw [hy]
  replace H := H.store 0 hy rfl rfl
  dsimp only [List.set] at H
  clear hy
  (refine Kr.outS hK (a' := ?_) ?_ ?_; rotate_left; (focus ((try simp only [Kr.PT]); first | done | rfl))); clear hK K
  (refine Kr.seqQ (v := ?_) (a' := ?_) (by rfl) ?_ ?_ ?_; rotate_left 2; (focus (go_simp; first | done | rfl)); (focus ((try simp only [Kr.PT]); first | done | rfl)))
  refine Kr.seqDoneW ?_
  go_upto_region 2 with fail
  refine Kr.seqStartW ?_
  have hk := H.c
  simp only [Kr.Cells] at hk
  (refine Kr.seqQ (v := ?_) (a' := ?_) (by rfl) ?_ ?_ ?_; rotate_left 2; (focus (go_simp; first | done | rfl)); (focus ((try simp only [Kr.PT]); first | done | rfl)))
  refine Kr.seqR (by rfl) (fun K hK => ?_)
  go_simp
  clear hk
  obtain ⟨y5, hy⟩ : ∃ y, y4.setCell ⟨br, 0, none⟩ (.slice p9 n9 c9) = y := ⟨_, rfl⟩
  rw [hy]
  replace H := H.store 1 hy rfl rfl
  dsimp only [List.set] at H
  clear hy
  (refine Kr.outS hK (a' := ?_) ?_ ?_; rotate_left; (focus ((try simp only [Kr.PT]); first | done | rfl))); clear hK K
  refine Kr.seqDoneW ?_
  have hk := H.c
  simp only [Kr.Cells] at hk
  go_wp2
  refine bodyPost_ret (v := .agg #[.slice p9 n9 c9]) (by simp [results, Tryd.results47, go_sem, hk]) rfl ⟨_, _, _, rfl, (H.nw 0 rfl), InI_top HI.out (H.nw 0 rfl), H.g⟩
set_option linter.unusedSimpArgs false in
set_option maxRecDepth 100000 in
set_option maxHeartbeats 16000000 in
theorem Certify_no {n : Int} {w : World} (hi : ∀ W, Gr w W → Calls Tryd.prog 33 #[.int .i64 n] W fun r w' => r = .returned (.tuple #[.slice none 0 0, .int .i64 1]) ∧ Gr W w') :
    Calls Tryd.prog 28 #[.int .i64 n] w fun r w' => r = .returned (.tuple #[.agg #[.slice none 0 0, .slice none 0 0, .slice none 0 0], .int .i64 1]) ∧ Gr w w' := by
  have HI := Lib.hid hi; clear hi
  have H := Sta.start w
  go_enter Tryd.func28, Tryd.ntmps28
  go_upto_region 0 with fail
  refine Kr.seqStartW ?_
  refine Kr.seqR (by rfl) (fun K hK => ?_)
  go_simp
  obtain ⟨y1, hy⟩ : ∃ y, w.alloc (.cells #[.slice none 0 0, .slice none 0 0, .slice none 0 0] 46) = y := ⟨_, rfl⟩
  obtain ⟨br, hb⟩ : ∃ b, w.heap.size = b := ⟨_, rfl⟩
  rw [hy, hb]
  replace H := Sta_alloc3 H hy hb rfl rfl rfl
  clear hy hb
  (refine Kr.outS hK (a' := ?_) ?_ ?_; rotate_left; (focus ((try simp only [Kr.PT]); first | done | rfl))); clear hK K
  (refine Kr.seqQ (v := ?_) (a' := ?_) (by rfl) ?_ ?_ ?_; rotate_left 2; (focus (go_simp; first | done | rfl)); (focus ((try simp only [Kr.PT]); first | done | rfl)))
  refine Kr.seqDoneW ?_
  go_upto_region 1 with fail
  refine Kr.seqStartW ?_
  (refine Kr.seqQ (v := ?_) (a' := ?_) (by rfl) ?_ ?_ ?_; rotate_left 2; (focus (go_simp; first | done | rfl)); (focus ((try simp only [Kr.PT]); first | done | rfl)))
  refine Kr.seqR (by rfl) (fun K hK => ?_)
  go_simp
  go_at_call 33
  refine (HI.out _ H.g).mono ?_
  rintro e y2 ⟨rfl, hg⟩
  replace H := H.grow hg
  clear hg
  (refine Kr.outS hK (a' := ?_) ?_ ?_; rotate_left; (focus ((try simp only [Kr.PT]); first | done | rfl))); clear hK K
  iterate 5 (refine Kr.seqQ (v := ?_) (a' := ?_) (by rfl) ?_ ?_ ?_; rotate_left 2; (focus (go_simp; first | done | rfl)); (focus ((try simp only [Kr.PT]); first | done | rfl)))
  refine Kr.seqDoneW ?_
  go_upto_region 2 with fail
  refine Kr.seqStartW ?_
  iterate 2 (refine Kr.seqQ (v := ?_) (a' := ?_) (by rfl) ?_ ?_ ?_; rotate_left 2; (focus (go_simp; first | done | rfl)); (focus ((try simp only [Kr.PT]); first | done | rfl)))
  refine Kr.seqDoneW ?_
  go_upto_region 3 with fail
  refine Kr.seqStartW ?_
  iterate 2 (refine Kr.seqQ (v := ?_) (a' := ?_) (by rfl) ?_ ?_ ?_; rotate_left 2; (focus (go_simp; first | done | rfl)); (focus ((try simp only [Kr.PT]); first | done | rfl)))
  have hk := H.c
  simp only [Kr.Cells] at hk
  refine Kr.seqR (by rfl) (fun K hK => ?_)
  go_simp
  clear hk
  obtain ⟨y3, hy⟩ : ∃ y, y2.setCell ⟨br, 0, none⟩ (.slice none 0 0) = y := ⟨_, rfl⟩
  rw [hy]
  replace H := H.store 0 hy rfl rfl
  dsimp only [List.set] at H
  clear hy
  obtain ⟨y4, hy⟩ : ∃ y, y3.setCell ⟨br, 1, none⟩ (.slice none 0 0) = y := ⟨_, rfl⟩
  rw [hy]
  replace H := H.store 1 hy rfl rfl
  dsimp only [List.set] at H
  clear hy
  obtain ⟨y5, hy⟩ : ∃ y, y4.setCell ⟨br, 2, none⟩ (.slice none 0 0) = y := ⟨_, rfl⟩
  rw [hy]
  replace H := H.store 2 hy rfl rfl
  dsimp only [List.set] at H
  clear hy
  (refine Kr.outS hK (a' := ?_) ?_ ?_; rotate_left; (focus ((try simp only [Kr.PT]); first | done | rfl))); clear hK K
  (refine Kr.seqQ (v := ?_) (a' := ?_) (by rfl) ?_ ?_ ?_; rotate_left 2; (focus (go_simp; first | done | rfl)); (focus ((try simp only [Kr.PT]); first | done | rfl)))
  refine Kr.seqDoneW ?_
  have hk := H.c
  simp only [Kr.Cells] at hk
  go_wp2
  refine bodyPost_ret (v := .tuple #[.agg #[.slice none 0 0, .slice none 0 0, .slice none 0 0], .int .i64 1]) (by simp [results, Tryd.results28, go_sem, hk]) rfl ⟨rfl, H.g⟩
set_option linter.unusedSimpArgs false in
set_option maxRecDepth 100000 in
set_option maxHeartbeats 16000000 in
theorem Certify_none {n : Nat} {w : World} (hT : Wb.Tab w ∧ Bas w) (hp : isP n = true) (hpm : n < 2305843009213693952) (hf : facs (n - 1) = none) :
    Calls Tryd.prog 28 #[.int .i64 (n : Int)] w fun r w' => r = .returned (.tuple #[.agg #[.slice none 0 0, .slice none 0 0, .slice none 0 0], .int .i64 9]) ∧ Gr w w' := by
  have HT := Lib.hid hT; have HP := Lib.hid hp; have HPM := Lib.hid hpm; have HF := Lib.hid hf; clear hT hp hpm hf
  have H := Sta.start w
  go_enter Tryd.func28, Tryd.ntmps28
  go_upto_region 0 with fail
  refine Kr.seqStartW ?_
  refine Kr.seqR (by rfl) (fun K hK => ?_)
  go_simp
  obtain ⟨y1, hy⟩ : ∃ y, w.alloc (.cells #[.slice none 0 0, .slice none 0 0, .slice none 0 0] 46) = y := ⟨_, rfl⟩
  obtain ⟨br, hb⟩ : ∃ b, w.heap.size = b := ⟨_, rfl⟩
  rw [hy, hb]
  replace H := Sta_alloc3 H hy hb rfl rfl rfl
  clear hy hb
  (refine Kr.outS hK (a' := ?_) ?_ ?_; rotate_left; (focus ((try simp only [Kr.PT]); first | done | rfl))); clear hK K
  (refine Kr.seqQ (v := ?_) (a' := ?_) (by rfl) ?_ ?_ ?_; rotate_left 2; (focus (go_simp; first | done | rfl)); (focus ((try simp only [Kr.PT]); first | done | rfl)))
  refine Kr.seqDoneW ?_
  go_upto_region 1 with fail
  refine Kr.seqStartW ?_
  (refine Kr.seqQ (v := ?_) (a' := ?_) (by rfl) ?_ ?_ ?_; rotate_left 2; (focus (go_simp; first | done | rfl)); (focus ((try simp only [Kr.PT]); first | done | rfl)))
  refine Kr.seqR (by rfl) (fun K hK => ?_)
  go_simp
  go_at_call 33
  refine (((before_v ⟨Tab_grow HT.out.1 H.g, Bas_grow HT.out.2 H.g⟩ HP.out HPM.out).mono fun e w2 h => fac_none HF.out h)).mono ?_
  rintro e y2 ⟨rfl, hg⟩
  replace H := H.grow hg
  clear hg
  (refine Kr.outS hK (a' := ?_) ?_ ?_; rotate_left; (focus ((try simp only [Kr.PT]); first | done | rfl))); clear hK K
  iterate 5 (refine Kr.seqQ (v := ?_) (a' := ?_) (by rfl) ?_ ?_ ?_; rotate_left 2; (focus (go_simp; first | done | rfl)); (focus ((try simp only [Kr.PT]); first | done | rfl)))
  refine Kr.seqDoneW ?_
  go_upto_region 2 with fail
  refine Kr.seqStartW ?_
  iterate 2 (refine Kr.seqQ (v := ?_) (a' := ?_) (by rfl) ?_ ?_ ?_; rotate_left 2; (focus (go_simp; first | done | rfl)); (focus ((try simp only [Kr.PT]); first | done | rfl)))
  refine Kr.seqDoneW ?_
  go_upto_region 3 with fail
  refine Kr.seqStartW ?_
  iterate 2 (refine Kr.seqQ (v := ?_) (a' := ?_) (by rfl) ?_ ?_ ?_; rotate_left 2; (focus (go_simp; first | done | rfl)); (focus ((try simp only [Kr.PT]); first | done | rfl)))
  have hk := H.c
  simp only [Kr.Cells] at hk
  refine Kr.seqR (by rfl) (fun K hK => ?_)
  go_simp
  clear hk
  obtain ⟨y3, hy⟩ : ∃ y, y2.setCell ⟨br, 0, none⟩ (.slice none 0 0) = y := ⟨_, rfl⟩
  rw [hy]
  replace H := H.store 0 hy rfl rfl
  dsimp only [List.set] at H
  clear hy
  obtain ⟨y4, hy⟩ : ∃ y, y3.setCell ⟨br, 1, none⟩ (.slice none 0 0) = y := ⟨_, rfl⟩
  rw [hy]
  replace H := H.store 1 hy rfl rfl
  dsimp only [List.set] at H
  clear hy
  obtain ⟨y5, hy⟩ : ∃ y, y4.setCell ⟨br, 2, none⟩ (.slice none 0 0) = y := ⟨_, rfl⟩
  rw [hy]
  replace H := H.store 2 hy rfl rfl
  dsimp only [List.set] at H
  clear hy
  (refine Kr.outS hK (a' := ?_) ?_ ?_; rotate_left; (focus ((try simp only [Kr.PT]); first | done | rfl))); clear hK K
  (refine Kr.seqQ (v := ?_) (a' := ?_) (by rfl) ?_ ?_ ?_; rotate_left 2; (focus (go_simp; first | done | rfl)); (focus ((try simp only [Kr.PT]); first | done | rfl)))
  refine Kr.seqDoneW ?_
  have hk := H.c
  simp only [Kr.Cells] at hk
  go_wp2
  refine bodyPost_ret (v := .tuple #[.agg #[.slice none 0 0, .slice none 0 0, .slice none 0 0], .int .i64 9]) (by simp [results, Tryd.results28, go_sem, hk]) rfl ⟨rfl, H.g⟩
end Go.Proofs.YtfompolklkehpaaDoor.Pr


/- Certify, with its parts. -/
namespace Go.Proofs.YtfompolklkehpaaDoor.Pr
open Go.RowKit Go.Shelf Go.Proofs.YtfompolklkehpaaDoor.Nm Go.Proofs.YtfompolklkehpaaDoor.Ne Go.Proofs.YtfompolklkehpaaDoor.Nf Go.Proofs.YtfompolklkehpaaDoor.Nk Go.Proofs.YtfompolklkehpaaDoor.Nv Go.Proofs.YtfompolklkehpaaDoor.Nr2 Go.Proofs.YtfompolklkehpaaDoor.Mo Go.Proofs.YtfompolklkehpaaDoor.Mr Go.Proofs.YtfompolklkehpaaDoor.Kr

theorem cert_bad {k n x : Nat} {x0 : Nat × Ct} {c : Ct} (h0 : cert (k + 1) n = x0) (h : x0 = (x, c)) (hx : x ≠ 0) : (cert (k + 1) n).1 ≠ 0 ∧ Ending.returned (.tuple #[.agg #[.slice none 0 0, .slice none 0 0, .slice none 0 0], .int .i64 (x : Int)]) = .returned (.tuple #[.agg #[.slice none 0 0, .slice none 0 0, .slice none 0 0], .int .i64 (((cert (k + 1) n).1 : Nat) : Int)]) := by
  rw [h0, h]
  exact ⟨hx, rfl⟩
theorem cert_done {k n r m B0 S : Nat} {x0 : Nat × Ct} {ps : List Ct} {pn pr pv : Option Addr} {nn cn nr cr cv : Nat} {W : World} (h0 : cert (k + 1) n = x0) (h : x0 = (0, .mk (digs n) (digs r) ps)) (hl : ps.length = m) (h1 : Nw W pn nn cn (digs n)) (i1 : InI S B0 pn nn) (h2 : Nw W pr nr cr (digs r)) (i2 : InI S B0 pr nr) (hS : S ≤ B0) (hB : B0 ≤ W.heap.size) (hm : m ≤ 1048576)
    (hd : ∃ pp cp, (Value.slice pv m cv) = .slice pp ps.length cp ∧ (pp = none ∨ ∃ b off, pp = some ⟨b, off, none⟩) ∧
    ∀ (j : Nat) (d : Ct), ps[j]? = some d → ∃ (b off : Nat) (v0 v1 v2 : Value), pp = some ⟨b, off, none⟩ ∧ B0 ≤ b ∧ b < W.heap.size ∧ W.cell? ⟨b, off + j * 3, none⟩ = some v0 ∧ W.cell? ⟨b, off + j * 3 + 1, none⟩ = some v1 ∧ W.cell? ⟨b, off + j * 3 + 2, none⟩ = some v2 ∧ CertI W B0 W.heap.size k (.agg #[v0, v1, v2]) d) :
    ((cert (k + 1) n).1 = 0 ∧ ∃ v, Ending.returned (.tuple #[.agg #[.slice pn nn cn, .slice pr nr cr, .slice pv m cv], .int .i64 0]) = .returned (.tuple #[v, .int .i64 0]) ∧ CertI W S W.heap.size (k + 1) v (cert (k + 1) n).2) ∨
    ((cert (k + 1) n).1 ≠ 0 ∧ Ending.returned (.tuple #[.agg #[.slice pn nn cn, .slice pr nr cr, .slice pv m cv], .int .i64 0]) = .returned (.tuple #[.agg #[.slice none 0 0, .slice none 0 0, .slice none 0 0], .int .i64 (((cert (k + 1) n).1 : Nat) : Int)])) := by
  left
  rw [h0, h]
  obtain ⟨pp, cp, e, hpp, hd⟩ := hd
  refine ⟨rfl, _, rfl, pn, nn, cn, pr, nr, cr, pp, cp, by rw [e]; rfl, h1, i1.mono (Nat.le_refl _) hB, h2, i2.mono (Nat.le_refl _) hB, by show ps.length < _; omega, hpp, fun j d hj => ?_⟩
  obtain ⟨b, off, v0, v1, v2, e1, hb, hb2, c0, c1, c2, hc⟩ := hd j d hj
  exact ⟨b, off, v0, v1, v2, e1, Nat.le_trans hS hb, hb2, c0, c1, c2, hc.mono hS (Nat.le_refl _)⟩
set_option linter.unusedSimpArgs false in
set_option maxRecDepth 100000 in
set_option maxHeartbeats 16000000 in
theorem Certify_some {k n : Nat} {l : List Nat} {w : World} (IH : ∀ (W : World) (q : Nat), Wb.Tab W ∧ Bas W → q < 2305843009213693952 → q ≤ k → Calls Tryd.prog 28 #[.int .i64 (q : Int)] W (CertOut k q W))
    (hT : Wb.Tab w ∧ Bas w) (hp : isP n = true) (hpm : n < 2305843009213693952) (hkn : n ≤ k + 1) (hf : facs (n - 1) = some l) :
    Calls Tryd.prog 28 #[.int .i64 (n : Int)] w (CertOut (k + 1) n w) := by
  have HKN := Lib.hid hkn; clear hkn
  have HT := Lib.hid hT; have HP := Lib.hid hp; have HP2 := Lib.hid (isP_two hp); have HPM := Lib.hid hpm; have HF := Lib.hid hf; have HIH := Lib.hid IH; clear hT hp hpm hf IH
  obtain ⟨m, hm⟩ : ∃ m, l.length = m := ⟨_, rfl⟩
  have HML := Lib.hid hm; have HMB : Hid (m ≤ 1048576) := Lib.hid (hm ▸ facs_len (by have := HP2.out; omega) (by have := HPM.out; omega) HF.out); clear hm
  have HLE := Lib.hid (facs_le (by have := HP2.out; omega) HF.out)
  obtain ⟨x0, hx0⟩ : ∃ x, cert (k + 1) n = x := ⟨_, rfl⟩
  have HX0 : Hid (fin n l (comb [] (certsBy (cert k) (l.drop 0))) = x0) := Lib.hid (by rw [List.drop_zero, comb_nil, ← cert_some HP.out HF.out]; exact hx0); have HXE := Lib.hid hx0; clear hx0
  have H := Sta.start w
  go_enter Tryd.func28, Tryd.ntmps28
  go_upto_region 0 with fail
  refine Kr.seqStartW ?_
  refine Kr.seqR (by rfl) (fun K hK => ?_)
  go_simp
  obtain ⟨y1, hy⟩ : ∃ y, w.alloc (.cells #[.slice none 0 0, .slice none 0 0, .slice none 0 0] 46) = y := ⟨_, rfl⟩
  obtain ⟨br, hb⟩ : ∃ b, w.heap.size = b := ⟨_, rfl⟩
  rw [hy, hb]
  replace H := Sta_alloc3 H hy hb rfl rfl rfl
  clear hy hb
  (refine Kr.outS hK (a' := ?_) ?_ ?_; rotate_left; (focus ((try simp only [Kr.PT]); first | done | rfl))); clear hK K
  (refine Kr.seqQ (v := ?_) (a' := ?_) (by rfl) ?_ ?_ ?_; rotate_left 2; (focus (go_simp; first | done | rfl)); (focus ((try simp only [Kr.PT]); first | done | rfl)))
  refine Kr.seqDoneW ?_
  go_upto_region 1 with fail
  refine Kr.seqStartW ?_
  (refine Kr.seqQ (v := ?_) (a' := ?_) (by rfl) ?_ ?_ ?_; rotate_left 2; (focus (go_simp; first | done | rfl)); (focus ((try simp only [Kr.PT]); first | done | rfl)))
  refine Kr.seqR (by rfl) (fun K hK => ?_)
  go_simp
  go_at_call 33
  refine ((before_v ⟨Tab_grow HT.out.1 H.g, Bas_grow HT.out.2 H.g⟩ HP.out HPM.out).mono fun e w2 h => fac_some HF.out h).mono ?_
  rintro e yA ⟨v1, rfl, hv, hg⟩
  obtain ⟨pp, cp, rfl, hrow⟩ := hv.form
  rw [HML.out]
  have HV := Lib.hid hv; have HROW := Lib.hid hrow; clear hv hrow
  replace H := H.grow hg
  clear hg
  have HGA : Hid (Gr yA yA) := Lib.hid (Gr.refl _)
  (refine Kr.outS hK (a' := ?_) ?_ ?_; rotate_left; (focus ((try simp only [Kr.PT]); first | done | rfl))); clear hK K
  iterate 5 (refine Kr.seqQ (v := ?_) (a' := ?_) (by rfl) ?_ ?_ ?_; rotate_left 2; (focus (go_simp; first | done | rfl)); (focus ((try simp only [Kr.PT]); first | done | rfl)))
  refine Kr.seqDoneW ?_
  go_upto_region 2 with fail
  refine Kr.seqStartW ?_
  iterate 2 (refine Kr.seqQ (v := ?_) (a' := ?_) (by rfl) ?_ ?_ ?_; rotate_left 2; (focus (go_simp; first | done | rfl)); (focus ((try simp only [Kr.PT]); first | done | rfl)))
  refine Kr.seqDoneW ?_
  go_upto_region 4 with fail
  refine Kr.seqStartW ?_
  (refine Kr.seqQ (v := ?_) (a' := ?_) (by rfl) ?_ ?_ ?_; rotate_left 2; (focus (go_simp; first | done | rfl)); (focus ((try simp only [Kr.PT]); first | done | rfl)))
  refine Kr.seqR (by rfl) (fun K hK => ?_)
  go_simp
  go_at_call 47
  refine (of_own (x := n) (by have := HPM.out; omega)).mono ?_
  rintro e y2 ⟨pn, nn, cn, rfl, hr, hi, hg⟩
  have hm : w.heap.size ≤ yA.heap.size := H.g.size
  have HIn := Lib.hid (hi.mono hm (Nat.le_refl _))
  replace HGA := Lib.hid (HGA.out.trans hg)
  replace H := H.grow hg
  replace H := H.num hr
  clear hr hi hg hm
  (refine Kr.outS hK (a' := ?_) ?_ ?_; rotate_left; (focus ((try simp only [Kr.PT]); first | done | rfl))); clear hK K
  iterate 2 (refine Kr.seqQ (v := ?_) (a' := ?_) (by rfl) ?_ ?_ ?_; rotate_left 2; (focus (go_simp; first | done | rfl)); (focus ((try simp only [Kr.PT]); first | done | rfl)))
  refine Kr.seqR (by rfl) (fun K hK => ?_)
  go_simp
  go_at_call 34
  have hP := leastRoot_v (w := y2) (HV.out.grow HGA.out) (by rw [HML.out]; exact HMB.out) HP2.out HPM.out HLE.out
  rw [HML.out] at hP
  refine hP.mono ?_
  rintro e y3 ⟨r, hr, hrp, rfl, hg⟩
  have HR := Lib.hid (rootOf_eq hr); have HRM : Hid (r < 9223372036854775808) := Lib.hid (by have := HPM.out; omega); clear hr hrp hP
  replace HGA := Lib.hid (HGA.out.trans hg)
  replace H := H.grow hg
  clear hg
  (refine Kr.outS hK (a' := ?_) ?_ ?_; rotate_left; (focus ((try simp only [Kr.PT]); first | done | rfl))); clear hK K
  refine Kr.seqR (by rfl) (fun K hK => ?_)
  go_simp
  go_at_call 47
  refine (of_own (x := r) HRM.out).mono ?_
  rintro e y4 ⟨pr, nr, cr, rfl, hr, hi, hg⟩
  have hm : w.heap.size ≤ y3.heap.size := H.g.size
  have HIr := Lib.hid (hi.mono hm (Nat.le_refl _))
  replace HGA := Lib.hid (HGA.out.trans hg)
  replace H := H.grow hg
  replace H := H.num hr
  clear hr hi hg hm
  (refine Kr.outS hK (a' := ?_) ?_ ?_; rotate_left; (focus ((try simp only [Kr.PT]); first | done | rfl))); clear hK K
  (refine Kr.seqQ (v := ?_) (a' := ?_) (by rfl) ?_ ?_ ?_; rotate_left 2; (focus (go_simp; first | done | rfl)); (focus ((try simp only [Kr.PT]); first | done | rfl)))
  refine Kr.seqR (by rfl) (fun K hK => ?_)
  go_simp
  obtain ⟨y5, hy⟩ : ∃ y, y4.alloc (.cells #[.slice none 0 0, .slice none 0 0, .slice none 0 0] 46) = y := ⟨_, rfl⟩
  obtain ⟨bc, hb⟩ : ∃ b, y4.heap.size = b := ⟨_, rfl⟩
  have LHGA_c : Hid (yA.heap.size ≤ bc) := Lib.hid (hb ▸ HGA.out.le)
  replace HGA : Hid (Gr yA y5) := Lib.hid (hy ▸ HGA.out.alloc _)
  rw [hy, hb]
  replace H := Sta_alloc3 H hy hb rfl rfl rfl
  clear hy hb
  (refine Kr.outS hK (a' := ?_) ?_ ?_; rotate_left; (focus ((try simp only [Kr.PT]); first | done | rfl))); clear hK K
  have hk := H.c
  simp only [Kr.Cells] at hk
  refine Kr.seqR (by rfl) (fun K hK => ?_)
  go_simp
  clear hk
  obtain ⟨y6, hy⟩ : ∃ y, y5.setCell ⟨bc, 0, none⟩ (.slice pn nn cn) = y := ⟨_, rfl⟩
  replace HGA : Hid (Gr yA y6) := Lib.hid (hy ▸ HGA.out.setCell (p := ⟨bc, 0, none⟩) LHGA_c.out _)
  rw [hy]
  replace H := H.store 0 hy rfl rfl
  dsimp only [List.set] at H
  clear hy
  obtain ⟨y7, hy⟩ : ∃ y, y6.setCell ⟨bc, 1, none⟩ (.slice pr nr cr) = y := ⟨_, rfl⟩
  replace HGA : Hid (Gr yA y7) := Lib.hid (hy ▸ HGA.out.setCell (p := ⟨bc, 1, none⟩) LHGA_c.out _)
  rw [hy]
  replace H := H.store 1 hy rfl rfl
  dsimp only [List.set] at H
  clear hy
  obtain ⟨y8, hy⟩ : ∃ y, y7.setCell ⟨bc, 2, none⟩ (.slice none 0 0) = y := ⟨_, rfl⟩
  replace HGA : Hid (Gr yA y8) := Lib.hid (hy ▸ HGA.out.setCell (p := ⟨bc, 2, none⟩) LHGA_c.out _)
  rw [hy]
  replace H := H.store 2 hy rfl rfl
  dsimp only [List.set] at H
  clear hy
  (refine Kr.outS hK (a' := ?_) ?_ ?_; rotate_left; (focus ((try simp only [Kr.PT]); first | done | rfl))); clear hK K
  refine Kr.seqDoneW ?_
  go_upto_region 5 with fail
  refine Kr.seqStartW ?_
  iterate 3 (refine Kr.seqQ (v := ?_) (a' := ?_) (by rfl) ?_ ?_ ?_; rotate_left 2; (focus (go_simp; first | done | rfl)); (focus ((try simp only [Kr.PT]); first | done | rfl)))
  refine Kr.seqDoneW ?_
  obtain ⟨B0, hB0⟩ : ∃ B, y8.heap.size = B := ⟨_, rfl⟩
  have HIN : Hid (InI w.heap.size B0 pn nn) := Lib.hid (hB0 ▸ InI_top HIn.out (H.nw 1 rfl)); have HIR : Hid (InI w.heap.size B0 pr nr) := Lib.hid (hB0 ▸ InI_top HIr.out (H.nw 0 rfl))
  have HBC : Hid (bc < B0) := Lib.hid (hB0 ▸ cells_lt H.c _ (List.mem_of_getElem? (i := 0) rfl)); have HBR : Hid (br < B0) := Lib.hid (hB0 ▸ cells_lt H.c _ (List.mem_of_getElem? (i := 3) rfl))
  have HWB : Hid (w.heap.size ≤ B0) := Lib.hid (hB0 ▸ H.g.size); have HAB : Hid (yA.heap.size ≤ B0) := Lib.hid (hB0 ▸ HGA.out.size)
  have HP0 : Hid (Parts3 B0 k (.slice none 0 0) [] y8) := Lib.hid (Parts3.start k (Nat.le_of_eq hB0.symm))
  clear hB0 HIn HIr
  have H2 := Lib.hid H
  clear H
  go_wp2_with fail
  go_loopw [29] (fun i wr => ∃ (j : Nat) (ps : List Ct) (pv : Option Addr) (cv : Nat), j ≤ m ∧ i = .int .i64 (j : Int) ∧ Hid (ps.length = j) ∧ Hid (fin n l (comb ps (certsBy (cert k) (l.drop j))) = x0) ∧ Hid (Gr yA wr) ∧ Hid (Parts3 B0 k (.slice pv j cv) ps wr) ∧ Hid (Sta w wr [(bc, 0, .slice pn nn cn), (bc, 1, .slice pr nr cr), (bc, 2, .slice pv j cv), (br, 0, .slice none 0 0), (br, 1, .slice none 0 0), (br, 2, .slice none 0 0)] [N pr nr cr (r), N pn nn cn (n)])) (fun i _ => m - (intOf i).toNat)
  case atStart => exact ⟨0, [], none, 0, Nat.zero_le _, rfl, Lib.hid rfl, HX0, HGA, HP0, H2⟩
  case round =>
    clear H2 HX0 HGA HP0
    obtain ⟨j, ps, pv, cv, hj, rfl, HLN, HCX, HGA, HP3, HH⟩ := hrel
    have H := HH.out; clear HH
    by_cases hjn : j = m
    · have HC : Hid (decide ((j : Int) < (m : Int)) = false) := Lib.hid (decide_eq_false (by omega))
      have HCE : Hid (x0 = (0, .mk (digs n) (digs r) ps)) := Lib.hid (by rw [← HCX.out, hjn, List.drop_of_length_le (Nat.le_of_eq HML.out), certsBy]; simp [comb, fin, HR.out])
      subst hjn
      clear HCX
      go_upto_region 6 with fail
      refine Kr.seqStartW ?_
      (refine Kr.seqQ (v := .bool false) (a' := ?_) (by rfl) ?_ ?_ ?_; rotate_left 1; (focus (exact Kr.valOf rfl (lssT HC.out))); (focus ((try simp only [Kr.PT]); first | done | rfl)))
      refine Kr.seqDoneW ?_
      go_upto_region 13 with fail
      refine Kr.seqStartW ?_
      have hk := H.c
      simp only [Kr.Cells] at hk
      (refine Kr.seqQ (v := ?_) (a' := ?_) (by rfl) ?_ ?_ ?_; rotate_left 2; (focus (go_simp; first | done | rfl)); (focus ((try simp only [Kr.PT]); first | done | rfl)))
      refine Kr.seqR (by rfl) (fun K hK => ?_)
      go_simp
      have HP3S : ∀ v, Parts3 B0 k (.slice pv j cv) ps (wr.setCell ⟨br, 0, none⟩ v) := fun v => HP3.out.store ⟨br, 0, none⟩ v HBR.out
      clear hk
      obtain ⟨y9, hy⟩ : ∃ y, wr.setCell ⟨br, 0, none⟩ (.slice pn nn cn) = y := ⟨_, rfl⟩
      rw [hy]
      replace H := H.store 3 hy rfl rfl
      dsimp only [List.set] at H
      replace HP3 : Hid (Parts3 B0 k (.slice pv j cv) ps y9) := Lib.hid (hy ▸ HP3S _)
      clear hy
      clear HP3S
      have HP3S : ∀ v, Parts3 B0 k (.slice pv j cv) ps (y9.setCell ⟨br, 1, none⟩ v) := fun v => HP3.out.store ⟨br, 1, none⟩ v HBR.out
      obtain ⟨y10, hy⟩ : ∃ y, y9.setCell ⟨br, 1, none⟩ (.slice pr nr cr) = y := ⟨_, rfl⟩
      rw [hy]
      replace H := H.store 4 hy rfl rfl
      dsimp only [List.set] at H
      replace HP3 : Hid (Parts3 B0 k (.slice pv j cv) ps y10) := Lib.hid (hy ▸ HP3S _)
      clear hy
      clear HP3S
      have HP3S : ∀ v, Parts3 B0 k (.slice pv j cv) ps (y10.setCell ⟨br, 2, none⟩ v) := fun v => HP3.out.store ⟨br, 2, none⟩ v HBR.out
      obtain ⟨y11, hy⟩ : ∃ y, y10.setCell ⟨br, 2, none⟩ (.slice pv j cv) = y := ⟨_, rfl⟩
      rw [hy]
      replace H := H.store 5 hy rfl rfl
      dsimp only [List.set] at H
      replace HP3 : Hid (Parts3 B0 k (.slice pv j cv) ps y11) := Lib.hid (hy ▸ HP3S _)
      clear hy
      clear HP3S
      (refine Kr.outS hK (a' := ?_) ?_ ?_; rotate_left; (focus ((try simp only [Kr.PT]); first | done | rfl))); clear hK K
      (refine Kr.seqQ (v := ?_) (a' := ?_) (by rfl) ?_ ?_ ?_; rotate_left 2; (focus (go_simp; first | done | rfl)); (focus ((try simp only [Kr.PT]); first | done | rfl)))
      refine Kr.seqDoneW ?_
      have HD := Lib.hid (HP3.out.done (by rw [HLN.out]; have := HMB.out; omega))
      have HFIN := Lib.hid (cert_done HXE.out HCE.out HLN.out (H.nw 1 rfl) HIN.out (H.nw 0 rfl) HIR.out HWB.out (HP3.out.base) HMB.out HD.out)
      have hk := H.c
      simp only [Kr.Cells] at hk
      go_wp2
      refine bodyPost_ret (v := .tuple #[.agg #[.slice pn nn cn, .slice pr nr cr, .slice pv j cv], .int .i64 0]) (by simp [results, Tryd.results28, go_sem, hk]) rfl ⟨H.g, HFIN.out⟩
    · have HJ : Hid (j < m) := Lib.hid (by omega)
      have HC : Hid (decide ((j : Int) < (m : Int)) = true) := Lib.hid (decide_eq_true (by omega))
      clear hjn
      have hjl : j < l.length := by rw [HML.out]; exact HJ.out
      obtain ⟨q, hq⟩ : ∃ q, l[j]? = some q := ⟨_, List.getElem?_eq_getElem hjl⟩
      obtain ⟨b, off, hpp, hc⟩ := HROW.out j q hq
      subst hpp
      have HQL := Lib.hid (HLE.out q (List.mem_of_getElem? hq)).2; have HDR := Lib.hid (drop_cons hq); have HC0 := Lib.hid hc; clear hq hjl hc
      go_upto_region 6 with fail
      refine Kr.seqStartW ?_
      (refine Kr.seqQ (v := .bool true) (a' := ?_) (by rfl) ?_ ?_ ?_; rotate_left 1; (focus (exact Kr.valOf rfl (lssT HC.out))); (focus ((try simp only [Kr.PT]); first | done | rfl)))
      refine Kr.seqDoneW ?_
      have hk_row := HGA.out.cell HC0.out
      have hj1 : j < m := HJ.out; have hj2 : (j : Int) < (m : Int) := by omega
      go_upto_region 7 with fail
      refine Kr.seqStartW ?_
      (refine Kr.seqQ (v := ?_) (a' := ?_) (by rfl) ?_ ?_ ?_; rotate_left 2; (focus (go_simp; first | done | rfl)); (focus ((try simp only [Kr.PT]); first | done | rfl)))
      have hk := H.c
      simp only [Kr.Cells] at hk
      iterate 2 (refine Kr.seqQ (v := ?_) (a' := ?_) (by rfl) ?_ ?_ ?_; rotate_left 2; (focus (go_simp; first | done | rfl)); (focus ((try simp only [Kr.PT]); first | done | rfl)))
      clear hk
      refine Kr.seqDoneW ?_
      clear hk_row hj1 hj2
      obtain ⟨z, hz⟩ : ∃ z, (cert k q).1 = z := ⟨_, rfl⟩
      have HZ := Lib.hid hz; clear hz
      by_cases hz0 : z = 0
      · subst hz0
        have HCX2 : Hid (fin n l (comb (ps ++ [(cert k q).2]) (certsBy (cert k) (l.drop (j + 1)))) = x0) := Lib.hid (by rw [← comb_cons HZ.out, ← HDR.out]; exact HCX.out); clear HCX
        go_upto_region 8 with fail
        refine Kr.seqStartW ?_
        (refine Kr.seqQ (v := ?_) (a' := ?_) (by rfl) ?_ ?_ ?_; rotate_left 2; (focus (go_simp; first | done | rfl)); (focus ((try simp only [Kr.PT]); first | done | rfl)))
        refine Kr.seqR (by rfl) (fun K hK => ?_)
        go_simp
        go_at_call 28
        have HSZ : Hid (∀ k, (Value.slice pv j cv).ownBlock = some k → k < wr.heap.size) := Lib.hid (fun k h => (HP3.out.row k h).2); have hBs : B0 ≤ wr.heap.size := HP3.out.base
        refine ((HIH.out _ q ⟨Tab_grow HT.out.1 H.g, Bas_grow HT.out.2 H.g⟩ (by have h1 := HQL.out; have h2 := HPM.out; omega) (by have h1 := HQL.out; have h2 := HKN.out; omega)).mono fun e w2 h => h.good HZ.out).mono ?_
        rintro e yB ⟨qn, mn, dn, qr, mr, dr, qp, mp, dp, rfl, hc, hg⟩
        have HCI : Hid (PartI yB B0 (Value.slice pv j cv).ownBlock k (.agg #[.slice qn mn dn, .slice qr mr dr, .slice qp mp dp]) (cert k q).2) := Lib.hid ⟨_, _, hBs, Nat.le_refl _, fun k hk => .inl (HSZ.out k hk), hc⟩
        replace HP3 := Lib.hid (HP3.out.grow hg)
        replace HGA := Lib.hid (HGA.out.trans hg)
        replace H := H.grow hg
        clear hg hc hBs HSZ
        have HGB : Hid (Gr yB yB) := Lib.hid (Gr.refl _)
        (refine Kr.outS hK (a' := ?_) ?_ ?_; rotate_left; (focus ((try simp only [Kr.PT]); first | done | rfl))); clear hK K
        iterate 3 (refine Kr.seqQ (v := ?_) (a' := ?_) (by rfl) ?_ ?_ ?_; rotate_left 2; (focus (go_simp; first | done | rfl)); (focus ((try simp only [Kr.PT]); first | done | rfl)))
        refine Kr.seqR (by rfl) (fun K hK => ?_)
        go_simp
        obtain ⟨y12, hy⟩ : ∃ y, yB.alloc (.cells #[.slice none 0 0, .slice none 0 0, .slice none 0 0] 46) = y := ⟨_, rfl⟩
        obtain ⟨bp, hb⟩ : ∃ b, yB.heap.size = b := ⟨_, rfl⟩
        have LHGA_p : Hid (yA.heap.size ≤ bp) := Lib.hid (hb ▸ HGA.out.le)
        replace HGA : Hid (Gr yA y12) := Lib.hid (hy ▸ HGA.out.alloc _)
        have LHGB_p : Hid (yB.heap.size ≤ bp) := Lib.hid (hb ▸ HGB.out.le)
        replace HGB : Hid (Gr yB y12) := Lib.hid (hy ▸ HGB.out.alloc _)
        rw [hy, hb]
        replace H := Sta_alloc3 H hy hb rfl rfl rfl
        clear hy hb
        (refine Kr.outS hK (a' := ?_) ?_ ?_; rotate_left; (focus ((try simp only [Kr.PT]); first | done | rfl))); clear hK K
        have hk := H.c
        simp only [Kr.Cells] at hk
        refine Kr.seqR (by rfl) (fun K hK => ?_)
        go_simp
        clear hk
        obtain ⟨y13, hy⟩ : ∃ y, y12.setCell ⟨bp, 0, none⟩ (.slice qn mn dn) = y := ⟨_, rfl⟩
        replace HGA : Hid (Gr yA y13) := Lib.hid (hy ▸ HGA.out.setCell (p := ⟨bp, 0, none⟩) LHGA_p.out _)
        replace HGB : Hid (Gr yB y13) := Lib.hid (hy ▸ HGB.out.setCell (p := ⟨bp, 0, none⟩) LHGB_p.out _)
        rw [hy]
        replace H := H.store 0 hy rfl rfl
        dsimp only [List.set] at H
        clear hy
        obtain ⟨y14, hy⟩ : ∃ y, y13.setCell ⟨bp, 1, none⟩ (.slice qr mr dr) = y := ⟨_, rfl⟩
        replace HGA : Hid (Gr yA y14) := Lib.hid (hy ▸ HGA.out.setCell (p := ⟨bp, 1, none⟩) LHGA_p.out _)
        replace HGB : Hid (Gr yB y14) := Lib.hid (hy ▸ HGB.out.setCell (p := ⟨bp, 1, none⟩) LHGB_p.out _)
        rw [hy]
        replace H := H.store 1 hy rfl rfl
        dsimp only [List.set] at H
        clear hy
        obtain ⟨y15, hy⟩ : ∃ y, y14.setCell ⟨bp, 2, none⟩ (.slice qp mp dp) = y := ⟨_, rfl⟩
        replace HGA : Hid (Gr yA y15) := Lib.hid (hy ▸ HGA.out.setCell (p := ⟨bp, 2, none⟩) LHGA_p.out _)
        replace HGB : Hid (Gr yB y15) := Lib.hid (hy ▸ HGB.out.setCell (p := ⟨bp, 2, none⟩) LHGB_p.out _)
        rw [hy]
        replace H := H.store 2 hy rfl rfl
        dsimp only [List.set] at H
        clear hy
        (refine Kr.outS hK (a' := ?_) ?_ ?_; rotate_left; (focus ((try simp only [Kr.PT]); first | done | rfl))); clear hK K
        (refine Kr.seqQ (v := ?_) (a' := ?_) (by rfl) ?_ ?_ ?_; rotate_left 2; (focus (go_simp; first | done | rfl)); (focus ((try simp only [Kr.PT]); first | done | rfl)))
        refine Kr.seqDoneW ?_
        go_upto_region 9 with fail
        refine Kr.seqStartW ?_
        iterate 2 (refine Kr.seqQ (v := ?_) (a' := ?_) (by rfl) ?_ ?_ ?_; rotate_left 2; (focus (go_simp; first | done | rfl)); (focus ((try simp only [Kr.PT]); first | done | rfl)))
        refine Kr.seqDoneW ?_
        go_upto_region 11 with fail
        refine Kr.seqStartW ?_
        (refine Kr.seqQ (v := ?_) (a' := ?_) (by rfl) ?_ ?_ ?_; rotate_left 2; (focus (go_simp; first | done | rfl)); (focus ((try simp only [Kr.PT]); first | done | rfl)))
        have hk := H.c
        simp only [Kr.Cells] at hk
        iterate 2 (refine Kr.seqQ (v := ?_) (a' := ?_) (by rfl) ?_ ?_ ?_; rotate_left 2; (focus (go_simp; first | done | rfl)); (focus ((try simp only [Kr.PT]); first | done | rfl)))
        refine Kr.seqR (by rfl) (fun K hK => ?_)
        go_simp
        clear hk
        obtain ⟨y16, hy⟩ : ∃ y, y15.alloc (.cells #[.slice qn mn dn, .slice qr mr dr, .slice qp mp dp] 46) = y := ⟨_, rfl⟩
        obtain ⟨bone, hbn⟩ : ∃ b, y15.heap.size = b := ⟨_, rfl⟩
        rw [hy, hbn]
        have hg : Gr y15 y16 := hy ▸ (Gr.refl _).alloc _
        have HONE := Lib.hid (hbn ▸ hy ▸ one_cert y15 (.slice qn mn dn) (.slice qr mr dr) (.slice qp mp dp))
        replace HGA := Lib.hid (HGA.out.trans hg)
        replace HGB := Lib.hid (HGB.out.trans hg)
        replace H := H.grow hg
        clear hg hy hbn
        (refine Kr.outS hK (a' := ?_) ?_ ?_; rotate_left; (focus ((try simp only [Kr.PT]); first | done | rfl))); clear hK K
        obtain ⟨i0, hi, hz0, hz1, hz2⟩ := info_parts infoC
        have hRW := HP3.out.row
        obtain ⟨hB, vs, h1, h2⟩ := HP3.out.grow HGB.out
        obtain ⟨s9, e9, hs9, he9, hr9, hc9⟩ := HCI.out.grow HGB.out
        have hm2 : m ≤ 1048576 := HMB.out
        have hjm : j < m := HJ.out
        have h1j := h1
        rw [HLN.out] at h1j
        refine Kr.seqR (by rfl) (fun K hK => ?_)
        refine wp_append_lies _ (.tmp 43) (.tmp 45) 44 rfl B0 46 i0 (.agg #[.slice none 0 0, .slice none 0 0, .slice none 0 0]) 3 72 Tryd.underlying44 hi hz0 hz1 hz2 rfl (by decide) (.slice pv j cv) j vs rfl h1j ⟨bone, 0, none⟩ 1 1 [.slice qn mn dn, .slice qr mr dr, .slice qp mp dp] rfl rfl HONE.out (by simp [Value.oneCell']) (by decide) (by unfold maxLen; omega) (by omega) hB _ rfl ?_
        intro gb cap w3 hown hgrow hat _
        have hrow : ∀ k, (Value.slice pv j cv).ownBlock = some k → B0 ≤ k ∧ k < yB.heap.size := hRW
        have hA := sta_append H hgrow (fun k hk => ⟨Nat.le_trans HWB.out (hrow k hk).1, fun x hx => by
            have q1 := (hrow k hk).1; have q2 := (hrow k hk).2; have q3 := HBC.out; have q4 := HBR.out; have q5 := LHGB_p.out
            simp only [List.mem_cons, List.not_mem_nil, or_false] at hx
            rcases hx with rfl | rfl | rfl | rfl | rfl | rfl | rfl | rfl | rfl <;> (dsimp only; omega)⟩)
          (fun F hF => by
            simp only [List.mem_cons, List.not_mem_nil, or_false] at hF
            rcases hF with rfl | rfl
            · exact nw_same (H.nw 0 rfl) HIR.out (same2_grown hgrow hB (fun k hk => .inr (hrow k hk).1))
            · exact nw_same (H.nw 1 rfl) HIN.out (same2_grown hgrow hB (fun k hk => .inr (hrow k hk).1)))
        have hG := gr_grown HGA.out hgrow (fun k hk => Nat.le_trans HAB.out (hrow k hk).1)
        have hP := Parts3.append (g := gb) hB h1 h2 hs9 he9 hr9 hc9 (by rw [HLN.out]; exact hown) hgrow rfl hat
        clear HP3 HCI H HGA HONE hown hgrow hat hRW hB h1 h2 hs9 he9 hr9 hc9 h1j hrow hm2 hjm HGB LHGB_p hi hz0 hz1 hz2
        have H := hA; have HGA := Lib.hid hG; have HP3 := Lib.hid hP; clear hA hG hP
        (refine Kr.outS hK (a' := ?_) ?_ ?_; rotate_left; (focus ((try simp only [Kr.PT]); first | done | rfl))); clear hK K
        (refine Kr.seqQ (v := ?_) (a' := ?_) (by rfl) ?_ ?_ ?_; rotate_left 2; (focus (go_simp; first | done | rfl)); (focus ((try simp only [Kr.PT]); first | done | rfl)))
        have hk := H.c
        simp only [Kr.Cells] at hk
        refine Kr.seqR (by rfl) (fun K hK => ?_)
        go_simp
        have HP3S : ∀ v, Parts3 B0 k (.slice (some ⟨gb, 0, none⟩) (j + 1) cap) (ps ++ [(cert k q).2]) (w3.setCell ⟨bc, 2, none⟩ v) := fun v => HP3.out.store ⟨bc, 2, none⟩ v HBC.out
        clear hk
        obtain ⟨y17, hy⟩ : ∃ y, w3.setCell ⟨bc, 2, none⟩ (.slice (some ⟨gb, 0, none⟩) (j + 1) cap) = y := ⟨_, rfl⟩
        replace HGA : Hid (Gr yA y17) := Lib.hid (hy ▸ HGA.out.setCell (p := ⟨bc, 2, none⟩) LHGA_c.out _)
        rw [hy]
        replace H := H.store 5 hy rfl rfl
        dsimp only [List.set] at H
        replace HP3 : Hid (Parts3 B0 k (.slice (some ⟨gb, 0, none⟩) (j + 1) cap) (ps ++ [(cert k q).2]) y17) := Lib.hid (hy ▸ HP3S _)
        clear hy
        clear HP3S
        (refine Kr.outS hK (a' := ?_) ?_ ?_; rotate_left; (focus ((try simp only [Kr.PT]); first | done | rfl))); clear hK K
        refine Kr.seqDoneW ?_
        have HADJ : Hid (IntKind.i64.wrap ((j : Int) + 1) = ((j + 1 : Nat) : Int)) := Lib.hid (wrap_nat (by omega) (by have h1 := HJ.out; have h2 := HMB.out; omega))
        go_upto_region 12 with fail
        refine Kr.seqStartW ?_
        (refine Kr.seqQ (v := .int .i64 ((j + 1 : Nat) : Int)) (a' := ?_) (by rfl) ?_ ?_ ?_; rotate_left 1; (focus (exact Kr.valOf rfl (addI HADJ.out))); (focus ((try simp only [Kr.PT]); first | done | rfl)))
        (refine Kr.seqQ (v := ?_) (a' := ?_) (by rfl) ?_ ?_ ?_; rotate_left 2; (focus (go_simp; first | done | rfl)); (focus ((try simp only [Kr.PT]); first | done | rfl)))
        refine Kr.seqDoneW ?_
        go_wp2
        go_roundw
        case rel => exact ⟨j + 1, ps ++ [(cert k q).2], some ⟨gb, 0, none⟩, cap, HJ.out, rfl, Lib.hid (by rw [List.length_append, HLN.out]; rfl), HCX2, HGA, HP3, Lib.hid (H.drop 3)⟩
        case measure => simp [intOf]; have := HJ.out; omega
      · have HXB : Hid (x0 = (z, .mk [] [] [])) := Lib.hid (by rw [← HCX.out, HDR.out, comb_fail (by rw [HZ.out]; exact hz0), HZ.out]; simp [fin, hz0])
        have HZN := Lib.hid hz0; have HZD : Hid (decide (z ≠ 0) = true) := Lib.hid (decide_eq_true hz0); clear hz0 HCX
        go_upto_region 8 with fail
        refine Kr.seqStartW ?_
        (refine Kr.seqQ (v := ?_) (a' := ?_) (by rfl) ?_ ?_ ?_; rotate_left 2; (focus (go_simp; first | done | rfl)); (focus ((try simp only [Kr.PT]); first | done | rfl)))
        refine Kr.seqR (by rfl) (fun K hK => ?_)
        go_simp
        go_at_call 28
        have hP := ((HIH.out _ q ⟨Tab_grow HT.out.1 H.g, Bas_grow HT.out.2 H.g⟩ (by have h1 := HQL.out; have h2 := HPM.out; omega) (by have h1 := HQL.out; have h2 := HKN.out; omega)).mono fun e w2 h => h.bad (by rw [HZ.out]; exact HZN.out))
        rw [HZ.out] at hP
        refine (hP).mono ?_
        rintro e y18 ⟨rfl, hg⟩
        replace H := H.grow hg
        clear hg
        clear hP
        (refine Kr.outS hK (a' := ?_) ?_ ?_; rotate_left; (focus ((try simp only [Kr.PT]); first | done | rfl))); clear hK K
        iterate 3 (refine Kr.seqQ (v := ?_) (a' := ?_) (by rfl) ?_ ?_ ?_; rotate_left 2; (focus (go_simp; first | done | rfl)); (focus ((try simp only [Kr.PT]); first | done | rfl)))
        refine Kr.seqR (by rfl) (fun K hK => ?_)
        go_simp
        obtain ⟨y19, hy⟩ : ∃ y, y18.alloc (.cells #[.slice none 0 0, .slice none 0 0, .slice none 0 0] 46) = y := ⟨_, rfl⟩
        obtain ⟨bp, hb⟩ : ∃ b, y18.heap.size = b := ⟨_, rfl⟩
        rw [hy, hb]
        replace H := Sta_alloc3 H hy hb rfl rfl rfl
        clear hy hb
        (refine Kr.outS hK (a' := ?_) ?_ ?_; rotate_left; (focus ((try simp only [Kr.PT]); first | done | rfl))); clear hK K
        have hk := H.c
        simp only [Kr.Cells] at hk
        refine Kr.seqR (by rfl) (fun K hK => ?_)
        go_simp
        clear hk
        obtain ⟨y20, hy⟩ : ∃ y, y19.setCell ⟨bp, 0, none⟩ (.slice none 0 0) = y := ⟨_, rfl⟩
        rw [hy]
        replace H := H.store 0 hy rfl rfl
        dsimp only [List.set] at H
        clear hy
        obtain ⟨y21, hy⟩ : ∃ y, y20.setCell ⟨bp, 1, none⟩ (.slice none 0 0) = y := ⟨_, rfl⟩
        rw [hy]
        replace H := H.store 1 hy rfl rfl
        dsimp only [List.set] at H
        clear hy
        obtain ⟨y22, hy⟩ : ∃ y, y21.setCell ⟨bp, 2, none⟩ (.slice none 0 0) = y := ⟨_, rfl⟩
        rw [hy]
        replace H := H.store 2 hy rfl rfl
        dsimp only [List.set] at H
        clear hy
        (refine Kr.outS hK (a' := ?_) ?_ ?_; rotate_left; (focus ((try simp only [Kr.PT]); first | done | rfl))); clear hK K
        (refine Kr.seqQ (v := ?_) (a' := ?_) (by rfl) ?_ ?_ ?_; rotate_left 2; (focus (go_simp; first | done | rfl)); (focus ((try simp only [Kr.PT]); first | done | rfl)))
        refine Kr.seqDoneW ?_
        go_upto_region 9 with fail
        refine Kr.seqStartW ?_
        (refine Kr.seqQ (v := ?_) (a' := ?_) (by rfl) ?_ ?_ ?_; rotate_left 2; (focus (go_simp; first | done | rfl)); (focus ((try simp only [Kr.PT]); first | done | rfl)))
        (refine Kr.seqQ (v := .bool true) (a' := ?_) (by rfl) ?_ ?_ ?_; rotate_left 1; (focus (exact Kr.valOf rfl (neqX HZD.out))); (focus ((try simp only [Kr.PT]); first | done | rfl)))
        refine Kr.seqDoneW ?_
        go_upto_region 10 with fail
        refine Kr.seqStartW ?_
        iterate 2 (refine Kr.seqQ (v := ?_) (a' := ?_) (by rfl) ?_ ?_ ?_; rotate_left 2; (focus (go_simp; first | done | rfl)); (focus ((try simp only [Kr.PT]); first | done | rfl)))
        have hk := H.c
        simp only [Kr.Cells] at hk
        refine Kr.seqR (by rfl) (fun K hK => ?_)
        go_simp
        clear hk
        obtain ⟨y23, hy⟩ : ∃ y, y22.setCell ⟨br, 0, none⟩ (.slice none 0 0) = y := ⟨_, rfl⟩
        rw [hy]
        replace H := H.store 6 hy rfl rfl
        dsimp only [List.set] at H
        clear hy
        obtain ⟨y24, hy⟩ : ∃ y, y23.setCell ⟨br, 1, none⟩ (.slice none 0 0) = y := ⟨_, rfl⟩
        rw [hy]
        replace H := H.store 7 hy rfl rfl
        dsimp only [List.set] at H
        clear hy
        obtain ⟨y25, hy⟩ : ∃ y, y24.setCell ⟨br, 2, none⟩ (.slice none 0 0) = y := ⟨_, rfl⟩
        rw [hy]
        replace H := H.store 8 hy rfl rfl
        dsimp only [List.set] at H
        clear hy
        (refine Kr.outS hK (a' := ?_) ?_ ?_; rotate_left; (focus ((try simp only [Kr.PT]); first | done | rfl))); clear hK K
        (refine Kr.seqQ (v := ?_) (a' := ?_) (by rfl) ?_ ?_ ?_; rotate_left 2; (focus (go_simp; first | done | rfl)); (focus ((try simp only [Kr.PT]); first | done | rfl)))
        refine Kr.seqDoneW ?_
        have hk := H.c
        simp only [Kr.Cells] at hk
        go_wp2
        refine bodyPost_ret (v := .tuple #[.agg #[.slice none 0 0, .slice none 0 0, .slice none 0 0], .int .i64 (z : Int)]) (by simp [results, Tryd.results28, go_sem, hk]) rfl ⟨H.g, .inr (cert_bad HXE.out HXB.out HZN.out)⟩
theorem Certify_v : ∀ {k n : Nat} {w : World}, Wb.Tab w ∧ Bas w → n < 2305843009213693952 → n ≤ k → Calls Tryd.prog 28 #[.int .i64 (n : Int)] w (CertOut k n w)
  | 0, n, w, hT, hn, hk => by
    obtain rfl : n = 0 := by omega
    refine (Certify_no (n := ((0 : Nat) : Int)) (fun W g => before_no (by decide) (fun W2 g2 => Is_low (by decide)))).mono ?_
    rintro e w' ⟨rfl, g⟩
    exact ⟨g, .inr ⟨by simp [cert], rfl⟩⟩
  | k + 1, n, w, hT, hn, hk => by
    cases hp : isP n with
    | false =>
      refine (Certify_no (n := (n : Int)) (fun W g => before_no (by omega) (fun W2 g2 => (Is_v (n := n) ⟨Tab_grow hT.1 (g.trans g2), Bas_grow hT.2 (g.trans g2)⟩ (by omega)).mono fun e w2 h => by rw [hp] at h; exact h))).mono ?_
      rintro e w' ⟨rfl, g⟩
      exact ⟨g, .inr ⟨by rw [cert_no hp]; decide, by rw [cert_no hp]; rfl⟩⟩
    | true =>
      cases hf : facs (n - 1) with
      | none =>
        refine (Certify_none hT hp hn hf).mono ?_
        rintro e w' ⟨rfl, g⟩
        exact ⟨g, .inr ⟨by rw [cert_none hp hf]; decide, by rw [cert_none hp hf]; rfl⟩⟩
      | some l => exact Certify_some (fun W q hT hq hk2 => Certify_v (k := k) hT hq hk2) hT hp hn hk hf
end Go.Proofs.YtfompolklkehpaaDoor.Pr


/- The chapter's examples, as numbers. -/
namespace Go.Proofs.YtfompolklkehpaaDoor.Pr
open Go Go.RowKit Go.Shelf Go.Proofs.YtfompolklkehpaaDoor.Nm Go.Proofs.YtfompolklkehpaaDoor.Ne Go.Proofs.YtfompolklkehpaaDoor.Nf Go.Proofs.YtfompolklkehpaaDoor.Nk Go.Proofs.YtfompolklkehpaaDoor.Nv Go.Proofs.YtfompolklkehpaaDoor.Nr2 Go.Proofs.YtfompolklkehpaaDoor.Kr

theorem digs_small {x : Nat} (h0 : 0 < x) (h : x < 4294967296) : digs x = [x] := by
  rw [digs_pos (by omega), show x / 4294967296 = 0 by omega, digs_zero, Nat.mod_eq_of_lt h]
def k2 : Ct := .mk [2] [1] []
def k3 : Ct := .mk [3] [2] [k2]
def k7 : Ct := .mk [7] [3] [k2, k3]
theorem isP2 : isP 2 = true := by decide +kernel
theorem isP3 : isP 3 = true := by decide +kernel
theorem isP5 : isP 5 = true := by decide +kernel
theorem isP7 : isP 7 = true := by decide +kernel
theorem isP9 : isP 9 = false := by decide +kernel
theorem strip_dec {d z : Nat} {r : List Nat × Nat} (hd : 2 ≤ d) (hz : 0 < z) (h : z % d = 0) (hr : strip d (z / d) = r) : strip d z = (d :: r.1, r.2) := by rw [strip_yes hd hz h, hr]
theorem facs_of {n z : Nat} {l : List Nat} (h : fac 2 n = (l, z)) (hz : z ≠ 1) (hp : isP z = true) : facs n = some (l ++ [z]) := by
  unfold facs
  rw [h, if_neg hz, if_pos hp]
theorem facs1 : facs 1 = some [] := by
  unfold facs
  rw [fac_no (by decide), if_pos rfl]
theorem facs2 : facs 2 = some [2] := facs_of (fac_no (by decide)) (by decide) isP2
theorem fac33 : fac 3 3 = ([], 3) := fac_no (by decide)
theorem facs6 : facs 6 = some [2, 3] := by
  have h1 : strip 2 6 = ([2], 3) := strip_dec (by decide) (by decide) (by decide) (strip_no (by decide))
  have h2 : fac 2 6 = ([2], 3) := by rw [fac_yes (by decide) (by decide), h1]; show ([2] ++ (fac 3 3).1, (fac 3 3).2) = _; rw [fac33]; rfl
  exact facs_of h2 (by decide) isP3
theorem facs12 : facs 12 = some [2, 2, 3] := by
  have h1 : strip 2 12 = ([2, 2], 3) := strip_dec (by decide) (by decide) (by decide) (strip_dec (by decide) (by decide) (by decide) (strip_no (by decide)))
  have h2 : fac 2 12 = ([2, 2], 3) := by rw [fac_yes (by decide) (by decide), h1]; show ([2, 2] ++ (fac 3 3).1, (fac 3 3).2) = _; rw [fac33]; rfl
  exact facs_of h2 (by decide) isP3
theorem root_of {p r : Nat} {l : List Nat} (h1 : 1 ≤ r) (h2 : l.any (rootBad p r) = false) (h3 : ((List.range r).all fun s => decide (s = 0) || l.any (rootBad p s)) = true) : IsRoot p l r := by
  refine ⟨h1, h2, fun s hs hr => ?_⟩
  have := List.all_eq_true.1 h3 s (List.mem_range.2 hr)
  simp only [Bool.or_eq_true, decide_eq_true_eq] at this
  rcases this with h | h
  · omega
  · exact h
theorem root2 : IsRoot 2 [] 1 := root_of (by decide) (by decide) (by decide)
theorem root3 : IsRoot 3 [2] 2 := root_of (by decide) (by decide) (by decide)
theorem root7 : IsRoot 7 [2, 3] 3 := root_of (by decide) (by decide) (by decide)
theorem cert2 (k : Nat) : cert (k + 1) 2 = (0, k2) := by
  rw [cert_some isP2 facs1, certsBy]; simp [fin, rootOf_eq root2, digs_small, k2]
theorem cert3 (k : Nat) : cert (k + 2) 3 = (0, k3) := by
  have h : certsBy (cert (k + 1)) [2] = (0, [k2]) := by simp [certsBy, cert2]
  rw [cert_some isP3 facs2, h]
  simp [fin, rootOf_eq root3, digs_small, k3]
theorem cert7 : cert 7 7 = (0, k7) := by
  have h : certsBy (cert 6) [2, 3] = (0, [k2, k3]) := by simp [certsBy, cert2 5, cert3 4]
  rw [cert_some isP7 facs6, h]
  simp [fin, rootOf_eq root7, digs_small, k7]
theorem good2 : ∀ k, Good k k2
  | 0 => trivial
  | k + 1 => ⟨fun d h => by simp [k2, Ct.ps] at h, by decide, fun i a b h => by simp [k2, Ct.ps] at h, fun d h => by simp [k2, Ct.ps] at h⟩
theorem good3 : ∀ k, Good k k3
  | 0 => trivial
  | k + 1 => ⟨fun d h => by
      have e : d = k2 := by simpa [k3, Ct.ps] using h
      subst e; decide, by decide, fun i a b h1 h2 => by
      match i, h2 with
      | i + 0, h2 => simp [k3, Ct.ps] at h2, fun d h => by
      have e : d = k2 := by simpa [k3, Ct.ps] using h
      subst e; exact good2 k⟩
theorem good7 : Good 7 k7 := by
  refine ⟨fun d h => ?_, by decide, fun i a b h1 h2 => ?_, fun d h => ?_⟩
  · have e : d = k2 ∨ d = k3 := by simpa [k7, Ct.ps] using h
    rcases e with rfl | rfl <;> decide
  · match i, h1, h2 with
    | 0, h1, h2 =>
      have e1 : k2 = a := by simpa [k7, Ct.ps] using h1
      have e2 : k3 = b := by simpa [k7, Ct.ps] using h2
      subst e1; subst e2; decide
    | i + 1, h1, h2 => simp [k7, Ct.ps] at h2
  · have e : d = k2 ∨ d = k3 := by simpa [k7, Ct.ps] using h
    rcases e with rfl | rfl
    · exact good2 6
    · exact good3 6
theorem ver7 : verB 7 k7 = true := by decide +kernel
theorem szq7 : szq k7 = 4 := by decide +kernel
end Go.Proofs.YtfompolklkehpaaDoor.Pr


/- The chapter's examples: awake. -/
namespace Go.Proofs.YtfompolklkehpaaDoor.Pr
open Go.RowKit Go.Shelf Go.Proofs.YtfompolklkehpaaDoor.Nm Go.Proofs.YtfompolklkehpaaDoor.Ne Go.Proofs.YtfompolklkehpaaDoor.Nf Go.Proofs.YtfompolklkehpaaDoor.Nk Go.Proofs.YtfompolklkehpaaDoor.Nv Go.Proofs.YtfompolklkehpaaDoor.Nr2 Go.Proofs.YtfompolklkehpaaDoor.Mo Go.Proofs.YtfompolklkehpaaDoor.Mr Go.Proofs.YtfompolklkehpaaDoor.Kr

theorem cert_len {W : World} {qn qr qp : Option Addr} {mn dn mr dr mp dp : Nat} (h : CertV W 7 (.agg #[.slice qn mn dn, .slice qr mr dr, .slice qp mp dp]) k7) : mp = 2 := by
  obtain ⟨pn, nn, cn, pr, nr, cr, pp, cp, e, _⟩ := h
  simp only [Value.agg.injEq, Array.mk.injEq, List.cons.injEq, Value.slice.injEq] at e
  exact e.2.2.1.2.1
theorem lit223 (w : World) : IntsV (.slice (some ⟨w.heap.size, 0, none⟩) 3 3) [2, 2, 3] (w.alloc (.cells #[.int .i64 2, .int .i64 2, .int .i64 3] 3)) := by
  refine .inr ⟨w.heap.size, 0, 3, rfl, fun j q h => ?_⟩
  match j, h with
  | 0, h => obtain rfl : 2 = q := by simpa using h
            simp [go_sem, ei]
  | 1, h => obtain rfl : 2 = q := by simpa using h
            simp [go_sem, ei]
  | 2, h => obtain rfl : 3 = q := by simpa using h
            simp [go_sem, ei]
  | j + 3, h => simp at h
set_option linter.unusedSimpArgs false in
set_option maxRecDepth 100000 in
set_option maxHeartbeats 16000000 in
theorem awake_v {w : World} (hT : Wb.Tab w ∧ Bas w) :
    Calls Tryd.prog 10 #[] w fun e w' => e = .returned (.bool true) ∧ Gr w w' := by
  have HT := Lib.hid hT; clear hT
  have H := Sta.start w
  go_enter Tryd.func10, Tryd.ntmps10
  go_upto_region 0 with fail
  refine Kr.seqStartW ?_
  (refine Kr.seqQ (v := ?_) (a' := ?_) (by rfl) ?_ ?_ ?_; rotate_left 2; (focus (go_simp; first | done | rfl)); (focus ((try simp only [Kr.PT]); first | done | rfl)))
  refine Kr.seqDoneW ?_
  go_upto_region 1 with fail
  refine Kr.seqStartW ?_
  refine Kr.seqR (by rfl) (fun K hK => ?_)
  go_simp
  go_at_call 18
  refine ((Root_v (p := 7) ⟨Tab_grow HT.out.1 H.g, Bas_grow HT.out.2 H.g⟩ isP7 (by decide)).mono fun e w2 h => root_some facs6 h).mono ?_
  rintro e y1 ⟨r, hr, rfl, hg⟩
  have e3 := hr.unique root7; subst e3
  replace H := H.grow hg
  clear hg hr
  (refine Kr.outS hK (a' := ?_) ?_ ?_; rotate_left; (focus ((try simp only [Kr.PT]); first | done | rfl))); clear hK K
  iterate 5 (refine Kr.seqQ (v := ?_) (a' := ?_) (by rfl) ?_ ?_ ?_; rotate_left 2; (focus (go_simp; first | done | rfl)); (focus ((try simp only [Kr.PT]); first | done | rfl)))
  refine Kr.seqDoneW ?_
  go_upto_region 2 with fail
  refine Kr.seqStartW ?_
  refine Kr.seqR (by rfl) (fun K hK => ?_)
  go_simp
  go_at_call 28
  have hP := (Certify_v (k := 7) (n := 7) ⟨Tab_grow HT.out.1 H.g, Bas_grow HT.out.2 H.g⟩ (by decide) (by decide)).mono fun e w2 h => h.good (by rw [cert7])
  rw [cert7] at hP
  refine hP.mono ?_
  rintro e yC ⟨qn, mn, dn, qr, mr, dr, qp, mp, dp, rfl, hc, hg⟩
  obtain rfl : mp = 2 := cert_len hc.cert
  have HC := Lib.hid hc.cert
  replace H := H.grow hg
  clear hg hc hP
  have HGC : Hid (Gr yC yC) := Lib.hid (Gr.refl _)
  (refine Kr.outS hK (a' := ?_) ?_ ?_; rotate_left; (focus ((try simp only [Kr.PT]); first | done | rfl))); clear hK K
  iterate 3 (refine Kr.seqQ (v := ?_) (a' := ?_) (by rfl) ?_ ?_ ?_; rotate_left 2; (focus (go_simp; first | done | rfl)); (focus ((try simp only [Kr.PT]); first | done | rfl)))
  refine Kr.seqR (by rfl) (fun K hK => ?_)
  go_simp
  obtain ⟨y2, hy⟩ : ∃ y, yC.alloc (.cells #[.slice none 0 0, .slice none 0 0, .slice none 0 0] 46) = y := ⟨_, rfl⟩
  obtain ⟨bc, hb⟩ : ∃ b, yC.heap.size = b := ⟨_, rfl⟩
  have LHGC_c : Hid (yC.heap.size ≤ bc) := Lib.hid (hb ▸ HGC.out.le)
  replace HGC : Hid (Gr yC y2) := Lib.hid (hy ▸ HGC.out.alloc _)
  rw [hy, hb]
  replace H := Sta_alloc3 H hy hb rfl rfl rfl
  clear hy hb
  (refine Kr.outS hK (a' := ?_) ?_ ?_; rotate_left; (focus ((try simp only [Kr.PT]); first | done | rfl))); clear hK K
  have hk := H.c
  simp only [Kr.Cells] at hk
  refine Kr.seqR (by rfl) (fun K hK => ?_)
  go_simp
  clear hk
  obtain ⟨y3, hy⟩ : ∃ y, y2.setCell ⟨bc, 0, none⟩ (.slice qn mn dn) = y := ⟨_, rfl⟩
  replace HGC : Hid (Gr yC y3) := Lib.hid (hy ▸ HGC.out.setCell (p := ⟨bc, 0, none⟩) LHGC_c.out _)
  rw [hy]
  replace H := H.store 0 hy rfl rfl
  dsimp only [List.set] at H
  clear hy
  obtain ⟨y4, hy⟩ : ∃ y, y3.setCell ⟨bc, 1, none⟩ (.slice qr mr dr) = y := ⟨_, rfl⟩
  replace HGC : Hid (Gr yC y4) := Lib.hid (hy ▸ HGC.out.setCell (p := ⟨bc, 1, none⟩) LHGC_c.out _)
  rw [hy]
  replace H := H.store 1 hy rfl rfl
  dsimp only [List.set] at H
  clear hy
  obtain ⟨y5, hy⟩ : ∃ y, y4.setCell ⟨bc, 2, none⟩ (.slice qp 2 dp) = y := ⟨_, rfl⟩
  replace HGC : Hid (Gr yC y5) := Lib.hid (hy ▸ HGC.out.setCell (p := ⟨bc, 2, none⟩) LHGC_c.out _)
  rw [hy]
  replace H := H.store 2 hy rfl rfl
  dsimp only [List.set] at H
  clear hy
  (refine Kr.outS hK (a' := ?_) ?_ ?_; rotate_left; (focus ((try simp only [Kr.PT]); first | done | rfl))); clear hK K
  (refine Kr.seqQ (v := ?_) (a' := ?_) (by rfl) ?_ ?_ ?_; rotate_left 2; (focus (go_simp; first | done | rfl)); (focus ((try simp only [Kr.PT]); first | done | rfl)))
  refine Kr.seqDoneW ?_
  go_upto_region 3 with fail
  refine Kr.seqStartW ?_
  refine Kr.seqR (by rfl) (fun K hK => ?_)
  go_simp
  go_at_call 15
  refine ((Factors_v (N := 12) ⟨Tab_grow HT.out.1 H.g, Bas_grow HT.out.2 H.g⟩ (by decide) (by decide)).mono fun e w2 h => fac_some facs12 h).mono ?_
  rintro e yF ⟨v1, rfl, hv, hg⟩
  have HV := Lib.hid hv; clear hv
  replace HGC := Lib.hid (HGC.out.trans hg)
  replace H := H.grow hg
  clear hg
  have HGF : Hid (Gr yF yF) := Lib.hid (Gr.refl _)
  (refine Kr.outS hK (a' := ?_) ?_ ?_; rotate_left; (focus ((try simp only [Kr.PT]); first | done | rfl))); clear hK K
  iterate 5 (refine Kr.seqQ (v := ?_) (a' := ?_) (by rfl) ?_ ?_ ?_; rotate_left 2; (focus (go_simp; first | done | rfl)); (focus ((try simp only [Kr.PT]); first | done | rfl)))
  refine Kr.seqDoneW ?_
  go_upto_region 4 with fail
  refine Kr.seqStartW ?_
  iterate 12 (refine Kr.seqQ (v := ?_) (a' := ?_) (by rfl) ?_ ?_ ?_; rotate_left 2; (focus (go_simp; first | done | rfl)); (focus ((try simp only [Kr.PT]); first | done | rfl)))
  have hk := H.c
  simp only [Kr.Cells] at hk
  iterate 6 (refine Kr.seqQ (v := ?_) (a' := ?_) (by rfl) ?_ ?_ ?_; rotate_left 2; (focus (go_simp; first | done | rfl)); (focus ((try simp only [Kr.PT]); first | done | rfl)))
  refine Kr.seqR (by rfl) (fun K hK => ?_)
  go_simp
  go_at_call 23
  have hP := Verify_v (HC.out.grow HGC.out) good7
  rw [ver7] at hP
  refine (hP).mono ?_
  rintro e y6 ⟨rfl, hg⟩
  replace HGC := Lib.hid (HGC.out.trans hg)
  replace HGF := Lib.hid (HGF.out.trans hg)
  clear hk
  replace H := H.grow hg
  clear hg
  clear hP
  (refine Kr.outS hK (a' := ?_) ?_ ?_; rotate_left; (focus ((try simp only [Kr.PT]); first | done | rfl))); clear hK K
  iterate 2 (refine Kr.seqQ (v := ?_) (a' := ?_) (by rfl) ?_ ?_ ?_; rotate_left 2; (focus (go_simp; first | done | rfl)); (focus ((try simp only [Kr.PT]); first | done | rfl)))
  have hk := H.c
  simp only [Kr.Cells] at hk
  (refine Kr.seqQ (v := ?_) (a' := ?_) (by rfl) ?_ ?_ ?_; rotate_left 2; (focus (go_simp; first | done | rfl)); (focus ((try simp only [Kr.PT]); first | done | rfl)))
  refine Kr.seqR (by rfl) (fun K hK => ?_)
  go_simp
  go_at_call 29
  have hP := Size_v (HC.out.grow HGC.out)
  rw [szq7] at hP
  refine (hP).mono ?_
  rintro e y7 ⟨rfl, hg⟩
  replace HGC := Lib.hid (HGC.out.trans hg)
  replace HGF := Lib.hid (HGF.out.trans hg)
  clear hk
  replace H := H.grow hg
  clear hg
  clear hP
  (refine Kr.outS hK (a' := ?_) ?_ ?_; rotate_left; (focus ((try simp only [Kr.PT]); first | done | rfl))); clear hK K
  iterate 4 (refine Kr.seqQ (v := ?_) (a' := ?_) (by rfl) ?_ ?_ ?_; rotate_left 2; (focus (go_simp; first | done | rfl)); (focus ((try simp only [Kr.PT]); first | done | rfl)))
  refine Kr.seqR (by rfl) (fun K hK => ?_)
  go_simp
  obtain ⟨y8, hy⟩ : ∃ y, y7.alloc (.cells #[.int .i64 2, .int .i64 2, .int .i64 3] 3) = y := ⟨_, rfl⟩
  obtain ⟨bl, hbn⟩ : ∃ b, y7.heap.size = b := ⟨_, rfl⟩
  rw [hy, hbn]
  have hg : Gr y7 y8 := hy ▸ (Gr.refl _).alloc _
  have HL : Hid (IntsV (.slice (some ⟨bl, 0, none⟩) 3 3) [2, 2, 3] y8) := Lib.hid (hbn ▸ hy ▸ lit223 y7)
  replace HGC := Lib.hid (HGC.out.trans hg)
  replace HGF := Lib.hid (HGF.out.trans hg)
  replace H := H.grow hg
  clear hg hy hbn
  have HGL : Hid (Gr y8 y8) := Lib.hid (Gr.refl _)
  (refine Kr.outS hK (a' := ?_) ?_ ?_; rotate_left; (focus ((try simp only [Kr.PT]); first | done | rfl))); clear hK K
  refine Kr.seqR (by rfl) (fun K hK => ?_)
  go_simp
  go_at_call 17
  have hP := equalI_v (HV.out.grow HGF.out) (HL.out.grow HGL.out) (by decide)
  rw [decide_eq_true rfl] at hP
  refine (hP).mono ?_
  rintro e y9 ⟨rfl, hg⟩
  replace HGC := Lib.hid (HGC.out.trans hg)
  replace HGF := Lib.hid (HGF.out.trans hg)
  replace HGL := Lib.hid (HGL.out.trans hg)
  replace H := H.grow hg
  clear hg
  clear hP
  (refine Kr.outS hK (a' := ?_) ?_ ?_; rotate_left; (focus ((try simp only [Kr.PT]); first | done | rfl))); clear hK K
  iterate 6 (refine Kr.seqQ (v := ?_) (a' := ?_) (by rfl) ?_ ?_ ?_; rotate_left 2; (focus (go_simp; first | done | rfl)); (focus ((try simp only [Kr.PT]); first | done | rfl)))
  refine Kr.seqR (by rfl) (fun K hK => ?_)
  go_simp
  go_at_call 12
  have hP := Is_v (n := 5) (w := y9) ⟨Tab_grow HT.out.1 H.g, Bas_grow HT.out.2 H.g⟩ (by decide)
  rw [isP5] at hP
  refine (hP).mono ?_
  rintro e y10 ⟨rfl, hg⟩
  replace HGC := Lib.hid (HGC.out.trans hg)
  replace HGF := Lib.hid (HGF.out.trans hg)
  replace HGL := Lib.hid (HGL.out.trans hg)
  replace H := H.grow hg
  clear hg
  clear hP
  (refine Kr.outS hK (a' := ?_) ?_ ?_; rotate_left; (focus ((try simp only [Kr.PT]); first | done | rfl))); clear hK K
  iterate 2 (refine Kr.seqQ (v := ?_) (a' := ?_) (by rfl) ?_ ?_ ?_; rotate_left 2; (focus (go_simp; first | done | rfl)); (focus ((try simp only [Kr.PT]); first | done | rfl)))
  refine Kr.seqR (by rfl) (fun K hK => ?_)
  go_simp
  go_at_call 12
  have hP := Is_v (n := 9) (w := y10) ⟨Tab_grow HT.out.1 H.g, Bas_grow HT.out.2 H.g⟩ (by decide)
  rw [isP9] at hP
  refine (hP).mono ?_
  rintro e y11 ⟨rfl, hg⟩
  replace HGC := Lib.hid (HGC.out.trans hg)
  replace HGF := Lib.hid (HGF.out.trans hg)
  replace HGL := Lib.hid (HGL.out.trans hg)
  replace H := H.grow hg
  clear hg
  clear hP
  (refine Kr.outS hK (a' := ?_) ?_ ?_; rotate_left; (focus ((try simp only [Kr.PT]); first | done | rfl))); clear hK K
  iterate 3 (refine Kr.seqQ (v := ?_) (a' := ?_) (by rfl) ?_ ?_ ?_; rotate_left 2; (focus (go_simp; first | done | rfl)); (focus ((try simp only [Kr.PT]); first | done | rfl)))
  refine Kr.seqDoneW ?_
  have hk := H.c
  simp only [Kr.Cells] at hk
  go_wp2
  refine bodyPost_ret (v := .bool true) (by simp [results, Tryd.results10, go_sem, hk]) rfl ⟨rfl, H.g⟩
end Go.Proofs.YtfompolklkehpaaDoor.Pr


/- The two listed tables read off the row's condition, and a start that meets it. -/
namespace Go.Proofs.YtfompolklkehpaaDoor.Wl
open Go.ChangeShapes Go.WideShapes Go.ChangeAt Go.WideMaps Go.WideElems Go.RowKit

abbrev laid : List (String × DataW Unit) := [("math/bits.deBruijn64tab", Rows.laid_math_bits_deBruijn64tab), ("specie/prime.bases", Rows.laid_specie_prime_bases)]
theorem own : ownKnob Tryd.prog.godebug = none := by kernel_rfl
theorem gTab : Tryd.prog.globalNamed "math/bits.deBruijn64tab" = some 1 := by kernel_rfl
theorem gBas : Tryd.prog.globalNamed "specie/prime.bases" = some 0 := by kernel_rfl
theorem tTab : (Tryd.prog.globals[1]?).map (·.type) = some 89 := by kernel_rfl
theorem tBas : (Tryd.prog.globals[0]?).map (·.type) = some 58 := by kernel_rfl
theorem cTab : Tryd.prog.cellsOf 5 = 1 := by kernel_rfl
theorem cBas : Tryd.prog.cellsOf 58 = 12 := by kernel_rfl
theorem cInt : Tryd.prog.cellsOf 3 = 1 := by kernel_rfl

set_option maxRecDepth 100000 in
theorem door_met (os : Os) (args : Array Value) : laidMetH Tryd.prog laid ((World.doorLaid Tryd.prog 400 os).forCall (fun _ _ => 0) ⟨#[], args, []⟩).memory :=
  laidMetH_of_parts3 (fuel := 8) (laidMet_of_run' 8 (by kernel_rfl) (by kernel_rfl)) (by kernel_rfl) (by kernel_rfl)

theorem tab_list : Rows.laid_math_bits_deBruijn64tab = (.agg (Lib.deBruijn64tab.map fun (k : Nat) => DataW.lit (.int .u8 (k : Int))) : DataW Unit) := rfl
theorem bas_list : Rows.laid_specie_prime_bases = (.agg (Pr.bases.map fun (k : Nat) => DataW.lit (.int .i64 (k : Int))) : DataW Unit) := rfl

theorem bas_at : ∀ (j : Nat), j < 12 → ∀ (h2 : j < Pr.basesV.size), Value.int .i64 ((Pr.bases.getD j 0 : Nat) : Int) = Pr.basesV[j]
  | 0, _, _ => rfl
  | 1, _, _ => rfl
  | 2, _, _ => rfl
  | 3, _, _ => rfl
  | 4, _, _ => rfl
  | 5, _, _ => rfl
  | 6, _, _ => rfl
  | 7, _, _ => rfl
  | 8, _, _ => rfl
  | 9, _, _ => rfl
  | 10, _, _ => rfl
  | 11, _, _ => rfl
  | _ + 12, h, _ => absurd h (by omega)
theorem tables_of_laid {W : World} (h : laidMetH Tryd.prog laid W) : Wb.Tab W ∧ Pr.Bas W := by
  rw [MakeChecks.laidMetH_plain _ _ _ (by kernel_rfl)] at h
  obtain ⟨ps, ⟨g0, t0, cs0, f0, p0, q0, hg0, ht0, hv0, hd0, ⟨g1, t1, cs1, f1, p1, q1, hg1, ht1, hv1, hd1, _, _⟩, _⟩, _, _⟩ := h
  constructor
  · obtain rfl := Option.some.inj (gTab.symm.trans hg0)
    obtain rfl := Option.some.inj (tTab.symm.trans ht0)
    obtain ⟨xs, m1, rfl, hx1, hlen, hn3, hel⟩ := DataW.trod_array Tryd.underlying89 hd0
    rw [tab_list] at hx1
    simp only [Prod.mk.injEq, DataW.agg.injEq] at hx1
    intro j hj
    have hj64 : j < 64 := hj
    have h1 := hel j hj64
    rw [cTab, Nat.mul_one] at h1
    have hx : xs[j]? = some xs[j] := List.getElem?_eq_getElem (by omega)
    rw [hx] at h1
    obtain ⟨k, e1, e2, _⟩ := DataW.trod_int Tryd.underlying5 h1
    have hget : (xs.map (·.1))[j]? = (Lib.deBruijn64tab.map fun (k : Nat) => (DataW.lit (.int .u8 (k : Int)) : DataW Unit))[j]? := by rw [hx1.1]
    rw [List.getElem?_map, hx, List.getElem?_map, List.getElem?_eq_getElem hj, e2] at hget
    simp only [Option.map_some, Option.some.injEq, DataW.lit.injEq, Lit.int.injEq] at hget
    have hk : k = ((Lib.deBruijn64tab.getD j 0 : Nat) : Int) := by
      rw [List.getD_eq_getElem?_getD, List.getElem?_eq_getElem hj, hget.2]; rfl
    have hc := World.var?_cell hg0 hv0 j
    rw [hc, ← hk]
    have h3 : (cs0.toList.drop j)[0]? = some (.int .u8 k) := by
      have : ((cs0.toList.drop j).take 1)[0]? = some (.int .u8 k) := by rw [e1]; rfl
      rwa [List.getElem?_take_of_lt (by omega)] at this
    rw [List.getElem?_drop, Nat.add_zero, Array.getElem?_toList] at h3
    exact h3
  · obtain rfl := Option.some.inj (gBas.symm.trans hg1)
    obtain rfl := Option.some.inj (tBas.symm.trans ht1)
    obtain ⟨xs, m1, rfl, hx1, hlen, hn3, hel⟩ := DataW.trod_array Tryd.underlying58 hd1
    rw [bas_list] at hx1
    simp only [Prod.mk.injEq, DataW.agg.injEq] at hx1
    have hall : ∀ j, j < 12 → cs1[j]? = some (.int .i64 ((Pr.bases.getD j 0 : Nat) : Int)) := by
      intro j hj
      have h1 := hel j hj
      rw [cInt, Nat.mul_one] at h1
      have hx : xs[j]? = some xs[j] := List.getElem?_eq_getElem (by omega)
      rw [hx] at h1
      obtain ⟨k, e1, e2, _⟩ := DataW.trod_int Tryd.underlying3 h1
      have hget : (xs.map (·.1))[j]? = (Pr.bases.map fun (k : Nat) => (DataW.lit (.int .i64 (k : Int)) : DataW Unit))[j]? := by rw [hx1.1]
      rw [List.getElem?_map, hx, List.getElem?_map, List.getElem?_eq_getElem (show j < Pr.bases.length from hj), e2] at hget
      simp only [Option.map_some, Option.some.injEq, DataW.lit.injEq, Lit.int.injEq] at hget
      have hk : k = ((Pr.bases.getD j 0 : Nat) : Int) := by
        rw [List.getD_eq_getElem?_getD, List.getElem?_eq_getElem (show j < Pr.bases.length from hj), hget.2]; rfl
      rw [← hk]
      have h3 : (cs1.toList.drop j)[0]? = some (.int .i64 k) := by
        have : ((cs1.toList.drop j).take 1)[0]? = some (.int .i64 k) := by rw [e1]; rfl
        rwa [List.getElem?_take_of_lt (by omega)] at this
      rw [List.getElem?_drop, Nat.add_zero, Array.getElem?_toList] at h3
      exact h3
    have hsz : cs1.size = 12 := by
      have h1 := hlen
      rw [cBas] at h1
      simpa using h1
    have hcs : cs1 = Pr.basesV := by
      apply Array.ext
      · exact hsz
      · intro j h1 h2
        have h3 := hall j (by omega)
        rw [Array.getElem?_eq_getElem h1] at h3
        rw [Option.some.inj h3]
        have hj : j < 12 := by omega
        revert h2
        match j, hj with
        | j, hj => intro h2; exact bas_at j hj h2
    simp only [World.var?, hg1, Option.bind_some] at hv1
    split at hv1
    · rename_i c t f hh
      cases hv1
      exact ⟨t, f, by rw [hh, hcs]⟩
    · cases hv1
end Go.Proofs.YtfompolklkehpaaDoor.Wl


/- The frame of a law over natural numbers: an argument opened, the law's end. -/
namespace Go.Proofs.YtfompolklkehpaaDoor.Nl
open Go.ChangeShapes Go.WideShapes Go.ChangeAt Go.RowKit Go.WideElems Go.Proofs.YtfompolklkehpaaDoor.Nm Go.Proofs.YtfompolklkehpaaDoor.Ne

theorem own : ownKnob Tryd.prog.godebug = none := by kernel_rfl
theorem laidOut : laidOutB Tryd.prog = true := by kernel_rfl

/-- An argument: a natural number of any length. -/
def Nin (W : World) (p : Option Addr) (n c : Nat) : Prop := ∃ l : List Nat, l.length = n ∧ n ≤ c ∧ (p = none → n = 0 ∧ c = 0) ∧ Rd W p l ∧ ok l ∧ n ≤ 9223372036854775807
theorem Nin.nw {W : World} {p : Option Addr} {n c : Nat} (h : Nin W p n c) (hn : n ≤ 1048576) : ∃ l, Nw W p n c l := by
  obtain ⟨l, h1, h2, h3, h4, h5, _⟩ := h
  exact ⟨l, h1, h2, h3, h4, h5, hn⟩
theorem Nin.lt {W : World} {p : Option Addr} {n c : Nat} (h : Nin W p n c) : n ≤ 9223372036854775807 := by
  obtain ⟨_, _, _, _, _, _, h6⟩ := h
  exact h6

theorem wf_u32 {n : Int} (h : (Lit.int .u32 n).wf = true) : 0 ≤ n ∧ n < 4294967296 := by
  simp [Lit.wf, IntKind.min, IntKind.max, IntKind.signed, IntKind.bits] at h
  omega
theorem ok_toNat {zs : List Int} (h : ∀ n ∈ zs, (Lit.int .u32 n).wf = true) : ok (zs.map Int.toNat) := by
  intro x hx
  obtain ⟨z, hz, rfl⟩ := List.mem_map.1 hx
  have := wf_u32 (h z hz)
  omega

theorem maxLen_le : maxLen ≤ 9223372036854775807 := by decide
theorem cellsNat : Tryd.prog.cellsOf 43 = 1 := by kernel_rfl
theorem cellsSl : Tryd.prog.cellsOf 41 = 1 := by kernel_rfl
theorem cellsU : Tryd.prog.cellsOf 35 = 1 := by kernel_rfl

theorem array1 {α : Type} {cs : Array α} (h : cs.size = 1) : ∃ c0, cs = #[c0] := by
  obtain ⟨l⟩ := cs
  match l, h with
  | [c0], _ => exact ⟨c0, rfl⟩

theorem addr_at {W : World} {a : Addr} {v : Value} (h : W.cell? a = some v) : a.spot = none := by
  unfold World.cell? at h
  cases hs : a.spot with
  | none => rfl
  | some x =>
    simp only [hs, Option.isSome_some, if_true] at h
    split at h <;> cases h

set_option maxRecDepth 100000 in
theorem open_nat {H : Type} {enc : TypeId × Value → H} {W : World} {r : Reach} {b0 : Nat} {v : Value} {d : DataW H} {p : List MemPlace}
    (hv : Value.okWide Tryd.prog W r b0 43 v) (h : DataW.Trod enc Tryd.prog W 0 (fun _ => true) true 43 v d p) :
    ∃ (q : Option Addr) (n c : Nat), v = .agg #[.slice q n c] ∧ Nin W q n c := by
  obtain ⟨cs, rfl, hsz⟩ := okWide_struct Tryd.underlying43 hv
  obtain ⟨c0, rfl⟩ := array1 (hsz.trans cellsNat)
  obtain ⟨fuel, hf⟩ := h
  obtain ⟨y0, n, hx, _, h0⟩ := trod_struct1 Tryd.underlying43 hf
  have h1 : DataW.trod enc Tryd.prog W 0 (fun _ => true) true n 41 [c0] = some y0 := by
    simpa [Value.cells, cellsSl] using h0
  rcases open_ints Tryd.underlying41 Tryd.underlying35 cellsU h1 with ⟨hc, _⟩ | ⟨a, len, cap, zs, hc, _, hl, hm, hz, _, hcell, hw⟩
  · obtain rfl : c0 = .slice none 0 0 := by simpa using hc
    exact ⟨none, 0, 0, rfl, [], rfl, Nat.le_refl _, fun _ => ⟨rfl, rfl⟩, .inl rfl, ok_nil, by decide⟩
  · obtain rfl : c0 = .slice (some a) len cap := by simpa using hc
    have hz' : zs.length = cap := by simpa using hz
    have hm' : cap ≤ 9223372036854775807 := Nat.le_trans hm maxLen_le
    refine ⟨some a, len, cap, rfl, (zs.take len).map Int.toNat, by simp; omega, hl, (fun e => by cases e), ?_, ok_toNat (fun n hn => hw n (List.mem_of_mem_take hn)), by omega⟩
    rcases Nat.eq_zero_or_pos len with h0 | h0
    · subst h0
      exact .inl (by simp)
    · have hs : a.spot = none := addr_at (v := .int .u32 (zs.getD 0 0)) (by simpa [Addr.add] using hcell 0 (by omega))
      obtain ⟨b, off, sp⟩ := a
      subst hs
      refine .inr ⟨b, off, rfl, fun i hi => ?_⟩
      have hi' : i < len := by simp at hi; omega
      have e := hcell i (by omega)
      rw [addr_add] at e
      rw [e]
      have hiz : i < zs.length := by omega
      have e2 : ((zs.take len).map Int.toNat)[i]?.getD 0 = (zs.getD i 0).toNat := by
        simp [hi', hiz]
      rw [e2]
      have e3 := wf_u32 (hw (zs.getD i 0) (by
        have : zs.getD i 0 = zs[i] := by simp [List.getD, hiz]
        rw [this]; exact List.getElem_mem hiz))
      rw [Int.toNat_of_nonneg e3.1]

/-- Arguments read behind the call as before it. -/
theorem again {H : Type} {enc : TypeId × Value → H} {P : Program} (hl : laidOutB P = true) {W W' : World} (hb : Below W.heap.size W W') {sp : Nat → Bool} :
    ∀ {ts : List TypeId} {vs : List Value} {ds : List (DataW H)} {ps : List MemPlace}, (ts.all fun t => P.readableRec t && decide (t < P.types.size)) = true →
      DataW.TrodAll enc P W 0 (fun _ => true) true ts vs ds ps → (∀ p ∈ ps, sp p.block = true) → DataW.TrodAll enc P W' 0 sp true ts vs ds ps
  | [], [], [], _, _, h, _ => h
  | [], [], _ :: _, _, _, h, _ => h.elim
  | [], _ :: _, _, _, _, h, _ => h.elim
  | _ :: _, [], _, _, _, h, _ => h.elim
  | _ :: _, _ :: _, [], _, _, h, _ => h.elim
  | t :: ts, v :: vs, d :: ds, ps, ht, h, hs => by
    obtain ⟨p, q, h1, h2, rfl⟩ := h
    simp only [List.all_cons, Bool.and_eq_true, decide_eq_true_eq] at ht
    obtain ⟨⟨ht1, ht2⟩, ht3⟩ := ht
    have hlt : ∀ x ∈ p, x.block < W.heap.size := DataW.TrodAll.lt (trodAll_mk1 h1)
    refine ⟨p, q, ?_, again hl hb (by simpa using ht3) h2 (fun x hx => hs x (List.mem_append_right _ hx)), rfl⟩
    obtain ⟨fuel, hf⟩ := h1
    exact ⟨fuel, DataW.trod_stays (kids_book hl ht1) (book_sized ht1) (fun h => by cases h) ⟨ht2, book_self t⟩ hf (fun x hx => hb.same (hlt x hx)) (fun x hx => hs x (List.mem_append_left _ hx))⟩

/-- A law's end: it has returned true, and what was there is there. -/
theorem law_end {H : Type} {enc : TypeId × Value → H} {P : Program} (hl : laidOutB P = true) {f : Func} {s : ChangeSpec} {W W' : World} {args : Array Value} {ds : List (DataW H)} {before : List MemPlace} {tb : TypeId}
    (hb : P.underlying tb = some .bool) (hr : f.resultTypes = #[tb]) (hts : (f.params.toList.all fun t => P.readableRec t && decide (t < P.types.size)) = true) (hv : s.vars = [])
    (hW : DataW.Whole enc P f.params.toList s.vars false W args.toList ds [] before) (hres : (s.fn H (ds ++ [])).results = [.lit (.bool true)]) (hargs : (s.fn H (ds ++ [])).args = ds) (hvars : (s.fn H (ds ++ [])).vars = [])
    (hg : Below W.heap.size W W') : s.post enc P f false true false false W args (.bool true) W' := by
  have hlt := hW.lt
  have hW0 := hW
  obtain ⟨p, q, hA, hV, hp, _, _⟩ := hW
  rw [hv] at hV
  obtain ⟨_, rfl⟩ := trodVars_none hV
  rw [List.append_nil] at hp
  subst hp
  refine ⟨ds, [], before, [], before, [], hW0, ?_, ?_, ?_, hg.frame _, fun h => by cases h⟩
  · rw [hres, hr]
    exact trodAll_mk1 (shut_bool hb _)
  · rw [hargs]
    exact again hl hg hts hA (fun x hx => by simpa using hlt x hx)
  · rw [hvars, hv]
    rfl
end Go.Proofs.YtfompolklkehpaaDoor.Nl
