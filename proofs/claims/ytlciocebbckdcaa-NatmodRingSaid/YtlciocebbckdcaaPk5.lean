/- A part of the proofs, joined of smaller texts: Mrd2, Nawake, Mu, Mv. -/
import Derived.Test.YtlciocebbckdcaaPk4
import Derived.Deep.Cut
import Derived.Test.YtlciocebbckdcaaPk2
import Derived.Test.YtlciocebbckdcaaPk3

/- The contracts of the third reference's Inverse and Crt. -/
namespace Go.Proofs.Ytlciocebbckdcaa.Mr
open Go.RowKit Go.Shelf Go.Proofs.Ytlciocebbckdcaa.Nm Go.Proofs.Ytlciocebbckdcaa.Ne Go.Proofs.Ytlciocebbckdcaa.Nf Go.Proofs.Ytlciocebbckdcaa.Nk Go.Proofs.Ytlciocebbckdcaa.Nv Go.Proofs.Ytlciocebbckdcaa.Nr2 Go.Proofs.Ytlciocebbckdcaa.Mo Go.Proofs.Ytlciocebbckdcaa.Mr Go.Proofs.Ytlciocebbckdcaa.Kr

theorem inv_unique {a m u v : Nat} (hu : IsInv a m u) (hv : IsInv a m v) : u = v := by
  obtain ⟨h1, h2⟩ := hu
  obtain ⟨h3, h4⟩ := hv
  have e1 : u * (a * v % m) % m = v * (a * u % m) % m := by
    rw [Nat.mul_mod_mod, Nat.mul_mod_mod, show u * (a * v) = v * (a * u) by rw [Nat.mul_left_comm, Nat.mul_left_comm v a u, Nat.mul_comm u v]]
  rw [h2, h4, Nat.mul_mod_mod, Nat.mul_mod_mod, Nat.mul_one, Nat.mul_one, Nat.mod_eq_of_lt h1, Nat.mod_eq_of_lt h3] at e1
  exact e1
theorem inv3_step {a m x y r s : Nat} (_hx : x < m) (hm : 0 < m) (h1 : (m : Int) ∣ (r : Int) - x * a) (h2 : (m : Int) ∣ (s : Int) - y * a) :
    (m : Int) ∣ ((r % s : Nat) : Int) - ((x + m - r / s % m * y % m) % m : Nat) * a := by
  obtain ⟨t, ht⟩ : ∃ t, r / s % m * y % m = t := ⟨_, rfl⟩
  have htm : t < m := by rw [← ht]; exact Nat.mod_lt _ hm
  obtain ⟨u, hu⟩ := h1
  obtain ⟨v, hv⟩ := h2
  have e1 : ∃ k : Int, (t : Int) = (r / s : Nat) * y - m * k := by
    have h := Nat.div_add_mod (r / s % m * y) m
    have h' := Nat.div_add_mod (r / s) m
    rw [ht] at h
    refine ⟨(r / s % m * y / m : Nat) + (r / s / m : Nat) * y, ?_⟩
    have h3 : ((r / s % m : Nat) : Int) = (r / s : Nat) - m * (r / s / m : Nat) := by have := congrArg (Nat.cast : Nat → Int) h'; push_cast at this; omega
    have h4 := congrArg (Nat.cast : Nat → Int) h
    rw [Int.natCast_add, Int.natCast_mul, Int.natCast_mul, h3, Int.sub_mul] at h4
    rw [Int.mul_add, ← Int.mul_assoc]
    omega
  have e2 : ∃ k : Int, ((((x + m - t) % m : Nat)) : Int) = x - t - m * k := by
    have h := Nat.div_add_mod (x + m - t) m
    refine ⟨((x + m - t) / m : Nat) - 1, ?_⟩
    have h4 := congrArg (Nat.cast : Nat → Int) h
    rw [Int.natCast_add, Int.natCast_mul] at h4
    rw [Int.mul_sub, Int.mul_one]
    omega
  rw [ht]
  obtain ⟨k1, e1⟩ := e1
  obtain ⟨k2, e2⟩ := e2
  have e3 : ((r % s : Nat) : Int) = r - (r / s : Nat) * s := by
    have h := Nat.div_add_mod r s
    have h4 := congrArg (Nat.cast : Nat → Int) h
    rw [Int.natCast_add, Int.natCast_mul] at h4
    rw [Int.mul_comm]
    omega
  refine ⟨u - (r / s : Nat) * v - k1 * a + k2 * a, ?_⟩
  rw [e2, e1, e3]
  generalize ((r / s : Nat) : Int) = Q
  have hr : (r : Int) = m * u + x * a := by omega
  have hs : (s : Int) = m * v + y * a := by omega
  rw [hr, hs]
  simp only [Int.mul_add, Int.mul_sub, Int.sub_mul, Int.mul_assoc]
  rw [show Q * (↑m * v) = ↑m * (Q * v) from Int.mul_left_comm .., show Q * ((y : Int) * ↑a) = Q * (↑y * ↑a) from rfl]
  omega
theorem inv3_end {a m x : Nat} (hx : x < m) (h : (m : Int) ∣ ((1 : Nat) : Int) - x * a) : IsInv a m x := isInv_of hx (by rwa [Int.mul_comm])

set_option linter.unusedSimpArgs false in
set_option maxRecDepth 100000 in
set_option maxHeartbeats 16000000 in
theorem rinv3_v {pa : Option Addr} {na ca : Nat} {pm : Option Addr} {nm cm : Nat} {a m : Nat} {w : World} (ha : Nw w pa na ca (digs a)) (hm : Nw w pm nm cm (digs m)) (va : a < m) (vm : m < pw 900) :
    Calls Try.prog 34 #[.agg #[.slice pa na ca], .agg #[.slice pm nm cm]] w (fun e w' => ∃ (p5 : Option Addr) (n5 c5 z : Nat), e = .returned (.tuple #[.agg #[.slice p5 n5 c5], .bool (decide (Nat.gcd a m = 1))]) ∧ (Nat.gcd a m = 1 → IsInv a m z) ∧ Nw w' p5 n5 c5 (digs z) ∧ Gr w w') := by
  have VA := Lib.hid va
  have VM := Lib.hid vm
  have M0 : Hid (0 < m) := Lib.hid (Nat.lt_of_le_of_lt (Nat.zero_le _) va)
  clear va vm
  have H := Sta.start w
  replace H := H.num ha
  replace H := H.num hm
  go_enter Try.func34, Try.ntmps34
  go_upto_region 0 with fail
  refine Kr.seqStart ?_
  refine Kr.seqS (fun K hK => ?_)
  go_simp
  obtain ⟨y1, hy⟩ : ∃ y, w.alloc (.cells #[.slice pa na ca] 24) = y := ⟨_, rfl⟩
  obtain ⟨ba, hb⟩ : ∃ b, w.heap.size = b := ⟨_, rfl⟩
  rw [hy, hb]
  replace H := H.alloc hy hb rfl
  clear hy hb
  refine hK.out _ _ ?_; clear hK K
  (try simp only [Act.put, List.getElem_toArray, List.getElem_cons_zero, List.getElem_cons_succ, List.setIfInBounds_toArray, List.set_cons_zero, List.set_cons_succ])
  refine Kr.seqS (fun K hK => ?_)
  go_simp
  obtain ⟨y2, hy⟩ : ∃ y, y1.alloc (.cells #[.slice pm nm cm] 24) = y := ⟨_, rfl⟩
  obtain ⟨bm, hb⟩ : ∃ b, y1.heap.size = b := ⟨_, rfl⟩
  rw [hy, hb]
  replace H := H.alloc hy hb rfl
  clear hy hb
  refine hK.out _ _ ?_; clear hK K
  (try simp only [Act.put, List.getElem_toArray, List.getElem_cons_zero, List.getElem_cons_succ, List.setIfInBounds_toArray, List.set_cons_zero, List.set_cons_succ])
  refine Kr.seqS (fun K hK => ?_)
  go_simp
  obtain ⟨y3, hy⟩ : ∃ y, y2.alloc (.cells #[.slice none 0 0] 24) = y := ⟨_, rfl⟩
  obtain ⟨bz, hb⟩ : ∃ b, y2.heap.size = b := ⟨_, rfl⟩
  rw [hy, hb]
  replace H := H.alloc hy hb rfl
  clear hy hb
  refine hK.out _ _ ?_; clear hK K
  (try simp only [Act.put, List.getElem_toArray, List.getElem_cons_zero, List.getElem_cons_succ, List.setIfInBounds_toArray, List.set_cons_zero, List.set_cons_succ])
  (refine Kr.seqP (v := ?_) (by rfl) ?_ ?_; rotate_left; (focus (go_simp; first | done | rfl)); (try simp only [Act.put, List.getElem_toArray, List.getElem_cons_zero, List.getElem_cons_succ, List.setIfInBounds_toArray, List.set_cons_zero, List.set_cons_succ]))
  refine Kr.seqDone ?_
  go_upto_region 1 with fail
  go_cut [6, 7] from 11 to 12 (fun s6 s7 W => ∃ (br : Nat) (bs : Nat), s6 = .pointer (some ⟨br, 0, none⟩) ∧ s7 = .pointer (some ⟨bs, 0, none⟩) ∧ Hid (Sta w W [(br, 0, .slice pm nm cm), (bs, 0, .slice pa na ca), (bz, 0, .slice none 0 0), (bm, 0, .slice pm nm cm), (ba, 0, .slice pa na ca)] [N pm nm cm (m), N pa na ca (a)]))
  case first =>
    refine Kr.startL (fun W' => Kr.Cells W' [(bm, 0, .slice pm nm cm), (ba, 0, .slice pa na ca)]) [] (by kernel_rfl) ?_
    have gd : Gr y3 y3.drew := (Gr.refl _).drew
    generalize y3.drew = d4 at gd ⊢
    replace H := H.grow gd
    clear gd
    (refine Kr.tS 0 [] (v := ?_) rfl (by kernel_rfl) (fun _ _ _ h => h) (by rfl) (H.sub [1, 2] rfl) (fun wx hSx => ?_) ?_; rotate_left; (focus (simp only [Kr.Cells] at hSx; go_simp; first | done | rfl)); (try simp only [Act.put, List.getElem_toArray, List.getElem_cons_zero, List.getElem_cons_succ, List.setIfInBounds_toArray, List.set_cons_zero, List.set_cons_succ]))
    (refine Kr.tS 1 [] (v := ?_) rfl (by kernel_rfl) (fun _ _ _ h => h) (by rfl) (H.sub [1, 2] rfl) (fun wx hSx => ?_) ?_; rotate_left; (focus (simp only [Kr.Cells] at hSx; go_simp; first | done | rfl)); (try simp only [Act.put, List.getElem_toArray, List.getElem_cons_zero, List.getElem_cons_succ, List.setIfInBounds_toArray, List.set_cons_zero, List.set_cons_succ]))
    refine Kr.readyL (rs := [2, 3]) (by kernel_rfl) (by simp) ?_
    refine Kr.AllL.cons rfl (fun K hK => ?_) ?_
    · go_simp
      obtain ⟨y5, hy⟩ : ∃ y, d4.alloc (.cells #[.slice none 0 0] 24) = y := ⟨_, rfl⟩
      obtain ⟨br, hb⟩ : ∃ b, d4.heap.size = b := ⟨_, rfl⟩
      rw [hy, hb]
      replace H := H.alloc hy hb rfl
      clear hy hb
      refine hK.out _ _ (fun _ => (H.sub [2, 3] rfl)) ?_; clear hK K
      (try simp only [Act.put, List.getElem_toArray, List.getElem_cons_zero, List.getElem_cons_succ, List.setIfInBounds_toArray, List.set_cons_zero, List.set_cons_succ])
      refine Kr.readyL (rs := [3]) (by kernel_rfl) (by simp) ?_
      refine Kr.AllL.cons rfl (fun K hK => ?_) Kr.AllL.nil
      go_simp
      obtain ⟨y6, hy⟩ : ∃ y, y5.alloc (.cells #[.slice none 0 0] 24) = y := ⟨_, rfl⟩
      obtain ⟨bs, hb⟩ : ∃ b, y5.heap.size = b := ⟨_, rfl⟩
      rw [hy, hb]
      replace H := H.alloc hy hb rfl
      clear hy hb
      refine hK.out _ _ (fun _ => (H.sub [3, 4] rfl)) ?_; clear hK K
      (try simp only [Act.put, List.getElem_toArray, List.getElem_cons_zero, List.getElem_cons_succ, List.setIfInBounds_toArray, List.set_cons_zero, List.set_cons_succ])
      refine Kr.readyL (rs := [4]) (by kernel_rfl) (by simp) ?_
      refine Kr.AllL.cons rfl (fun K hK => ?_) Kr.AllL.nil
      have hk := H.c
      simp only [Kr.Cells] at hk
      go_simp
      clear hk
      obtain ⟨y7, hy⟩ : ∃ y, y6.setCell ⟨br, 0, none⟩ (.slice pm nm cm) = y := ⟨_, rfl⟩
      rw [hy]
      replace H := H.store 1 hy rfl rfl
      dsimp only [List.set] at H
      clear hy
      refine hK.out _ _ (fun _ => (H.sub [3, 4] rfl)) ?_; clear hK K
      (try simp only [Act.put, List.getElem_toArray, List.getElem_cons_zero, List.getElem_cons_succ, List.setIfInBounds_toArray, List.set_cons_zero, List.set_cons_succ])
      refine Kr.readyL (rs := [5]) (by kernel_rfl) (by simp) ?_
      refine Kr.AllL.cons rfl (fun K hK => ?_) Kr.AllL.nil
      have hk := H.c
      simp only [Kr.Cells] at hk
      go_simp
      clear hk
      obtain ⟨y8, hy⟩ : ∃ y, y7.setCell ⟨bs, 0, none⟩ (.slice pa na ca) = y := ⟨_, rfl⟩
      rw [hy]
      replace H := H.store 0 hy rfl rfl
      dsimp only [List.set] at H
      clear hy
      refine hK.out _ _ (fun _ => (H.sub [3, 4] rfl)) ?_; clear hK K
      (try simp only [Act.put, List.getElem_toArray, List.getElem_cons_zero, List.getElem_cons_succ, List.setIfInBounds_toArray, List.set_cons_zero, List.set_cons_succ])
      refine Kr.doneL (by kernel_rfl) ?_ _
      go_wp2_with fail
      go_meet
      exact ⟨_, _, rfl, rfl, Lib.hid (H.pickC [1, 0, 2, 3, 4] (by decide) rfl)⟩
    refine Kr.AllL.cons rfl (fun K hK => ?_) Kr.AllL.nil
    go_simp
    obtain ⟨y9, hy⟩ : ∃ y, d4.alloc (.cells #[.slice none 0 0] 24) = y := ⟨_, rfl⟩
    obtain ⟨bs, hb⟩ : ∃ b, d4.heap.size = b := ⟨_, rfl⟩
    rw [hy, hb]
    replace H := H.alloc hy hb rfl
    clear hy hb
    refine hK.out _ _ (fun _ => (H.sub [2, 3] rfl)) ?_; clear hK K
    (try simp only [Act.put, List.getElem_toArray, List.getElem_cons_zero, List.getElem_cons_succ, List.setIfInBounds_toArray, List.set_cons_zero, List.set_cons_succ])
    refine Kr.readyL (rs := [2]) (by kernel_rfl) (by simp) ?_
    refine Kr.AllL.cons rfl (fun K hK => ?_) Kr.AllL.nil
    go_simp
    obtain ⟨y10, hy⟩ : ∃ y, y9.alloc (.cells #[.slice none 0 0] 24) = y := ⟨_, rfl⟩
    obtain ⟨br, hb⟩ : ∃ b, y9.heap.size = b := ⟨_, rfl⟩
    rw [hy, hb]
    replace H := H.alloc hy hb rfl
    clear hy hb
    refine hK.out _ _ (fun _ => (H.sub [3, 4] rfl)) ?_; clear hK K
    (try simp only [Act.put, List.getElem_toArray, List.getElem_cons_zero, List.getElem_cons_succ, List.setIfInBounds_toArray, List.set_cons_zero, List.set_cons_succ])
    refine Kr.readyL (rs := [4]) (by kernel_rfl) (by simp) ?_
    refine Kr.AllL.cons rfl (fun K hK => ?_) Kr.AllL.nil
    have hk := H.c
    simp only [Kr.Cells] at hk
    go_simp
    clear hk
    obtain ⟨y11, hy⟩ : ∃ y, y10.setCell ⟨br, 0, none⟩ (.slice pm nm cm) = y := ⟨_, rfl⟩
    rw [hy]
    replace H := H.store 0 hy rfl rfl
    dsimp only [List.set] at H
    clear hy
    refine hK.out _ _ (fun _ => (H.sub [3, 4] rfl)) ?_; clear hK K
    (try simp only [Act.put, List.getElem_toArray, List.getElem_cons_zero, List.getElem_cons_succ, List.setIfInBounds_toArray, List.set_cons_zero, List.set_cons_succ])
    refine Kr.readyL (rs := [5]) (by kernel_rfl) (by simp) ?_
    refine Kr.AllL.cons rfl (fun K hK => ?_) Kr.AllL.nil
    have hk := H.c
    simp only [Kr.Cells] at hk
    go_simp
    clear hk
    obtain ⟨y12, hy⟩ : ∃ y, y11.setCell ⟨bs, 0, none⟩ (.slice pa na ca) = y := ⟨_, rfl⟩
    rw [hy]
    replace H := H.store 1 hy rfl rfl
    dsimp only [List.set] at H
    clear hy
    refine hK.out _ _ (fun _ => (H.sub [3, 4] rfl)) ?_; clear hK K
    (try simp only [Act.put, List.getElem_toArray, List.getElem_cons_zero, List.getElem_cons_succ, List.setIfInBounds_toArray, List.set_cons_zero, List.set_cons_succ])
    refine Kr.doneL (by kernel_rfl) ?_ _
    go_wp2_with fail
    go_meet
    exact ⟨_, _, rfl, rfl, Lib.hid H⟩
  case rest =>
    clear H
    obtain ⟨br, bs, rfl, rfl, HH⟩ := hcut
    have H := HH.out
    clear HH
    go_upto_region 2 with fail
    go_cut [8, 9] from 13 to 16 (fun s8 s9 W => ∃ (bu : Nat) (bv : Nat) (p69 : Option Addr) (n69 c69 : Nat) (p68 : Option Addr) (n68 c68 : Nat), s8 = .pointer (some ⟨bu, 0, none⟩) ∧ s9 = .pointer (some ⟨bv, 0, none⟩) ∧ Hid (Sta w W [(bu, 0, .slice none 0 0), (bv, 0, .slice p69 n69 c69), (br, 0, .slice pm nm cm), (bs, 0, .slice pa na ca), (bz, 0, .slice none 0 0), (bm, 0, .slice pm nm cm), (ba, 0, .slice pa na ca)] [N p69 n69 c69 (1 % m), N p68 n68 c68 (1), N pm nm cm (m), N pa na ca (a)]))
    case first =>
      refine Kr.startL (fun W' => Kr.Cells W' [(bm, 0, .slice pm nm cm)]) [] (by kernel_rfl) ?_
      have gd : Gr wc wc.drew := (Gr.refl _).drew
      generalize wc.drew = d13 at gd ⊢
      replace H := H.grow gd
      clear gd
      (refine Kr.tP 0 (v := ?_) rfl (by kernel_rfl) (fun _ _ _ h => h) (by rfl) (fun _ => (H.sub [3] rfl)) (fun wx => ?_) ?_; rotate_left; (focus (go_simp; first | done | rfl)); (try simp only [Act.put, List.getElem_toArray, List.getElem_cons_zero, List.getElem_cons_succ, List.setIfInBounds_toArray, List.set_cons_zero, List.set_cons_succ]))
      (refine Kr.tS 2 [] (v := ?_) rfl (by kernel_rfl) (fun _ _ _ h => h) (by rfl) (H.sub [3] rfl) (fun wx hSx => ?_) ?_; rotate_left; (focus (simp only [Kr.Cells] at hSx; go_simp; first | done | rfl)); (try simp only [Act.put, List.getElem_toArray, List.getElem_cons_zero, List.getElem_cons_succ, List.setIfInBounds_toArray, List.set_cons_zero, List.set_cons_succ]))
      refine Kr.readyL (rs := [1, 4, 5]) (by kernel_rfl) (by simp) ?_
      refine Kr.AllL.cons rfl (fun K hK => ?_) ?_
      · go_simp
        go_at_call 38
        refine (of3_v 1 (by decide) _).mono ?_
        rintro e y14 ⟨p14, n14, c14, rfl, hr, hg⟩
        replace H := H.grow hg
        replace H := H.num hr.toNw
        clear hr hg
        refine hK.out _ _ (fun _ => (H.sub [3] rfl)) ?_; clear hK K
        (try simp only [Act.put, List.getElem_toArray, List.getElem_cons_zero, List.getElem_cons_succ, List.setIfInBounds_toArray, List.set_cons_zero, List.set_cons_succ])
        refine Kr.readyL (rs := [3, 4, 5]) (by kernel_rfl) (by simp) ?_
        refine Kr.AllL.cons rfl (fun K hK => ?_) ?_
        · go_simp
          go_at_call 47
          refine (rmod3_v (H.nw 0 rfl) (H.nw 1 rfl) (pw_pos' 999) M0.out VM.out).mono ?_
          rintro e y15 ⟨p15, n15, c15, rfl, hr, hg⟩
          replace H := H.grow hg
          replace H := H.num hr
          clear hr hg
          refine hK.out _ _ (fun _ => (H.sub [3] rfl)) ?_; clear hK K
          (try simp only [Act.put, List.getElem_toArray, List.getElem_cons_zero, List.getElem_cons_succ, List.setIfInBounds_toArray, List.set_cons_zero, List.set_cons_succ])
          refine Kr.readyL (rs := [4, 5]) (by kernel_rfl) (by simp) ?_
          refine Kr.AllL.cons rfl (fun K hK => ?_) ?_
          · go_simp
            obtain ⟨y16, hy⟩ : ∃ y, y15.alloc (.cells #[.slice none 0 0] 24) = y := ⟨_, rfl⟩
            obtain ⟨bu, hb⟩ : ∃ b, y15.heap.size = b := ⟨_, rfl⟩
            rw [hy, hb]
            replace H := H.alloc hy hb rfl
            clear hy hb
            refine hK.out _ _ (fun _ => (H.sub [4] rfl)) ?_; clear hK K
            (try simp only [Act.put, List.getElem_toArray, List.getElem_cons_zero, List.getElem_cons_succ, List.setIfInBounds_toArray, List.set_cons_zero, List.set_cons_succ])
            refine Kr.readyL (rs := [5]) (by kernel_rfl) (by simp) ?_
            refine Kr.AllL.cons rfl (fun K hK => ?_) Kr.AllL.nil
            go_simp
            obtain ⟨y17, hy⟩ : ∃ y, y16.alloc (.cells #[.slice none 0 0] 24) = y := ⟨_, rfl⟩
            obtain ⟨bv, hb⟩ : ∃ b, y16.heap.size = b := ⟨_, rfl⟩
            rw [hy, hb]
            replace H := H.alloc hy hb rfl
            clear hy hb
            refine hK.out _ _ (fun _ => (H.sub [5] rfl)) ?_; clear hK K
            (try simp only [Act.put, List.getElem_toArray, List.getElem_cons_zero, List.getElem_cons_succ, List.setIfInBounds_toArray, List.set_cons_zero, List.set_cons_succ])
            refine Kr.readyL (rs := [6]) (by kernel_rfl) (by simp) ?_
            refine Kr.AllL.cons rfl (fun K hK => ?_) Kr.AllL.nil
            have hk := H.c
            simp only [Kr.Cells] at hk
            go_simp
            clear hk
            obtain ⟨y18, hy⟩ : ∃ y, y17.setCell ⟨bu, 0, none⟩ (.slice none 0 0) = y := ⟨_, rfl⟩
            rw [hy]
            replace H := H.store 1 hy rfl rfl
            dsimp only [List.set] at H
            clear hy
            refine hK.out _ _ (fun _ => (H.sub [5] rfl)) ?_; clear hK K
            (try simp only [Act.put, List.getElem_toArray, List.getElem_cons_zero, List.getElem_cons_succ, List.setIfInBounds_toArray, List.set_cons_zero, List.set_cons_succ])
            refine Kr.readyL (rs := [7]) (by kernel_rfl) (by simp) ?_
            refine Kr.AllL.cons rfl (fun K hK => ?_) Kr.AllL.nil
            have hk := H.c
            simp only [Kr.Cells] at hk
            go_simp
            clear hk
            obtain ⟨y19, hy⟩ : ∃ y, y18.setCell ⟨bv, 0, none⟩ (.slice p15 n15 c15) = y := ⟨_, rfl⟩
            rw [hy]
            replace H := H.store 0 hy rfl rfl
            dsimp only [List.set] at H
            clear hy
            refine hK.out _ _ (fun _ => (H.sub [5] rfl)) ?_; clear hK K
            (try simp only [Act.put, List.getElem_toArray, List.getElem_cons_zero, List.getElem_cons_succ, List.setIfInBounds_toArray, List.set_cons_zero, List.set_cons_succ])
            refine Kr.doneL (by kernel_rfl) ?_ _
            go_wp2_with fail
            go_meet
            exact ⟨_, _, _, _, _, _, _, _, rfl, rfl, Lib.hid (H.pickC [1, 0, 2, 3, 4, 5, 6] (by decide) rfl)⟩
          refine Kr.AllL.cons rfl (fun K hK => ?_) Kr.AllL.nil
          go_simp
          obtain ⟨y20, hy⟩ : ∃ y, y15.alloc (.cells #[.slice none 0 0] 24) = y := ⟨_, rfl⟩
          obtain ⟨bv, hb⟩ : ∃ b, y15.heap.size = b := ⟨_, rfl⟩
          rw [hy, hb]
          replace H := H.alloc hy hb rfl
          clear hy hb
          refine hK.out _ _ (fun _ => (H.sub [4] rfl)) ?_; clear hK K
          (try simp only [Act.put, List.getElem_toArray, List.getElem_cons_zero, List.getElem_cons_succ, List.setIfInBounds_toArray, List.set_cons_zero, List.set_cons_succ])
          refine Kr.readyL (rs := [4]) (by kernel_rfl) (by simp) ?_
          refine Kr.AllL.cons rfl (fun K hK => ?_) Kr.AllL.nil
          go_simp
          obtain ⟨y21, hy⟩ : ∃ y, y20.alloc (.cells #[.slice none 0 0] 24) = y := ⟨_, rfl⟩
          obtain ⟨bu, hb⟩ : ∃ b, y20.heap.size = b := ⟨_, rfl⟩
          rw [hy, hb]
          replace H := H.alloc hy hb rfl
          clear hy hb
          refine hK.out _ _ (fun _ => (H.sub [5] rfl)) ?_; clear hK K
          (try simp only [Act.put, List.getElem_toArray, List.getElem_cons_zero, List.getElem_cons_succ, List.setIfInBounds_toArray, List.set_cons_zero, List.set_cons_succ])
          refine Kr.readyL (rs := [6]) (by kernel_rfl) (by simp) ?_
          refine Kr.AllL.cons rfl (fun K hK => ?_) Kr.AllL.nil
          have hk := H.c
          simp only [Kr.Cells] at hk
          go_simp
          clear hk
          obtain ⟨y22, hy⟩ : ∃ y, y21.setCell ⟨bu, 0, none⟩ (.slice none 0 0) = y := ⟨_, rfl⟩
          rw [hy]
          replace H := H.store 0 hy rfl rfl
          dsimp only [List.set] at H
          clear hy
          refine hK.out _ _ (fun _ => (H.sub [5] rfl)) ?_; clear hK K
          (try simp only [Act.put, List.getElem_toArray, List.getElem_cons_zero, List.getElem_cons_succ, List.setIfInBounds_toArray, List.set_cons_zero, List.set_cons_succ])
          refine Kr.readyL (rs := [7]) (by kernel_rfl) (by simp) ?_
          refine Kr.AllL.cons rfl (fun K hK => ?_) Kr.AllL.nil
          have hk := H.c
          simp only [Kr.Cells] at hk
          go_simp
          clear hk
          obtain ⟨y23, hy⟩ : ∃ y, y22.setCell ⟨bv, 0, none⟩ (.slice p15 n15 c15) = y := ⟨_, rfl⟩
          rw [hy]
          replace H := H.store 1 hy rfl rfl
          dsimp only [List.set] at H
          clear hy
          refine hK.out _ _ (fun _ => (H.sub [5] rfl)) ?_; clear hK K
          (try simp only [Act.put, List.getElem_toArray, List.getElem_cons_zero, List.getElem_cons_succ, List.setIfInBounds_toArray, List.set_cons_zero, List.set_cons_succ])
          refine Kr.doneL (by kernel_rfl) ?_ _
          go_wp2_with fail
          go_meet
          exact ⟨_, _, _, _, _, _, _, _, rfl, rfl, Lib.hid H⟩
        refine Kr.AllL.cons rfl (fun K hK => ?_) ?_
        · go_simp
          obtain ⟨y24, hy⟩ : ∃ y, y14.alloc (.cells #[.slice none 0 0] 24) = y := ⟨_, rfl⟩
          obtain ⟨bu, hb⟩ : ∃ b, y14.heap.size = b := ⟨_, rfl⟩
          rw [hy, hb]
          replace H := H.alloc hy hb rfl
          clear hy hb
          refine hK.out _ _ (fun _ => (H.sub [4] rfl)) ?_; clear hK K
          (try simp only [Act.put, List.getElem_toArray, List.getElem_cons_zero, List.getElem_cons_succ, List.setIfInBounds_toArray, List.set_cons_zero, List.set_cons_succ])
          refine Kr.readyL (rs := [3, 5]) (by kernel_rfl) (by simp) ?_
          refine Kr.AllL.cons rfl (fun K hK => ?_) ?_
          · go_simp
            go_at_call 47
            refine (rmod3_v (H.nw 0 rfl) (H.nw 1 rfl) (pw_pos' 999) M0.out VM.out).mono ?_
            rintro e y25 ⟨p25, n25, c25, rfl, hr, hg⟩
            replace H := H.grow hg
            replace H := H.num hr
            clear hr hg
            refine hK.out _ _ (fun _ => (H.sub [4] rfl)) ?_; clear hK K
            (try simp only [Act.put, List.getElem_toArray, List.getElem_cons_zero, List.getElem_cons_succ, List.setIfInBounds_toArray, List.set_cons_zero, List.set_cons_succ])
            refine Kr.readyL (rs := [5]) (by kernel_rfl) (by simp) ?_
            refine Kr.AllL.cons rfl (fun K hK => ?_) Kr.AllL.nil
            go_simp
            obtain ⟨y26, hy⟩ : ∃ y, y25.alloc (.cells #[.slice none 0 0] 24) = y := ⟨_, rfl⟩
            obtain ⟨bv, hb⟩ : ∃ b, y25.heap.size = b := ⟨_, rfl⟩
            rw [hy, hb]
            replace H := H.alloc hy hb rfl
            clear hy hb
            refine hK.out _ _ (fun _ => (H.sub [5] rfl)) ?_; clear hK K
            (try simp only [Act.put, List.getElem_toArray, List.getElem_cons_zero, List.getElem_cons_succ, List.setIfInBounds_toArray, List.set_cons_zero, List.set_cons_succ])
            refine Kr.readyL (rs := [6]) (by kernel_rfl) (by simp) ?_
            refine Kr.AllL.cons rfl (fun K hK => ?_) Kr.AllL.nil
            have hk := H.c
            simp only [Kr.Cells] at hk
            go_simp
            clear hk
            obtain ⟨y27, hy⟩ : ∃ y, y26.setCell ⟨bu, 0, none⟩ (.slice none 0 0) = y := ⟨_, rfl⟩
            rw [hy]
            replace H := H.store 1 hy rfl rfl
            dsimp only [List.set] at H
            clear hy
            refine hK.out _ _ (fun _ => (H.sub [5] rfl)) ?_; clear hK K
            (try simp only [Act.put, List.getElem_toArray, List.getElem_cons_zero, List.getElem_cons_succ, List.setIfInBounds_toArray, List.set_cons_zero, List.set_cons_succ])
            refine Kr.readyL (rs := [7]) (by kernel_rfl) (by simp) ?_
            refine Kr.AllL.cons rfl (fun K hK => ?_) Kr.AllL.nil
            have hk := H.c
            simp only [Kr.Cells] at hk
            go_simp
            clear hk
            obtain ⟨y28, hy⟩ : ∃ y, y27.setCell ⟨bv, 0, none⟩ (.slice p25 n25 c25) = y := ⟨_, rfl⟩
            rw [hy]
            replace H := H.store 0 hy rfl rfl
            dsimp only [List.set] at H
            clear hy
            refine hK.out _ _ (fun _ => (H.sub [5] rfl)) ?_; clear hK K
            (try simp only [Act.put, List.getElem_toArray, List.getElem_cons_zero, List.getElem_cons_succ, List.setIfInBounds_toArray, List.set_cons_zero, List.set_cons_succ])
            refine Kr.doneL (by kernel_rfl) ?_ _
            go_wp2_with fail
            go_meet
            exact ⟨_, _, _, _, _, _, _, _, rfl, rfl, Lib.hid (H.pickC [1, 0, 2, 3, 4, 5, 6] (by decide) rfl)⟩
          refine Kr.AllL.cons rfl (fun K hK => ?_) Kr.AllL.nil
          go_simp
          obtain ⟨y29, hy⟩ : ∃ y, y24.alloc (.cells #[.slice none 0 0] 24) = y := ⟨_, rfl⟩
          obtain ⟨bv, hb⟩ : ∃ b, y24.heap.size = b := ⟨_, rfl⟩
          rw [hy, hb]
          replace H := H.alloc hy hb rfl
          clear hy hb
          refine hK.out _ _ (fun _ => (H.sub [5] rfl)) ?_; clear hK K
          (try simp only [Act.put, List.getElem_toArray, List.getElem_cons_zero, List.getElem_cons_succ, List.setIfInBounds_toArray, List.set_cons_zero, List.set_cons_succ])
          refine Kr.readyL (rs := [3]) (by kernel_rfl) (by simp) ?_
          refine Kr.AllL.cons rfl (fun K hK => ?_) Kr.AllL.nil
          go_simp
          go_at_call 47
          refine (rmod3_v (H.nw 0 rfl) (H.nw 1 rfl) (pw_pos' 999) M0.out VM.out).mono ?_
          rintro e y30 ⟨p30, n30, c30, rfl, hr, hg⟩
          replace H := H.grow hg
          replace H := H.num hr
          clear hr hg
          refine hK.out _ _ (fun _ => (H.sub [5] rfl)) ?_; clear hK K
          (try simp only [Act.put, List.getElem_toArray, List.getElem_cons_zero, List.getElem_cons_succ, List.setIfInBounds_toArray, List.set_cons_zero, List.set_cons_succ])
          refine Kr.readyL (rs := [6]) (by kernel_rfl) (by simp) ?_
          refine Kr.AllL.cons rfl (fun K hK => ?_) Kr.AllL.nil
          have hk := H.c
          simp only [Kr.Cells] at hk
          go_simp
          clear hk
          obtain ⟨y31, hy⟩ : ∃ y, y30.setCell ⟨bu, 0, none⟩ (.slice none 0 0) = y := ⟨_, rfl⟩
          rw [hy]
          replace H := H.store 1 hy rfl rfl
          dsimp only [List.set] at H
          clear hy
          refine hK.out _ _ (fun _ => (H.sub [5] rfl)) ?_; clear hK K
          (try simp only [Act.put, List.getElem_toArray, List.getElem_cons_zero, List.getElem_cons_succ, List.setIfInBounds_toArray, List.set_cons_zero, List.set_cons_succ])
          refine Kr.readyL (rs := [7]) (by kernel_rfl) (by simp) ?_
          refine Kr.AllL.cons rfl (fun K hK => ?_) Kr.AllL.nil
          have hk := H.c
          simp only [Kr.Cells] at hk
          go_simp
          clear hk
          obtain ⟨y32, hy⟩ : ∃ y, y31.setCell ⟨bv, 0, none⟩ (.slice p30 n30 c30) = y := ⟨_, rfl⟩
          rw [hy]
          replace H := H.store 0 hy rfl rfl
          dsimp only [List.set] at H
          clear hy
          refine hK.out _ _ (fun _ => (H.sub [5] rfl)) ?_; clear hK K
          (try simp only [Act.put, List.getElem_toArray, List.getElem_cons_zero, List.getElem_cons_succ, List.setIfInBounds_toArray, List.set_cons_zero, List.set_cons_succ])
          refine Kr.doneL (by kernel_rfl) ?_ _
          go_wp2_with fail
          go_meet
          exact ⟨_, _, _, _, _, _, _, _, rfl, rfl, Lib.hid (H.pickC [1, 0, 2, 3, 4, 5, 6] (by decide) rfl)⟩
        refine Kr.AllL.cons rfl (fun K hK => ?_) Kr.AllL.nil
        go_simp
        obtain ⟨y33, hy⟩ : ∃ y, y14.alloc (.cells #[.slice none 0 0] 24) = y := ⟨_, rfl⟩
        obtain ⟨bv, hb⟩ : ∃ b, y14.heap.size = b := ⟨_, rfl⟩
        rw [hy, hb]
        replace H := H.alloc hy hb rfl
        clear hy hb
        refine hK.out _ _ (fun _ => (H.sub [4] rfl)) ?_; clear hK K
        (try simp only [Act.put, List.getElem_toArray, List.getElem_cons_zero, List.getElem_cons_succ, List.setIfInBounds_toArray, List.set_cons_zero, List.set_cons_succ])
        refine Kr.readyL (rs := [3, 4]) (by kernel_rfl) (by simp) ?_
        refine Kr.AllL.cons rfl (fun K hK => ?_) ?_
        · go_simp
          go_at_call 47
          refine (rmod3_v (H.nw 0 rfl) (H.nw 1 rfl) (pw_pos' 999) M0.out VM.out).mono ?_
          rintro e y34 ⟨p34, n34, c34, rfl, hr, hg⟩
          replace H := H.grow hg
          replace H := H.num hr
          clear hr hg
          refine hK.out _ _ (fun _ => (H.sub [4] rfl)) ?_; clear hK K
          (try simp only [Act.put, List.getElem_toArray, List.getElem_cons_zero, List.getElem_cons_succ, List.setIfInBounds_toArray, List.set_cons_zero, List.set_cons_succ])
          refine Kr.readyL (rs := [4]) (by kernel_rfl) (by simp) ?_
          refine Kr.AllL.cons rfl (fun K hK => ?_) Kr.AllL.nil
          go_simp
          obtain ⟨y35, hy⟩ : ∃ y, y34.alloc (.cells #[.slice none 0 0] 24) = y := ⟨_, rfl⟩
          obtain ⟨bu, hb⟩ : ∃ b, y34.heap.size = b := ⟨_, rfl⟩
          rw [hy, hb]
          replace H := H.alloc hy hb rfl
          clear hy hb
          refine hK.out _ _ (fun _ => (H.sub [5] rfl)) ?_; clear hK K
          (try simp only [Act.put, List.getElem_toArray, List.getElem_cons_zero, List.getElem_cons_succ, List.setIfInBounds_toArray, List.set_cons_zero, List.set_cons_succ])
          refine Kr.readyL (rs := [6]) (by kernel_rfl) (by simp) ?_
          refine Kr.AllL.cons rfl (fun K hK => ?_) Kr.AllL.nil
          have hk := H.c
          simp only [Kr.Cells] at hk
          go_simp
          clear hk
          obtain ⟨y36, hy⟩ : ∃ y, y35.setCell ⟨bu, 0, none⟩ (.slice none 0 0) = y := ⟨_, rfl⟩
          rw [hy]
          replace H := H.store 0 hy rfl rfl
          dsimp only [List.set] at H
          clear hy
          refine hK.out _ _ (fun _ => (H.sub [5] rfl)) ?_; clear hK K
          (try simp only [Act.put, List.getElem_toArray, List.getElem_cons_zero, List.getElem_cons_succ, List.setIfInBounds_toArray, List.set_cons_zero, List.set_cons_succ])
          refine Kr.readyL (rs := [7]) (by kernel_rfl) (by simp) ?_
          refine Kr.AllL.cons rfl (fun K hK => ?_) Kr.AllL.nil
          have hk := H.c
          simp only [Kr.Cells] at hk
          go_simp
          clear hk
          obtain ⟨y37, hy⟩ : ∃ y, y36.setCell ⟨bv, 0, none⟩ (.slice p34 n34 c34) = y := ⟨_, rfl⟩
          rw [hy]
          replace H := H.store 1 hy rfl rfl
          dsimp only [List.set] at H
          clear hy
          refine hK.out _ _ (fun _ => (H.sub [5] rfl)) ?_; clear hK K
          (try simp only [Act.put, List.getElem_toArray, List.getElem_cons_zero, List.getElem_cons_succ, List.setIfInBounds_toArray, List.set_cons_zero, List.set_cons_succ])
          refine Kr.doneL (by kernel_rfl) ?_ _
          go_wp2_with fail
          go_meet
          exact ⟨_, _, _, _, _, _, _, _, rfl, rfl, Lib.hid H⟩
        refine Kr.AllL.cons rfl (fun K hK => ?_) Kr.AllL.nil
        go_simp
        obtain ⟨y38, hy⟩ : ∃ y, y33.alloc (.cells #[.slice none 0 0] 24) = y := ⟨_, rfl⟩
        obtain ⟨bu, hb⟩ : ∃ b, y33.heap.size = b := ⟨_, rfl⟩
        rw [hy, hb]
        replace H := H.alloc hy hb rfl
        clear hy hb
        refine hK.out _ _ (fun _ => (H.sub [5] rfl)) ?_; clear hK K
        (try simp only [Act.put, List.getElem_toArray, List.getElem_cons_zero, List.getElem_cons_succ, List.setIfInBounds_toArray, List.set_cons_zero, List.set_cons_succ])
        refine Kr.readyL (rs := [3]) (by kernel_rfl) (by simp) ?_
        refine Kr.AllL.cons rfl (fun K hK => ?_) Kr.AllL.nil
        go_simp
        go_at_call 47
        refine (rmod3_v (H.nw 0 rfl) (H.nw 1 rfl) (pw_pos' 999) M0.out VM.out).mono ?_
        rintro e y39 ⟨p39, n39, c39, rfl, hr, hg⟩
        replace H := H.grow hg
        replace H := H.num hr
        clear hr hg
        refine hK.out _ _ (fun _ => (H.sub [5] rfl)) ?_; clear hK K
        (try simp only [Act.put, List.getElem_toArray, List.getElem_cons_zero, List.getElem_cons_succ, List.setIfInBounds_toArray, List.set_cons_zero, List.set_cons_succ])
        refine Kr.readyL (rs := [6]) (by kernel_rfl) (by simp) ?_
        refine Kr.AllL.cons rfl (fun K hK => ?_) Kr.AllL.nil
        have hk := H.c
        simp only [Kr.Cells] at hk
        go_simp
        clear hk
        obtain ⟨y40, hy⟩ : ∃ y, y39.setCell ⟨bu, 0, none⟩ (.slice none 0 0) = y := ⟨_, rfl⟩
        rw [hy]
        replace H := H.store 0 hy rfl rfl
        dsimp only [List.set] at H
        clear hy
        refine hK.out _ _ (fun _ => (H.sub [5] rfl)) ?_; clear hK K
        (try simp only [Act.put, List.getElem_toArray, List.getElem_cons_zero, List.getElem_cons_succ, List.setIfInBounds_toArray, List.set_cons_zero, List.set_cons_succ])
        refine Kr.readyL (rs := [7]) (by kernel_rfl) (by simp) ?_
        refine Kr.AllL.cons rfl (fun K hK => ?_) Kr.AllL.nil
        have hk := H.c
        simp only [Kr.Cells] at hk
        go_simp
        clear hk
        obtain ⟨y41, hy⟩ : ∃ y, y40.setCell ⟨bv, 0, none⟩ (.slice p39 n39 c39) = y := ⟨_, rfl⟩
        rw [hy]
        replace H := H.store 1 hy rfl rfl
        dsimp only [List.set] at H
        clear hy
        refine hK.out _ _ (fun _ => (H.sub [5] rfl)) ?_; clear hK K
        (try simp only [Act.put, List.getElem_toArray, List.getElem_cons_zero, List.getElem_cons_succ, List.setIfInBounds_toArray, List.set_cons_zero, List.set_cons_succ])
        refine Kr.doneL (by kernel_rfl) ?_ _
        go_wp2_with fail
        go_meet
        exact ⟨_, _, _, _, _, _, _, _, rfl, rfl, Lib.hid H⟩
      refine Kr.AllL.cons rfl (fun K hK => ?_) ?_
      · go_simp
        obtain ⟨y42, hy⟩ : ∃ y, d13.alloc (.cells #[.slice none 0 0] 24) = y := ⟨_, rfl⟩
        obtain ⟨bu, hb⟩ : ∃ b, d13.heap.size = b := ⟨_, rfl⟩
        rw [hy, hb]
        replace H := H.alloc hy hb rfl
        clear hy hb
        refine hK.out _ _ (fun _ => (H.sub [4] rfl)) ?_; clear hK K
        (try simp only [Act.put, List.getElem_toArray, List.getElem_cons_zero, List.getElem_cons_succ, List.setIfInBounds_toArray, List.set_cons_zero, List.set_cons_succ])
        refine Kr.readyL (rs := [1, 5]) (by kernel_rfl) (by simp) ?_
        refine Kr.AllL.cons rfl (fun K hK => ?_) ?_
        · go_simp
          go_at_call 38
          refine (of3_v 1 (by decide) _).mono ?_
          rintro e y43 ⟨p43, n43, c43, rfl, hr, hg⟩
          replace H := H.grow hg
          replace H := H.num hr.toNw
          clear hr hg
          refine hK.out _ _ (fun _ => (H.sub [4] rfl)) ?_; clear hK K
          (try simp only [Act.put, List.getElem_toArray, List.getElem_cons_zero, List.getElem_cons_succ, List.setIfInBounds_toArray, List.set_cons_zero, List.set_cons_succ])
          refine Kr.readyL (rs := [3, 5]) (by kernel_rfl) (by simp) ?_
          refine Kr.AllL.cons rfl (fun K hK => ?_) ?_
          · go_simp
            go_at_call 47
            refine (rmod3_v (H.nw 0 rfl) (H.nw 1 rfl) (pw_pos' 999) M0.out VM.out).mono ?_
            rintro e y44 ⟨p44, n44, c44, rfl, hr, hg⟩
            replace H := H.grow hg
            replace H := H.num hr
            clear hr hg
            refine hK.out _ _ (fun _ => (H.sub [4] rfl)) ?_; clear hK K
            (try simp only [Act.put, List.getElem_toArray, List.getElem_cons_zero, List.getElem_cons_succ, List.setIfInBounds_toArray, List.set_cons_zero, List.set_cons_succ])
            refine Kr.readyL (rs := [5]) (by kernel_rfl) (by simp) ?_
            refine Kr.AllL.cons rfl (fun K hK => ?_) Kr.AllL.nil
            go_simp
            obtain ⟨y45, hy⟩ : ∃ y, y44.alloc (.cells #[.slice none 0 0] 24) = y := ⟨_, rfl⟩
            obtain ⟨bv, hb⟩ : ∃ b, y44.heap.size = b := ⟨_, rfl⟩
            rw [hy, hb]
            replace H := H.alloc hy hb rfl
            clear hy hb
            refine hK.out _ _ (fun _ => (H.sub [5] rfl)) ?_; clear hK K
            (try simp only [Act.put, List.getElem_toArray, List.getElem_cons_zero, List.getElem_cons_succ, List.setIfInBounds_toArray, List.set_cons_zero, List.set_cons_succ])
            refine Kr.readyL (rs := [6]) (by kernel_rfl) (by simp) ?_
            refine Kr.AllL.cons rfl (fun K hK => ?_) Kr.AllL.nil
            have hk := H.c
            simp only [Kr.Cells] at hk
            go_simp
            clear hk
            obtain ⟨y46, hy⟩ : ∃ y, y45.setCell ⟨bu, 0, none⟩ (.slice none 0 0) = y := ⟨_, rfl⟩
            rw [hy]
            replace H := H.store 1 hy rfl rfl
            dsimp only [List.set] at H
            clear hy
            refine hK.out _ _ (fun _ => (H.sub [5] rfl)) ?_; clear hK K
            (try simp only [Act.put, List.getElem_toArray, List.getElem_cons_zero, List.getElem_cons_succ, List.setIfInBounds_toArray, List.set_cons_zero, List.set_cons_succ])
            refine Kr.readyL (rs := [7]) (by kernel_rfl) (by simp) ?_
            refine Kr.AllL.cons rfl (fun K hK => ?_) Kr.AllL.nil
            have hk := H.c
            simp only [Kr.Cells] at hk
            go_simp
            clear hk
            obtain ⟨y47, hy⟩ : ∃ y, y46.setCell ⟨bv, 0, none⟩ (.slice p44 n44 c44) = y := ⟨_, rfl⟩
            rw [hy]
            replace H := H.store 0 hy rfl rfl
            dsimp only [List.set] at H
            clear hy
            refine hK.out _ _ (fun _ => (H.sub [5] rfl)) ?_; clear hK K
            (try simp only [Act.put, List.getElem_toArray, List.getElem_cons_zero, List.getElem_cons_succ, List.setIfInBounds_toArray, List.set_cons_zero, List.set_cons_succ])
            refine Kr.doneL (by kernel_rfl) ?_ _
            go_wp2_with fail
            go_meet
            exact ⟨_, _, _, _, _, _, _, _, rfl, rfl, Lib.hid (H.pickC [1, 0, 2, 3, 4, 5, 6] (by decide) rfl)⟩
          refine Kr.AllL.cons rfl (fun K hK => ?_) Kr.AllL.nil
          go_simp
          obtain ⟨y48, hy⟩ : ∃ y, y43.alloc (.cells #[.slice none 0 0] 24) = y := ⟨_, rfl⟩
          obtain ⟨bv, hb⟩ : ∃ b, y43.heap.size = b := ⟨_, rfl⟩
          rw [hy, hb]
          replace H := H.alloc hy hb rfl
          clear hy hb
          refine hK.out _ _ (fun _ => (H.sub [5] rfl)) ?_; clear hK K
          (try simp only [Act.put, List.getElem_toArray, List.getElem_cons_zero, List.getElem_cons_succ, List.setIfInBounds_toArray, List.set_cons_zero, List.set_cons_succ])
          refine Kr.readyL (rs := [3]) (by kernel_rfl) (by simp) ?_
          refine Kr.AllL.cons rfl (fun K hK => ?_) Kr.AllL.nil
          go_simp
          go_at_call 47
          refine (rmod3_v (H.nw 0 rfl) (H.nw 1 rfl) (pw_pos' 999) M0.out VM.out).mono ?_
          rintro e y49 ⟨p49, n49, c49, rfl, hr, hg⟩
          replace H := H.grow hg
          replace H := H.num hr
          clear hr hg
          refine hK.out _ _ (fun _ => (H.sub [5] rfl)) ?_; clear hK K
          (try simp only [Act.put, List.getElem_toArray, List.getElem_cons_zero, List.getElem_cons_succ, List.setIfInBounds_toArray, List.set_cons_zero, List.set_cons_succ])
          refine Kr.readyL (rs := [6]) (by kernel_rfl) (by simp) ?_
          refine Kr.AllL.cons rfl (fun K hK => ?_) Kr.AllL.nil
          have hk := H.c
          simp only [Kr.Cells] at hk
          go_simp
          clear hk
          obtain ⟨y50, hy⟩ : ∃ y, y49.setCell ⟨bu, 0, none⟩ (.slice none 0 0) = y := ⟨_, rfl⟩
          rw [hy]
          replace H := H.store 1 hy rfl rfl
          dsimp only [List.set] at H
          clear hy
          refine hK.out _ _ (fun _ => (H.sub [5] rfl)) ?_; clear hK K
          (try simp only [Act.put, List.getElem_toArray, List.getElem_cons_zero, List.getElem_cons_succ, List.setIfInBounds_toArray, List.set_cons_zero, List.set_cons_succ])
          refine Kr.readyL (rs := [7]) (by kernel_rfl) (by simp) ?_
          refine Kr.AllL.cons rfl (fun K hK => ?_) Kr.AllL.nil
          have hk := H.c
          simp only [Kr.Cells] at hk
          go_simp
          clear hk
          obtain ⟨y51, hy⟩ : ∃ y, y50.setCell ⟨bv, 0, none⟩ (.slice p49 n49 c49) = y := ⟨_, rfl⟩
          rw [hy]
          replace H := H.store 0 hy rfl rfl
          dsimp only [List.set] at H
          clear hy
          refine hK.out _ _ (fun _ => (H.sub [5] rfl)) ?_; clear hK K
          (try simp only [Act.put, List.getElem_toArray, List.getElem_cons_zero, List.getElem_cons_succ, List.setIfInBounds_toArray, List.set_cons_zero, List.set_cons_succ])
          refine Kr.doneL (by kernel_rfl) ?_ _
          go_wp2_with fail
          go_meet
          exact ⟨_, _, _, _, _, _, _, _, rfl, rfl, Lib.hid (H.pickC [1, 0, 2, 3, 4, 5, 6] (by decide) rfl)⟩
        refine Kr.AllL.cons rfl (fun K hK => ?_) Kr.AllL.nil
        go_simp
        obtain ⟨y52, hy⟩ : ∃ y, y42.alloc (.cells #[.slice none 0 0] 24) = y := ⟨_, rfl⟩
        obtain ⟨bv, hb⟩ : ∃ b, y42.heap.size = b := ⟨_, rfl⟩
        rw [hy, hb]
        replace H := H.alloc hy hb rfl
        clear hy hb
        refine hK.out _ _ (fun _ => (H.sub [5] rfl)) ?_; clear hK K
        (try simp only [Act.put, List.getElem_toArray, List.getElem_cons_zero, List.getElem_cons_succ, List.setIfInBounds_toArray, List.set_cons_zero, List.set_cons_succ])
        refine Kr.readyL (rs := [1]) (by kernel_rfl) (by simp) ?_
        refine Kr.AllL.cons rfl (fun K hK => ?_) Kr.AllL.nil
        go_simp
        go_at_call 38
        refine (of3_v 1 (by decide) _).mono ?_
        rintro e y53 ⟨p53, n53, c53, rfl, hr, hg⟩
        replace H := H.grow hg
        replace H := H.num hr.toNw
        clear hr hg
        refine hK.out _ _ (fun _ => (H.sub [5] rfl)) ?_; clear hK K
        (try simp only [Act.put, List.getElem_toArray, List.getElem_cons_zero, List.getElem_cons_succ, List.setIfInBounds_toArray, List.set_cons_zero, List.set_cons_succ])
        refine Kr.readyL (rs := [3]) (by kernel_rfl) (by simp) ?_
        refine Kr.AllL.cons rfl (fun K hK => ?_) Kr.AllL.nil
        go_simp
        go_at_call 47
        refine (rmod3_v (H.nw 0 rfl) (H.nw 1 rfl) (pw_pos' 999) M0.out VM.out).mono ?_
        rintro e y54 ⟨p54, n54, c54, rfl, hr, hg⟩
        replace H := H.grow hg
        replace H := H.num hr
        clear hr hg
        refine hK.out _ _ (fun _ => (H.sub [5] rfl)) ?_; clear hK K
        (try simp only [Act.put, List.getElem_toArray, List.getElem_cons_zero, List.getElem_cons_succ, List.setIfInBounds_toArray, List.set_cons_zero, List.set_cons_succ])
        refine Kr.readyL (rs := [6]) (by kernel_rfl) (by simp) ?_
        refine Kr.AllL.cons rfl (fun K hK => ?_) Kr.AllL.nil
        have hk := H.c
        simp only [Kr.Cells] at hk
        go_simp
        clear hk
        obtain ⟨y55, hy⟩ : ∃ y, y54.setCell ⟨bu, 0, none⟩ (.slice none 0 0) = y := ⟨_, rfl⟩
        rw [hy]
        replace H := H.store 1 hy rfl rfl
        dsimp only [List.set] at H
        clear hy
        refine hK.out _ _ (fun _ => (H.sub [5] rfl)) ?_; clear hK K
        (try simp only [Act.put, List.getElem_toArray, List.getElem_cons_zero, List.getElem_cons_succ, List.setIfInBounds_toArray, List.set_cons_zero, List.set_cons_succ])
        refine Kr.readyL (rs := [7]) (by kernel_rfl) (by simp) ?_
        refine Kr.AllL.cons rfl (fun K hK => ?_) Kr.AllL.nil
        have hk := H.c
        simp only [Kr.Cells] at hk
        go_simp
        clear hk
        obtain ⟨y56, hy⟩ : ∃ y, y55.setCell ⟨bv, 0, none⟩ (.slice p54 n54 c54) = y := ⟨_, rfl⟩
        rw [hy]
        replace H := H.store 0 hy rfl rfl
        dsimp only [List.set] at H
        clear hy
        refine hK.out _ _ (fun _ => (H.sub [5] rfl)) ?_; clear hK K
        (try simp only [Act.put, List.getElem_toArray, List.getElem_cons_zero, List.getElem_cons_succ, List.setIfInBounds_toArray, List.set_cons_zero, List.set_cons_succ])
        refine Kr.doneL (by kernel_rfl) ?_ _
        go_wp2_with fail
        go_meet
        exact ⟨_, _, _, _, _, _, _, _, rfl, rfl, Lib.hid (H.pickC [1, 0, 2, 3, 4, 5, 6] (by decide) rfl)⟩
      refine Kr.AllL.cons rfl (fun K hK => ?_) Kr.AllL.nil
      go_simp
      obtain ⟨y57, hy⟩ : ∃ y, d13.alloc (.cells #[.slice none 0 0] 24) = y := ⟨_, rfl⟩
      obtain ⟨bv, hb⟩ : ∃ b, d13.heap.size = b := ⟨_, rfl⟩
      rw [hy, hb]
      replace H := H.alloc hy hb rfl
      clear hy hb
      refine hK.out _ _ (fun _ => (H.sub [4] rfl)) ?_; clear hK K
      (try simp only [Act.put, List.getElem_toArray, List.getElem_cons_zero, List.getElem_cons_succ, List.setIfInBounds_toArray, List.set_cons_zero, List.set_cons_succ])
      refine Kr.readyL (rs := [1, 4]) (by kernel_rfl) (by simp) ?_
      refine Kr.AllL.cons rfl (fun K hK => ?_) ?_
      · go_simp
        go_at_call 38
        refine (of3_v 1 (by decide) _).mono ?_
        rintro e y58 ⟨p58, n58, c58, rfl, hr, hg⟩
        replace H := H.grow hg
        replace H := H.num hr.toNw
        clear hr hg
        refine hK.out _ _ (fun _ => (H.sub [4] rfl)) ?_; clear hK K
        (try simp only [Act.put, List.getElem_toArray, List.getElem_cons_zero, List.getElem_cons_succ, List.setIfInBounds_toArray, List.set_cons_zero, List.set_cons_succ])
        refine Kr.readyL (rs := [3, 4]) (by kernel_rfl) (by simp) ?_
        refine Kr.AllL.cons rfl (fun K hK => ?_) ?_
        · go_simp
          go_at_call 47
          refine (rmod3_v (H.nw 0 rfl) (H.nw 1 rfl) (pw_pos' 999) M0.out VM.out).mono ?_
          rintro e y59 ⟨p59, n59, c59, rfl, hr, hg⟩
          replace H := H.grow hg
          replace H := H.num hr
          clear hr hg
          refine hK.out _ _ (fun _ => (H.sub [4] rfl)) ?_; clear hK K
          (try simp only [Act.put, List.getElem_toArray, List.getElem_cons_zero, List.getElem_cons_succ, List.setIfInBounds_toArray, List.set_cons_zero, List.set_cons_succ])
          refine Kr.readyL (rs := [4]) (by kernel_rfl) (by simp) ?_
          refine Kr.AllL.cons rfl (fun K hK => ?_) Kr.AllL.nil
          go_simp
          obtain ⟨y60, hy⟩ : ∃ y, y59.alloc (.cells #[.slice none 0 0] 24) = y := ⟨_, rfl⟩
          obtain ⟨bu, hb⟩ : ∃ b, y59.heap.size = b := ⟨_, rfl⟩
          rw [hy, hb]
          replace H := H.alloc hy hb rfl
          clear hy hb
          refine hK.out _ _ (fun _ => (H.sub [5] rfl)) ?_; clear hK K
          (try simp only [Act.put, List.getElem_toArray, List.getElem_cons_zero, List.getElem_cons_succ, List.setIfInBounds_toArray, List.set_cons_zero, List.set_cons_succ])
          refine Kr.readyL (rs := [6]) (by kernel_rfl) (by simp) ?_
          refine Kr.AllL.cons rfl (fun K hK => ?_) Kr.AllL.nil
          have hk := H.c
          simp only [Kr.Cells] at hk
          go_simp
          clear hk
          obtain ⟨y61, hy⟩ : ∃ y, y60.setCell ⟨bu, 0, none⟩ (.slice none 0 0) = y := ⟨_, rfl⟩
          rw [hy]
          replace H := H.store 0 hy rfl rfl
          dsimp only [List.set] at H
          clear hy
          refine hK.out _ _ (fun _ => (H.sub [5] rfl)) ?_; clear hK K
          (try simp only [Act.put, List.getElem_toArray, List.getElem_cons_zero, List.getElem_cons_succ, List.setIfInBounds_toArray, List.set_cons_zero, List.set_cons_succ])
          refine Kr.readyL (rs := [7]) (by kernel_rfl) (by simp) ?_
          refine Kr.AllL.cons rfl (fun K hK => ?_) Kr.AllL.nil
          have hk := H.c
          simp only [Kr.Cells] at hk
          go_simp
          clear hk
          obtain ⟨y62, hy⟩ : ∃ y, y61.setCell ⟨bv, 0, none⟩ (.slice p59 n59 c59) = y := ⟨_, rfl⟩
          rw [hy]
          replace H := H.store 1 hy rfl rfl
          dsimp only [List.set] at H
          clear hy
          refine hK.out _ _ (fun _ => (H.sub [5] rfl)) ?_; clear hK K
          (try simp only [Act.put, List.getElem_toArray, List.getElem_cons_zero, List.getElem_cons_succ, List.setIfInBounds_toArray, List.set_cons_zero, List.set_cons_succ])
          refine Kr.doneL (by kernel_rfl) ?_ _
          go_wp2_with fail
          go_meet
          exact ⟨_, _, _, _, _, _, _, _, rfl, rfl, Lib.hid H⟩
        refine Kr.AllL.cons rfl (fun K hK => ?_) Kr.AllL.nil
        go_simp
        obtain ⟨y63, hy⟩ : ∃ y, y58.alloc (.cells #[.slice none 0 0] 24) = y := ⟨_, rfl⟩
        obtain ⟨bu, hb⟩ : ∃ b, y58.heap.size = b := ⟨_, rfl⟩
        rw [hy, hb]
        replace H := H.alloc hy hb rfl
        clear hy hb
        refine hK.out _ _ (fun _ => (H.sub [5] rfl)) ?_; clear hK K
        (try simp only [Act.put, List.getElem_toArray, List.getElem_cons_zero, List.getElem_cons_succ, List.setIfInBounds_toArray, List.set_cons_zero, List.set_cons_succ])
        refine Kr.readyL (rs := [3]) (by kernel_rfl) (by simp) ?_
        refine Kr.AllL.cons rfl (fun K hK => ?_) Kr.AllL.nil
        go_simp
        go_at_call 47
        refine (rmod3_v (H.nw 0 rfl) (H.nw 1 rfl) (pw_pos' 999) M0.out VM.out).mono ?_
        rintro e y64 ⟨p64, n64, c64, rfl, hr, hg⟩
        replace H := H.grow hg
        replace H := H.num hr
        clear hr hg
        refine hK.out _ _ (fun _ => (H.sub [5] rfl)) ?_; clear hK K
        (try simp only [Act.put, List.getElem_toArray, List.getElem_cons_zero, List.getElem_cons_succ, List.setIfInBounds_toArray, List.set_cons_zero, List.set_cons_succ])
        refine Kr.readyL (rs := [6]) (by kernel_rfl) (by simp) ?_
        refine Kr.AllL.cons rfl (fun K hK => ?_) Kr.AllL.nil
        have hk := H.c
        simp only [Kr.Cells] at hk
        go_simp
        clear hk
        obtain ⟨y65, hy⟩ : ∃ y, y64.setCell ⟨bu, 0, none⟩ (.slice none 0 0) = y := ⟨_, rfl⟩
        rw [hy]
        replace H := H.store 0 hy rfl rfl
        dsimp only [List.set] at H
        clear hy
        refine hK.out _ _ (fun _ => (H.sub [5] rfl)) ?_; clear hK K
        (try simp only [Act.put, List.getElem_toArray, List.getElem_cons_zero, List.getElem_cons_succ, List.setIfInBounds_toArray, List.set_cons_zero, List.set_cons_succ])
        refine Kr.readyL (rs := [7]) (by kernel_rfl) (by simp) ?_
        refine Kr.AllL.cons rfl (fun K hK => ?_) Kr.AllL.nil
        have hk := H.c
        simp only [Kr.Cells] at hk
        go_simp
        clear hk
        obtain ⟨y66, hy⟩ : ∃ y, y65.setCell ⟨bv, 0, none⟩ (.slice p64 n64 c64) = y := ⟨_, rfl⟩
        rw [hy]
        replace H := H.store 1 hy rfl rfl
        dsimp only [List.set] at H
        clear hy
        refine hK.out _ _ (fun _ => (H.sub [5] rfl)) ?_; clear hK K
        (try simp only [Act.put, List.getElem_toArray, List.getElem_cons_zero, List.getElem_cons_succ, List.setIfInBounds_toArray, List.set_cons_zero, List.set_cons_succ])
        refine Kr.doneL (by kernel_rfl) ?_ _
        go_wp2_with fail
        go_meet
        exact ⟨_, _, _, _, _, _, _, _, rfl, rfl, Lib.hid H⟩
      refine Kr.AllL.cons rfl (fun K hK => ?_) Kr.AllL.nil
      go_simp
      obtain ⟨y67, hy⟩ : ∃ y, y57.alloc (.cells #[.slice none 0 0] 24) = y := ⟨_, rfl⟩
      obtain ⟨bu, hb⟩ : ∃ b, y57.heap.size = b := ⟨_, rfl⟩
      rw [hy, hb]
      replace H := H.alloc hy hb rfl
      clear hy hb
      refine hK.out _ _ (fun _ => (H.sub [5] rfl)) ?_; clear hK K
      (try simp only [Act.put, List.getElem_toArray, List.getElem_cons_zero, List.getElem_cons_succ, List.setIfInBounds_toArray, List.set_cons_zero, List.set_cons_succ])
      refine Kr.readyL (rs := [1]) (by kernel_rfl) (by simp) ?_
      refine Kr.AllL.cons rfl (fun K hK => ?_) Kr.AllL.nil
      go_simp
      go_at_call 38
      refine (of3_v 1 (by decide) _).mono ?_
      rintro e y68 ⟨p68, n68, c68, rfl, hr, hg⟩
      replace H := H.grow hg
      replace H := H.num hr.toNw
      clear hr hg
      refine hK.out _ _ (fun _ => (H.sub [5] rfl)) ?_; clear hK K
      (try simp only [Act.put, List.getElem_toArray, List.getElem_cons_zero, List.getElem_cons_succ, List.setIfInBounds_toArray, List.set_cons_zero, List.set_cons_succ])
      refine Kr.readyL (rs := [3]) (by kernel_rfl) (by simp) ?_
      refine Kr.AllL.cons rfl (fun K hK => ?_) Kr.AllL.nil
      go_simp
      go_at_call 47
      refine (rmod3_v (H.nw 0 rfl) (H.nw 1 rfl) (pw_pos' 999) M0.out VM.out).mono ?_
      rintro e y69 ⟨p69, n69, c69, rfl, hr, hg⟩
      replace H := H.grow hg
      replace H := H.num hr
      clear hr hg
      refine hK.out _ _ (fun _ => (H.sub [5] rfl)) ?_; clear hK K
      (try simp only [Act.put, List.getElem_toArray, List.getElem_cons_zero, List.getElem_cons_succ, List.setIfInBounds_toArray, List.set_cons_zero, List.set_cons_succ])
      refine Kr.readyL (rs := [6]) (by kernel_rfl) (by simp) ?_
      refine Kr.AllL.cons rfl (fun K hK => ?_) Kr.AllL.nil
      have hk := H.c
      simp only [Kr.Cells] at hk
      go_simp
      clear hk
      obtain ⟨y70, hy⟩ : ∃ y, y69.setCell ⟨bu, 0, none⟩ (.slice none 0 0) = y := ⟨_, rfl⟩
      rw [hy]
      replace H := H.store 0 hy rfl rfl
      dsimp only [List.set] at H
      clear hy
      refine hK.out _ _ (fun _ => (H.sub [5] rfl)) ?_; clear hK K
      (try simp only [Act.put, List.getElem_toArray, List.getElem_cons_zero, List.getElem_cons_succ, List.setIfInBounds_toArray, List.set_cons_zero, List.set_cons_succ])
      refine Kr.readyL (rs := [7]) (by kernel_rfl) (by simp) ?_
      refine Kr.AllL.cons rfl (fun K hK => ?_) Kr.AllL.nil
      have hk := H.c
      simp only [Kr.Cells] at hk
      go_simp
      clear hk
      obtain ⟨y71, hy⟩ : ∃ y, y70.setCell ⟨bv, 0, none⟩ (.slice p69 n69 c69) = y := ⟨_, rfl⟩
      rw [hy]
      replace H := H.store 1 hy rfl rfl
      dsimp only [List.set] at H
      clear hy
      refine hK.out _ _ (fun _ => (H.sub [5] rfl)) ?_; clear hK K
      (try simp only [Act.put, List.getElem_toArray, List.getElem_cons_zero, List.getElem_cons_succ, List.setIfInBounds_toArray, List.set_cons_zero, List.set_cons_succ])
      refine Kr.doneL (by kernel_rfl) ?_ _
      go_wp2_with fail
      go_meet
      exact ⟨_, _, _, _, _, _, _, _, rfl, rfl, Lib.hid H⟩
    case rest =>
      clear H
      obtain ⟨bu, bv, p69, n69, c69, p68, n68, c68, rfl, rfl, HH⟩ := hcut
      have H := HH.out
      clear HH
      replace H := H.num (nw_none _)
      have H2 := Lib.hid (H.pick [3, 4, 0, 1, 4, 3] rfl)
      go_wp2
      go_loopw [] (fun wr => ∃ (r : Nat) (s : Nat) (x : Nat) (y : Nat) (p0 : Option Addr) (n0 c0 : Nat) (p1 : Option Addr) (n1 c1 : Nat) (p2 : Option Addr) (n2 c2 : Nat) (p3 : Option Addr) (n3 c3 : Nat), Hid (r < pw 900) ∧ Hid (s < pw 900) ∧ Hid (x < m) ∧ Hid (y < m) ∧ Hid (Nat.gcd r s = Nat.gcd a m) ∧ Hid ((m : Int) ∣ (r : Int) - x * a) ∧ Hid ((m : Int) ∣ (s : Int) - y * a) ∧ Hid (Sta w wr [(bu, 0, .slice p2 n2 c2), (bv, 0, .slice p3 n3 c3), (br, 0, .slice p0 n0 c0), (bs, 0, .slice p1 n1 c1), (bz, 0, .slice none 0 0), (bm, 0, .slice pm nm cm), (ba, 0, .slice pa na ca)] [N p0 n0 c0 (r), N p1 n1 c1 (s), N p2 n2 c2 (x), N p3 n3 c3 (y), N pa na ca (a), N pm nm cm (m)])) (fun wr => numAt wr ⟨bs, 0, none⟩)
      case atStart =>
        refine ⟨m, a, 0, 1 % m, _, _, _, _, _, _, _, _, _, _, _, _, VM, Lib.hid (Nat.lt_trans VA.out VM.out), M0, Lib.hid (Nat.mod_lt _ M0.out), Lib.hid (Nat.gcd_comm m a), Lib.hid ⟨1, by simp⟩, Lib.hid ?_, H2⟩
        by_cases h1 : m = 1
        · subst h1; exact ⟨_, (Int.one_mul _).symm⟩
        · rw [Nat.mod_eq_of_lt (show 1 < m by have := M0.out; omega)]; exact ⟨0, by simp⟩
      case round =>
        clear H H2
        obtain ⟨r, s, x, y, p0, n0, c0, p1, n1, c1, p2, n2, c2, p3, n3, c3, VR, VS, VX, VY, HGC, HD1, HD2, HH⟩ := hrel
        have H := HH.out
        clear HH
        have HMe := Lib.hid ((numAt_eq (H.at 3 rfl) (H.nw 1 rfl)).trans (val_digs s))
        have HLN := Lib.hid (H.nw 1 rfl).len
        by_cases h : s = 0
        · subst h
          have hn : n1 = 0 := by rw [← HLN.out, digs_zero]; rfl
          subst hn
          have HXG : Hid (r = Nat.gcd a m) := Lib.hid (by rw [← HGC.out, Nat.gcd_zero_right])
          clear HLN HMe
          have hk := H.c
          simp only [Kr.Cells] at hk
          go_upto_region 7 with fail
          clear hk
          refine Kr.startL (fun W' => Kr.Cells W' [(bu, 0, .slice p2 n2 c2), (br, 0, .slice p0 n0 c0)]) [] (by kernel_rfl) ?_
          have gd : Gr wr wr.drew := (Gr.refl _).drew
          generalize wr.drew = d72 at gd ⊢
          replace H := H.grow gd
          clear gd
          (refine Kr.tS 0 [] (v := ?_) rfl (by kernel_rfl) (fun _ _ _ h => h) (by rfl) (H.sub [0, 2] rfl) (fun wx hSx => ?_) ?_; rotate_left; (focus (simp only [Kr.Cells] at hSx; go_simp; first | done | rfl)); (try simp only [Act.put, List.getElem_toArray, List.getElem_cons_zero, List.getElem_cons_succ, List.setIfInBounds_toArray, List.set_cons_zero, List.set_cons_succ]))
          (refine Kr.tS 1 [] (v := ?_) rfl (by kernel_rfl) (fun _ _ _ h => h) (by rfl) (H.sub [0, 2] rfl) (fun wx hSx => ?_) ?_; rotate_left; (focus (simp only [Kr.Cells] at hSx; go_simp; first | done | rfl)); (try simp only [Act.put, List.getElem_toArray, List.getElem_cons_zero, List.getElem_cons_succ, List.setIfInBounds_toArray, List.set_cons_zero, List.set_cons_succ]))
          refine Kr.readyL (rs := [2]) (by kernel_rfl) (by simp) ?_
          refine Kr.AllL.cons rfl (fun K hK => ?_) Kr.AllL.nil
          go_simp
          go_at_call 38
          refine (of3_v 1 (by decide) _).mono ?_
          rintro e y73 ⟨p73, n73, c73, rfl, hr, hg⟩
          replace H := H.grow hg
          replace H := H.num hr.toNw
          clear hr hg
          refine hK.out _ _ (fun _ => (H.sub [0, 2] rfl)) ?_; clear hK K
          (try simp only [Act.put, List.getElem_toArray, List.getElem_cons_zero, List.getElem_cons_succ, List.setIfInBounds_toArray, List.set_cons_zero, List.set_cons_succ])
          refine Kr.readyL (rs := [3]) (by kernel_rfl) (by simp) ?_
          refine Kr.AllL.cons rfl (fun K hK => ?_) Kr.AllL.nil
          go_simp
          go_at_call 37
          refine (same3r_v (H.nw 1 rfl) (H.nw 0 rfl)).mono ?_
          rintro e y74 ⟨rfl, hg⟩
          replace H := H.grow hg
          clear hg
          refine hK.out _ _ (fun _ => (H.sub [0, 2] rfl)) ?_; clear hK K
          (try simp only [Act.put, List.getElem_toArray, List.getElem_cons_zero, List.getElem_cons_succ, List.setIfInBounds_toArray, List.set_cons_zero, List.set_cons_succ])
          refine Kr.readyL (rs := [4]) (by kernel_rfl) (by simp) ?_
          refine Kr.AllL.cons rfl (fun K hK => ?_) Kr.AllL.nil
          have hk := H.c
          simp only [Kr.Cells] at hk
          go_simp
          clear hk
          obtain ⟨y75, hy⟩ : ∃ y, y74.setCell ⟨bz, 0, none⟩ (.slice p2 n2 c2) = y := ⟨_, rfl⟩
          rw [hy]
          replace H := H.store 4 hy rfl rfl
          dsimp only [List.set] at H
          clear hy
          refine hK.out _ _ (fun _ => (H.sub [0, 2] rfl)) ?_; clear hK K
          (try simp only [Act.put, List.getElem_toArray, List.getElem_cons_zero, List.getElem_cons_succ, List.setIfInBounds_toArray, List.set_cons_zero, List.set_cons_succ])
          (refine Kr.tP 5 (v := ?_) rfl (by kernel_rfl) (fun _ _ _ h => h) (by rfl) (fun _ => (H.sub [0, 2] rfl)) (fun wx => ?_) ?_; rotate_left; (focus (go_simp; first | done | rfl)); (try simp only [Act.put, List.getElem_toArray, List.getElem_cons_zero, List.getElem_cons_succ, List.setIfInBounds_toArray, List.set_cons_zero, List.set_cons_succ]))
          refine Kr.doneL (by kernel_rfl) ?_ _
          have hk := H.c
          simp only [Kr.Cells] at hk
          go_wp2
          refine bodyPost_ret (v := .tuple #[.agg #[.slice p2 n2 c2], .bool (decide (r = 1))]) (by simp [results, Try.results34, go_sem, hk]) rfl ⟨p2, n2, c2, x, by rw [HXG.out], fun e => inv3_end VX.out (by rw [← e, ← HXG.out]; exact HD1.out), (H.nw 3 rfl), H.g⟩
        · have SP := Lib.hid (Nat.pos_of_ne_zero h)
          have hn : 0 < n1 := Nat.pos_of_ne_zero fun e => by rw [e] at HLN; have h2 := val_digs s; rw [List.eq_nil_of_length_eq_zero HLN.out] at h2; exact h h2.symm
          clear HLN h
          have hk := H.c
          simp only [Kr.Cells] at hk
          go_upto_region 4 with fail
          clear hk
          refine Kr.seqStart ?_
          have hk := H.c
          simp only [Kr.Cells] at hk
          iterate 2 (refine Kr.seqP (v := ?_) (by rfl) ?_ ?_; rotate_left; (focus (go_simp; first | done | rfl)); (try simp only [Act.put, List.getElem_toArray, List.getElem_cons_zero, List.getElem_cons_succ, List.setIfInBounds_toArray, List.set_cons_zero, List.set_cons_succ]))
          refine Kr.seqS (fun K hK => ?_)
          go_simp
          go_at_call 89
          refine (rover3_v (H.nw 0 rfl) (H.nw 1 rfl) VR.out VS.out SP.out).mono ?_
          rintro e y76 ⟨p76, n76, c76, rfl, hr, hg⟩
          clear hk
          replace H := H.grow hg
          replace H := H.num hr
          clear hr hg
          refine hK.out _ _ ?_; clear hK K
          (try simp only [Act.put, List.getElem_toArray, List.getElem_cons_zero, List.getElem_cons_succ, List.setIfInBounds_toArray, List.set_cons_zero, List.set_cons_succ])
          refine Kr.seqS (fun K hK => ?_)
          go_simp
          obtain ⟨y77, hy⟩ : ∃ y, y76.alloc (.cells #[.slice none 0 0] 24) = y := ⟨_, rfl⟩
          obtain ⟨bq, hb⟩ : ∃ b, y76.heap.size = b := ⟨_, rfl⟩
          rw [hy, hb]
          replace H := H.alloc hy hb rfl
          clear hy hb
          refine hK.out _ _ ?_; clear hK K
          (try simp only [Act.put, List.getElem_toArray, List.getElem_cons_zero, List.getElem_cons_succ, List.setIfInBounds_toArray, List.set_cons_zero, List.set_cons_succ])
          have hk := H.c
          simp only [Kr.Cells] at hk
          refine Kr.seqS (fun K hK => ?_)
          go_simp
          clear hk
          obtain ⟨y78, hy⟩ : ∃ y, y77.setCell ⟨bq, 0, none⟩ (.slice p76 n76 c76) = y := ⟨_, rfl⟩
          rw [hy]
          replace H := H.store 0 hy rfl rfl
          dsimp only [List.set] at H
          clear hy
          refine hK.out _ _ ?_; clear hK K
          (try simp only [Act.put, List.getElem_toArray, List.getElem_cons_zero, List.getElem_cons_succ, List.setIfInBounds_toArray, List.set_cons_zero, List.set_cons_succ])
          refine Kr.seqDone ?_
          go_upto_region 5 with fail
          refine Kr.startL (fun W' => Kr.Cells W' [(bs, 0, .slice p1 n1 c1), (br, 0, .slice p0 n0 c0)]) [4, 5] (by kernel_rfl) ?_
          have gd : Gr y78 y78.drew := (Gr.refl _).drew
          generalize y78.drew = d79 at gd ⊢
          replace H := H.grow gd
          clear gd
          (refine Kr.tS 0 [4, 5] (v := ?_) rfl (by kernel_rfl) (fun _ _ _ h => h) (by rfl) (H.sub [4, 3] rfl) (fun wx hSx => ?_) ?_; rotate_left; (focus (simp only [Kr.Cells] at hSx; go_simp; first | done | rfl)); (try simp only [Act.put, List.getElem_toArray, List.getElem_cons_zero, List.getElem_cons_succ, List.setIfInBounds_toArray, List.set_cons_zero, List.set_cons_succ]))
          (refine Kr.tS 1 [3, 4, 5] (v := ?_) rfl (by kernel_rfl) (fun _ _ _ h => h) (by rfl) (H.sub [4, 3] rfl) (fun wx hSx => ?_) ?_; rotate_left; (focus (simp only [Kr.Cells] at hSx; go_simp; first | done | rfl)); (try simp only [Act.put, List.getElem_toArray, List.getElem_cons_zero, List.getElem_cons_succ, List.setIfInBounds_toArray, List.set_cons_zero, List.set_cons_succ]))
          (refine Kr.tS 2 [3, 4, 5] (v := ?_) rfl (by kernel_rfl) (fun _ _ _ h => h) (by rfl) (H.sub [4, 3] rfl) (fun wx hSx => ?_) ?_; rotate_left; (focus (simp only [Kr.Cells] at hSx; go_simp; first | done | rfl)); (try simp only [Act.put, List.getElem_toArray, List.getElem_cons_zero, List.getElem_cons_succ, List.setIfInBounds_toArray, List.set_cons_zero, List.set_cons_succ]))
          refine Kr.readyL (rs := [3]) (by kernel_rfl) (by simp) ?_
          refine Kr.AllL.cons rfl (fun K hK => ?_) Kr.AllL.nil
          go_simp
          go_at_call 47
          refine (rmod3_v (H.nw 1 rfl) (H.nw 2 rfl) (Nat.lt_of_lt_of_le VR.out (pw_mono (by decide))) SP.out VS.out).mono ?_
          rintro e y80 ⟨p80, n80, c80, rfl, hr, hg⟩
          replace H := H.grow hg
          replace H := H.num hr
          clear hr hg
          refine hK.out _ _ (fun _ => (H.sub [4, 3] rfl)) ?_; clear hK K
          (try simp only [Act.put, List.getElem_toArray, List.getElem_cons_zero, List.getElem_cons_succ, List.setIfInBounds_toArray, List.set_cons_zero, List.set_cons_succ])
          refine Kr.readyL (rs := [4]) (by kernel_rfl) (by simp) ?_
          refine Kr.AllL.cons rfl (fun K hK => ?_) Kr.AllL.nil
          have hk := H.c
          simp only [Kr.Cells] at hk
          go_simp
          clear hk
          obtain ⟨y81, hy⟩ : ∃ y, y80.setCell ⟨br, 0, none⟩ (.slice p1 n1 c1) = y := ⟨_, rfl⟩
          rw [hy]
          replace H := H.store 3 hy rfl rfl
          dsimp only [List.set] at H
          clear hy
          refine hK.out _ _ (Kr.noStill (by kernel_rfl)) ?_; clear hK K
          (try simp only [Act.put, List.getElem_toArray, List.getElem_cons_zero, List.getElem_cons_succ, List.setIfInBounds_toArray, List.set_cons_zero, List.set_cons_succ])
          refine Kr.readyL (rs := [5]) (by kernel_rfl) (by simp) ?_
          refine Kr.AllL.cons rfl (fun K hK => ?_) Kr.AllL.nil
          have hk := H.c
          simp only [Kr.Cells] at hk
          go_simp
          clear hk
          obtain ⟨y82, hy⟩ : ∃ y, y81.setCell ⟨bs, 0, none⟩ (.slice p80 n80 c80) = y := ⟨_, rfl⟩
          rw [hy]
          replace H := H.store 4 hy rfl rfl
          dsimp only [List.set] at H
          clear hy
          refine hK.out _ _ (Kr.noStill (by kernel_rfl)) ?_; clear hK K
          (try simp only [Act.put, List.getElem_toArray, List.getElem_cons_zero, List.getElem_cons_succ, List.setIfInBounds_toArray, List.set_cons_zero, List.set_cons_succ])
          refine Kr.doneL (by kernel_rfl) ?_ _
          go_upto_region 6 with fail
          refine Kr.startL (fun W' => Kr.Cells W' [(bv, 0, .slice p3 n3 c3), (bu, 0, .slice p2 n2 c2), (bq, 0, .slice p76 n76 c76), (bm, 0, .slice pm nm cm)]) [10, 11] (by kernel_rfl) ?_
          have gd : Gr y82 y82.drew := (Gr.refl _).drew
          generalize y82.drew = d83 at gd ⊢
          replace H := H.grow gd
          clear gd
          (refine Kr.tS 0 [10, 11] (v := ?_) rfl (by kernel_rfl) (fun _ _ _ h => h) (by rfl) (H.sub [2, 1, 0, 6] rfl) (fun wx hSx => ?_) ?_; rotate_left; (focus (simp only [Kr.Cells] at hSx; go_simp; first | done | rfl)); (try simp only [Act.put, List.getElem_toArray, List.getElem_cons_zero, List.getElem_cons_succ, List.setIfInBounds_toArray, List.set_cons_zero, List.set_cons_succ]))
          (refine Kr.tS 1 [9, 10, 11] (v := ?_) rfl (by kernel_rfl) (fun _ _ _ h => h) (by rfl) (H.sub [2, 1, 0, 6] rfl) (fun wx hSx => ?_) ?_; rotate_left; (focus (simp only [Kr.Cells] at hSx; go_simp; first | done | rfl)); (try simp only [Act.put, List.getElem_toArray, List.getElem_cons_zero, List.getElem_cons_succ, List.setIfInBounds_toArray, List.set_cons_zero, List.set_cons_succ]))
          (refine Kr.tS 2 [4, 7, 9, 10, 11] (v := ?_) rfl (by kernel_rfl) (fun _ _ _ h => h) (by rfl) (H.sub [2, 1, 0, 6] rfl) (fun wx hSx => ?_) ?_; rotate_left; (focus (simp only [Kr.Cells] at hSx; go_simp; first | done | rfl)); (try simp only [Act.put, List.getElem_toArray, List.getElem_cons_zero, List.getElem_cons_succ, List.setIfInBounds_toArray, List.set_cons_zero, List.set_cons_succ]))
          (refine Kr.tS 3 [4, 7, 9, 10, 11] (v := ?_) rfl (by kernel_rfl) (fun _ _ _ h => h) (by rfl) (H.sub [2, 1, 0, 6] rfl) (fun wx hSx => ?_) ?_; rotate_left; (focus (simp only [Kr.Cells] at hSx; go_simp; first | done | rfl)); (try simp only [Act.put, List.getElem_toArray, List.getElem_cons_zero, List.getElem_cons_succ, List.setIfInBounds_toArray, List.set_cons_zero, List.set_cons_succ]))
          (refine Kr.tS 5 [7, 9, 10, 11] (v := ?_) rfl (by kernel_rfl) (fun _ _ _ h => h) (by rfl) (H.sub [2, 1, 0, 6] rfl) (fun wx hSx => ?_) ?_; rotate_left; (focus (simp only [Kr.Cells] at hSx; go_simp; first | done | rfl)); (try simp only [Act.put, List.getElem_toArray, List.getElem_cons_zero, List.getElem_cons_succ, List.setIfInBounds_toArray, List.set_cons_zero, List.set_cons_succ]))
          (refine Kr.tS 6 [7, 9, 10, 11] (v := ?_) rfl (by kernel_rfl) (fun _ _ _ h => h) (by rfl) (H.sub [2, 1, 0, 6] rfl) (fun wx hSx => ?_) ?_; rotate_left; (focus (simp only [Kr.Cells] at hSx; go_simp; first | done | rfl)); (try simp only [Act.put, List.getElem_toArray, List.getElem_cons_zero, List.getElem_cons_succ, List.setIfInBounds_toArray, List.set_cons_zero, List.set_cons_succ]))
          (refine Kr.tS 8 [9, 10, 11] (v := ?_) rfl (by kernel_rfl) (fun _ _ _ h => h) (by rfl) (H.sub [2, 1, 0, 6] rfl) (fun wx hSx => ?_) ?_; rotate_left; (focus (simp only [Kr.Cells] at hSx; go_simp; first | done | rfl)); (try simp only [Act.put, List.getElem_toArray, List.getElem_cons_zero, List.getElem_cons_succ, List.setIfInBounds_toArray, List.set_cons_zero, List.set_cons_succ]))
          refine Kr.readyL (rs := [4]) (by kernel_rfl) (by simp) ?_
          refine Kr.AllL.cons rfl (fun K hK => ?_) Kr.AllL.nil
          go_simp
          go_at_call 47
          refine (rmod3_v (H.nw 1 rfl) (H.nw 7 rfl) (Nat.lt_of_le_of_lt (Nat.div_le_self r s) (Nat.lt_of_lt_of_le VR.out (pw_mono (by decide)))) M0.out VM.out).mono ?_
          rintro e y84 ⟨p84, n84, c84, rfl, hr, hg⟩
          replace H := H.grow hg
          replace H := H.num hr
          clear hr hg
          refine hK.out _ _ (fun _ => (H.sub [2, 1, 0, 6] rfl)) ?_; clear hK K
          (try simp only [Act.put, List.getElem_toArray, List.getElem_cons_zero, List.getElem_cons_succ, List.setIfInBounds_toArray, List.set_cons_zero, List.set_cons_succ])
          refine Kr.readyL (rs := [7]) (by kernel_rfl) (by simp) ?_
          refine Kr.AllL.cons rfl (fun K hK => ?_) Kr.AllL.nil
          go_simp
          go_at_call 28
          refine (rmul3_v (H.nw 0 rfl) (H.nw 6 rfl) (H.nw 8 rfl) (Nat.mod_lt _ M0.out) VY.out VM.out).mono ?_
          rintro e y85 ⟨p85, n85, c85, rfl, hr, hg⟩
          replace H := H.grow hg
          replace H := H.num hr
          clear hr hg
          refine hK.out _ _ (fun _ => (H.sub [2, 1, 0, 6] rfl)) ?_; clear hK K
          (try simp only [Act.put, List.getElem_toArray, List.getElem_cons_zero, List.getElem_cons_succ, List.setIfInBounds_toArray, List.set_cons_zero, List.set_cons_succ])
          refine Kr.readyL (rs := [9]) (by kernel_rfl) (by simp) ?_
          refine Kr.AllL.cons rfl (fun K hK => ?_) Kr.AllL.nil
          go_simp
          go_at_call 25
          refine (rsub3_v (H.nw 6 rfl) (H.nw 0 rfl) (H.nw 9 rfl) VX.out (Nat.mod_lt _ M0.out) VM.out).mono ?_
          rintro e y86 ⟨p86, n86, c86, rfl, hr, hg⟩
          replace H := H.grow hg
          replace H := H.num hr
          clear hr hg
          refine hK.out _ _ (fun _ => (H.sub [2, 1, 0, 6] rfl)) ?_; clear hK K
          (try simp only [Act.put, List.getElem_toArray, List.getElem_cons_zero, List.getElem_cons_succ, List.setIfInBounds_toArray, List.set_cons_zero, List.set_cons_succ])
          refine Kr.readyL (rs := [10]) (by kernel_rfl) (by simp) ?_
          refine Kr.AllL.cons rfl (fun K hK => ?_) Kr.AllL.nil
          have hk := H.c
          simp only [Kr.Cells] at hk
          go_simp
          clear hk
          obtain ⟨y87, hy⟩ : ∃ y, y86.setCell ⟨bu, 0, none⟩ (.slice p3 n3 c3) = y := ⟨_, rfl⟩
          rw [hy]
          replace H := H.store 1 hy rfl rfl
          dsimp only [List.set] at H
          clear hy
          refine hK.out _ _ (Kr.noStill (by kernel_rfl)) ?_; clear hK K
          (try simp only [Act.put, List.getElem_toArray, List.getElem_cons_zero, List.getElem_cons_succ, List.setIfInBounds_toArray, List.set_cons_zero, List.set_cons_succ])
          refine Kr.readyL (rs := [11]) (by kernel_rfl) (by simp) ?_
          refine Kr.AllL.cons rfl (fun K hK => ?_) Kr.AllL.nil
          have hk := H.c
          simp only [Kr.Cells] at hk
          go_simp
          clear hk
          obtain ⟨y88, hy⟩ : ∃ y, y87.setCell ⟨bv, 0, none⟩ (.slice p86 n86 c86) = y := ⟨_, rfl⟩
          rw [hy]
          replace H := H.store 2 hy rfl rfl
          dsimp only [List.set] at H
          clear hy
          refine hK.out _ _ (Kr.noStill (by kernel_rfl)) ?_; clear hK K
          (try simp only [Act.put, List.getElem_toArray, List.getElem_cons_zero, List.getElem_cons_succ, List.setIfInBounds_toArray, List.set_cons_zero, List.set_cons_succ])
          refine Kr.doneL (by kernel_rfl) ?_ _
          go_wp2
          go_roundw
          case rel => exact ⟨s, r % s, y, (x + m - r / s % m * y % m) % m, _, _, _, _, _, _, _, _, _, _, _, _, VS, Lib.hid (Nat.lt_trans (Nat.mod_lt _ SP.out) VS.out), VY, Lib.hid (Nat.mod_lt _ M0.out), Lib.hid (by rw [← HGC.out, Nat.gcd_comm r s, Nat.gcd_rec s r, Nat.gcd_comm s]), HD2, Lib.hid (inv3_step VX.out M0.out HD1.out HD2.out), Lib.hid ((H.drop 1).pick [6, 3, 8, 0, 9, 10] rfl)⟩
          case measure => rw [HMe.out, numAt_eq (H.at 4 rfl) (H.nw 3 rfl), val_digs]; exact Nat.mod_lt _ SP.out
set_option linter.unusedSimpArgs false in
set_option maxRecDepth 100000 in
set_option maxHeartbeats 16000000 in
theorem rcrt3_v {pa : Option Addr} {na ca : Nat} {pp : Option Addr} {np cp : Nat} {pb : Option Addr} {nb cb : Nat} {pq : Option Addr} {nq cq : Nat} {a p b q : Nat} {w : World} (ha : Nw w pa na ca (digs a)) (hp : Nw w pp np cp (digs p)) (hb : Nw w pb nb cb (digs b)) (hq : Nw w pq nq cq (digs q)) (va : a < p) (vb : b < q) (vp : p < pw 900) (vq : q < pw 900) (hpq : p * q < pw 900) (hg1 : Nat.gcd (p % q) q = 1) :
    Calls Try.prog 39 #[.agg #[.slice pa na ca], .agg #[.slice pp np cp], .agg #[.slice pb nb cb], .agg #[.slice pq nq cq]] w (fun e w' => ∃ z, IsInv (p % q) q z ∧ Has (a + p * ((b + q - a % q) % q * z % q)) w e w') := by
  have VA := Lib.hid va
  have VB := Lib.hid vb
  have VP := Lib.hid vp
  have VQ := Lib.hid vq
  have HPQ := Lib.hid hpq
  have HG1 := Lib.hid hg1
  have Q0 : Hid (0 < q) := Lib.hid (Nat.lt_of_le_of_lt (Nat.zero_le _) vb)
  have hna : na ≤ 1000 := Nat.le_trans (nw_small ha (Nat.lt_trans va vp)) (by decide)
  clear va vb vp vq hpq hg1
  have H := Sta.start w
  replace H := H.num ha
  replace H := H.num hp
  replace H := H.num hb
  replace H := H.num hq
  go_enter Try.func39, Try.ntmps39
  go_upto_region 0 with fail
  refine Kr.seqStart ?_
  refine Kr.seqS (fun K hK => ?_)
  go_simp
  obtain ⟨y1, hy⟩ : ∃ y, w.alloc (.cells #[.slice pa na ca] 24) = y := ⟨_, rfl⟩
  obtain ⟨ba, hb⟩ : ∃ b, w.heap.size = b := ⟨_, rfl⟩
  rw [hy, hb]
  replace H := H.alloc hy hb rfl
  clear hy hb
  refine hK.out _ _ ?_; clear hK K
  (try simp only [Act.put, List.getElem_toArray, List.getElem_cons_zero, List.getElem_cons_succ, List.setIfInBounds_toArray, List.set_cons_zero, List.set_cons_succ])
  refine Kr.seqS (fun K hK => ?_)
  go_simp
  obtain ⟨y2, hy⟩ : ∃ y, y1.alloc (.cells #[.slice pp np cp] 24) = y := ⟨_, rfl⟩
  obtain ⟨bp, hb⟩ : ∃ b, y1.heap.size = b := ⟨_, rfl⟩
  rw [hy, hb]
  replace H := H.alloc hy hb rfl
  clear hy hb
  refine hK.out _ _ ?_; clear hK K
  (try simp only [Act.put, List.getElem_toArray, List.getElem_cons_zero, List.getElem_cons_succ, List.setIfInBounds_toArray, List.set_cons_zero, List.set_cons_succ])
  refine Kr.seqS (fun K hK => ?_)
  go_simp
  obtain ⟨y3, hy⟩ : ∃ y, y2.alloc (.cells #[.slice pb nb cb] 24) = y := ⟨_, rfl⟩
  obtain ⟨bb, hb⟩ : ∃ b, y2.heap.size = b := ⟨_, rfl⟩
  rw [hy, hb]
  replace H := H.alloc hy hb rfl
  clear hy hb
  refine hK.out _ _ ?_; clear hK K
  (try simp only [Act.put, List.getElem_toArray, List.getElem_cons_zero, List.getElem_cons_succ, List.setIfInBounds_toArray, List.set_cons_zero, List.set_cons_succ])
  refine Kr.seqS (fun K hK => ?_)
  go_simp
  obtain ⟨y4, hy⟩ : ∃ y, y3.alloc (.cells #[.slice pq nq cq] 24) = y := ⟨_, rfl⟩
  obtain ⟨bq, hb⟩ : ∃ b, y3.heap.size = b := ⟨_, rfl⟩
  rw [hy, hb]
  replace H := H.alloc hy hb rfl
  clear hy hb
  refine hK.out _ _ ?_; clear hK K
  (try simp only [Act.put, List.getElem_toArray, List.getElem_cons_zero, List.getElem_cons_succ, List.setIfInBounds_toArray, List.set_cons_zero, List.set_cons_succ])
  refine Kr.seqS (fun K hK => ?_)
  go_simp
  obtain ⟨y5, hy⟩ : ∃ y, y4.alloc (.cells #[.slice none 0 0] 24) = y := ⟨_, rfl⟩
  obtain ⟨br, hb⟩ : ∃ b, y4.heap.size = b := ⟨_, rfl⟩
  rw [hy, hb]
  replace H := H.alloc hy hb rfl
  clear hy hb
  refine hK.out _ _ ?_; clear hK K
  (try simp only [Act.put, List.getElem_toArray, List.getElem_cons_zero, List.getElem_cons_succ, List.setIfInBounds_toArray, List.set_cons_zero, List.set_cons_succ])
  refine Kr.seqDone ?_
  go_upto_region 1 with fail
  go_cut [9, 10] from 12 to 19 (fun s9 s10 W => ∃ (bi : Nat) (pi : Option Addr) (ni ci : Nat) (p13 : Option Addr) (n13 c13 : Nat) (z : Nat), s9 = .pointer (some ⟨bi, 0, none⟩) ∧ s10 = .bool (decide (Nat.gcd (p % q) q = 1)) ∧ Hid (IsInv (p % q) q z) ∧ Hid (Sta w W [(bi, 0, .slice pi ni ci), (br, 0, .slice none 0 0), (bq, 0, .slice pq nq cq), (bb, 0, .slice pb nb cb), (bp, 0, .slice pp np cp), (ba, 0, .slice pa na ca)] [N pi ni ci (z), N p13 n13 c13 (p % q), N pq nq cq (q), N pb nb cb (b), N pp np cp (p), N pa na ca (a)]))
  case first =>
    refine Kr.startL (fun W' => Kr.Cells W' [(bp, 0, .slice pp np cp), (bq, 0, .slice pq nq cq)]) [] (by kernel_rfl) ?_
    have gd : Gr y5 y5.drew := (Gr.refl _).drew
    generalize y5.drew = d6 at gd ⊢
    replace H := H.grow gd
    clear gd
    (refine Kr.tS 0 [] (v := ?_) rfl (by kernel_rfl) (fun _ _ _ h => h) (by rfl) (H.sub [3, 1] rfl) (fun wx hSx => ?_) ?_; rotate_left; (focus (simp only [Kr.Cells] at hSx; go_simp; first | done | rfl)); (try simp only [Act.put, List.getElem_toArray, List.getElem_cons_zero, List.getElem_cons_succ, List.setIfInBounds_toArray, List.set_cons_zero, List.set_cons_succ]))
    (refine Kr.tS 1 [] (v := ?_) rfl (by kernel_rfl) (fun _ _ _ h => h) (by rfl) (H.sub [3, 1] rfl) (fun wx hSx => ?_) ?_; rotate_left; (focus (simp only [Kr.Cells] at hSx; go_simp; first | done | rfl)); (try simp only [Act.put, List.getElem_toArray, List.getElem_cons_zero, List.getElem_cons_succ, List.setIfInBounds_toArray, List.set_cons_zero, List.set_cons_succ]))
    (refine Kr.tS 3 [] (v := ?_) rfl (by kernel_rfl) (fun _ _ _ h => h) (by rfl) (H.sub [3, 1] rfl) (fun wx hSx => ?_) ?_; rotate_left; (focus (simp only [Kr.Cells] at hSx; go_simp; first | done | rfl)); (try simp only [Act.put, List.getElem_toArray, List.getElem_cons_zero, List.getElem_cons_succ, List.setIfInBounds_toArray, List.set_cons_zero, List.set_cons_succ]))
    refine Kr.readyL (rs := [2, 8]) (by kernel_rfl) (by simp) ?_
    refine Kr.AllL.cons rfl (fun K hK => ?_) ?_
    · go_simp
      go_at_call 47
      refine (rmod3_v (H.nw 2 rfl) (H.nw 0 rfl) (Nat.lt_of_lt_of_le VP.out (pw_mono (by decide))) Q0.out VQ.out).mono ?_
      rintro e y7 ⟨p7, n7, c7, rfl, hr, hg⟩
      replace H := H.grow hg
      replace H := H.num hr
      clear hr hg
      refine hK.out _ _ (fun _ => (H.sub [3, 1] rfl)) ?_; clear hK K
      (try simp only [Act.put, List.getElem_toArray, List.getElem_cons_zero, List.getElem_cons_succ, List.setIfInBounds_toArray, List.set_cons_zero, List.set_cons_succ])
      refine Kr.readyL (rs := [4, 8]) (by kernel_rfl) (by simp) ?_
      refine Kr.AllL.cons rfl (fun K hK => ?_) ?_
      · go_simp
        go_at_call 34
        refine (rinv3_v (H.nw 0 rfl) (H.nw 1 rfl) (Nat.mod_lt _ Q0.out) VQ.out).mono ?_
        rintro e yi ⟨pi, ni, ci, z, rfl, h1, hr, hg⟩
        have HI := Lib.hid (h1 HG1.out)
        replace H := H.grow hg
        replace H := H.num hr
        clear hr hg h1
        refine hK.out _ _ (fun _ => (H.sub [3, 1] rfl)) ?_; clear hK K
        (try simp only [Act.put, List.getElem_toArray, List.getElem_cons_zero, List.getElem_cons_succ, List.setIfInBounds_toArray, List.set_cons_zero, List.set_cons_succ])
        (refine Kr.tP 5 (v := ?_) rfl (by kernel_rfl) (fun _ _ _ h => h) (by rfl) (fun _ => (H.sub [3, 1] rfl)) (fun wx => ?_) ?_; rotate_left; (focus (go_simp; first | done | rfl)); (try simp only [Act.put, List.getElem_toArray, List.getElem_cons_zero, List.getElem_cons_succ, List.setIfInBounds_toArray, List.set_cons_zero, List.set_cons_succ]))
        (refine Kr.tP 6 (v := ?_) rfl (by kernel_rfl) (fun _ _ _ h => h) (by rfl) (fun _ => (H.sub [3, 1] rfl)) (fun wx => ?_) ?_; rotate_left; (focus (go_simp; first | done | rfl)); (try simp only [Act.put, List.getElem_toArray, List.getElem_cons_zero, List.getElem_cons_succ, List.setIfInBounds_toArray, List.set_cons_zero, List.set_cons_succ]))
        (refine Kr.tP 7 (v := ?_) rfl (by kernel_rfl) (fun _ _ _ h => h) (by rfl) (fun _ => (H.sub [3, 1] rfl)) (fun wx => ?_) ?_; rotate_left; (focus (go_simp; first | done | rfl)); (try simp only [Act.put, List.getElem_toArray, List.getElem_cons_zero, List.getElem_cons_succ, List.setIfInBounds_toArray, List.set_cons_zero, List.set_cons_succ]))
        refine Kr.readyL (rs := [8]) (by kernel_rfl) (by simp) ?_
        refine Kr.AllL.cons rfl (fun K hK => ?_) Kr.AllL.nil
        go_simp
        obtain ⟨y8, hy⟩ : ∃ y, yi.alloc (.cells #[.slice none 0 0] 24) = y := ⟨_, rfl⟩
        obtain ⟨bi, hb⟩ : ∃ b, yi.heap.size = b := ⟨_, rfl⟩
        rw [hy, hb]
        replace H := H.alloc hy hb rfl
        clear hy hb
        refine hK.out _ _ (fun _ => (H.sub [4, 2] rfl)) ?_; clear hK K
        (try simp only [Act.put, List.getElem_toArray, List.getElem_cons_zero, List.getElem_cons_succ, List.setIfInBounds_toArray, List.set_cons_zero, List.set_cons_succ])
        refine Kr.readyL (rs := [9]) (by kernel_rfl) (by simp) ?_
        refine Kr.AllL.cons rfl (fun K hK => ?_) Kr.AllL.nil
        have hk := H.c
        simp only [Kr.Cells] at hk
        go_simp
        clear hk
        obtain ⟨y9, hy⟩ : ∃ y, y8.setCell ⟨bi, 0, none⟩ (.slice pi ni ci) = y := ⟨_, rfl⟩
        rw [hy]
        replace H := H.store 0 hy rfl rfl
        dsimp only [List.set] at H
        clear hy
        refine hK.out _ _ (fun _ => (H.sub [4, 2] rfl)) ?_; clear hK K
        (try simp only [Act.put, List.getElem_toArray, List.getElem_cons_zero, List.getElem_cons_succ, List.setIfInBounds_toArray, List.set_cons_zero, List.set_cons_succ])
        (refine Kr.tP 10 (v := ?_) rfl (by kernel_rfl) (fun _ _ _ h => h) (by rfl) (fun _ => (H.sub [4, 2] rfl)) (fun wx => ?_) ?_; rotate_left; (focus (go_simp; first | done | rfl)); (try simp only [Act.put, List.getElem_toArray, List.getElem_cons_zero, List.getElem_cons_succ, List.setIfInBounds_toArray, List.set_cons_zero, List.set_cons_succ]))
        refine Kr.doneL (by kernel_rfl) ?_ _
        go_wp2_with fail
        go_meet
        exact ⟨_, _, _, _, _, _, _, _, rfl, rfl, HI, Lib.hid H⟩
      refine Kr.AllL.cons rfl (fun K hK => ?_) Kr.AllL.nil
      go_simp
      obtain ⟨y10, hy⟩ : ∃ y, y7.alloc (.cells #[.slice none 0 0] 24) = y := ⟨_, rfl⟩
      obtain ⟨bi, hb⟩ : ∃ b, y7.heap.size = b := ⟨_, rfl⟩
      rw [hy, hb]
      replace H := H.alloc hy hb rfl
      clear hy hb
      refine hK.out _ _ (fun _ => (H.sub [4, 2] rfl)) ?_; clear hK K
      (try simp only [Act.put, List.getElem_toArray, List.getElem_cons_zero, List.getElem_cons_succ, List.setIfInBounds_toArray, List.set_cons_zero, List.set_cons_succ])
      refine Kr.readyL (rs := [4]) (by kernel_rfl) (by simp) ?_
      refine Kr.AllL.cons rfl (fun K hK => ?_) Kr.AllL.nil
      go_simp
      go_at_call 34
      refine (rinv3_v (H.nw 0 rfl) (H.nw 1 rfl) (Nat.mod_lt _ Q0.out) VQ.out).mono ?_
      rintro e yi ⟨pi, ni, ci, z, rfl, h1, hr, hg⟩
      have HI := Lib.hid (h1 HG1.out)
      replace H := H.grow hg
      replace H := H.num hr
      clear hr hg h1
      refine hK.out _ _ (fun _ => (H.sub [4, 2] rfl)) ?_; clear hK K
      (try simp only [Act.put, List.getElem_toArray, List.getElem_cons_zero, List.getElem_cons_succ, List.setIfInBounds_toArray, List.set_cons_zero, List.set_cons_succ])
      (refine Kr.tP 5 (v := ?_) rfl (by kernel_rfl) (fun _ _ _ h => h) (by rfl) (fun _ => (H.sub [4, 2] rfl)) (fun wx => ?_) ?_; rotate_left; (focus (go_simp; first | done | rfl)); (try simp only [Act.put, List.getElem_toArray, List.getElem_cons_zero, List.getElem_cons_succ, List.setIfInBounds_toArray, List.set_cons_zero, List.set_cons_succ]))
      (refine Kr.tP 6 (v := ?_) rfl (by kernel_rfl) (fun _ _ _ h => h) (by rfl) (fun _ => (H.sub [4, 2] rfl)) (fun wx => ?_) ?_; rotate_left; (focus (go_simp; first | done | rfl)); (try simp only [Act.put, List.getElem_toArray, List.getElem_cons_zero, List.getElem_cons_succ, List.setIfInBounds_toArray, List.set_cons_zero, List.set_cons_succ]))
      (refine Kr.tP 7 (v := ?_) rfl (by kernel_rfl) (fun _ _ _ h => h) (by rfl) (fun _ => (H.sub [4, 2] rfl)) (fun wx => ?_) ?_; rotate_left; (focus (go_simp; first | done | rfl)); (try simp only [Act.put, List.getElem_toArray, List.getElem_cons_zero, List.getElem_cons_succ, List.setIfInBounds_toArray, List.set_cons_zero, List.set_cons_succ]))
      refine Kr.readyL (rs := [9]) (by kernel_rfl) (by simp) ?_
      refine Kr.AllL.cons rfl (fun K hK => ?_) Kr.AllL.nil
      have hk := H.c
      simp only [Kr.Cells] at hk
      go_simp
      clear hk
      obtain ⟨y11, hy⟩ : ∃ y, yi.setCell ⟨bi, 0, none⟩ (.slice pi ni ci) = y := ⟨_, rfl⟩
      rw [hy]
      replace H := H.store 0 hy rfl rfl
      dsimp only [List.set] at H
      clear hy
      refine hK.out _ _ (fun _ => (H.sub [4, 2] rfl)) ?_; clear hK K
      (try simp only [Act.put, List.getElem_toArray, List.getElem_cons_zero, List.getElem_cons_succ, List.setIfInBounds_toArray, List.set_cons_zero, List.set_cons_succ])
      (refine Kr.tP 10 (v := ?_) rfl (by kernel_rfl) (fun _ _ _ h => h) (by rfl) (fun _ => (H.sub [4, 2] rfl)) (fun wx => ?_) ?_; rotate_left; (focus (go_simp; first | done | rfl)); (try simp only [Act.put, List.getElem_toArray, List.getElem_cons_zero, List.getElem_cons_succ, List.setIfInBounds_toArray, List.set_cons_zero, List.set_cons_succ]))
      refine Kr.doneL (by kernel_rfl) ?_ _
      go_wp2_with fail
      go_meet
      exact ⟨_, _, _, _, _, _, _, _, rfl, rfl, HI, Lib.hid H⟩
    refine Kr.AllL.cons rfl (fun K hK => ?_) Kr.AllL.nil
    go_simp
    obtain ⟨y12, hy⟩ : ∃ y, d6.alloc (.cells #[.slice none 0 0] 24) = y := ⟨_, rfl⟩
    obtain ⟨bi, hb⟩ : ∃ b, d6.heap.size = b := ⟨_, rfl⟩
    rw [hy, hb]
    replace H := H.alloc hy hb rfl
    clear hy hb
    refine hK.out _ _ (fun _ => (H.sub [4, 2] rfl)) ?_; clear hK K
    (try simp only [Act.put, List.getElem_toArray, List.getElem_cons_zero, List.getElem_cons_succ, List.setIfInBounds_toArray, List.set_cons_zero, List.set_cons_succ])
    refine Kr.readyL (rs := [2]) (by kernel_rfl) (by simp) ?_
    refine Kr.AllL.cons rfl (fun K hK => ?_) Kr.AllL.nil
    go_simp
    go_at_call 47
    refine (rmod3_v (H.nw 2 rfl) (H.nw 0 rfl) (Nat.lt_of_lt_of_le VP.out (pw_mono (by decide))) Q0.out VQ.out).mono ?_
    rintro e y13 ⟨p13, n13, c13, rfl, hr, hg⟩
    replace H := H.grow hg
    replace H := H.num hr
    clear hr hg
    refine hK.out _ _ (fun _ => (H.sub [4, 2] rfl)) ?_; clear hK K
    (try simp only [Act.put, List.getElem_toArray, List.getElem_cons_zero, List.getElem_cons_succ, List.setIfInBounds_toArray, List.set_cons_zero, List.set_cons_succ])
    refine Kr.readyL (rs := [4]) (by kernel_rfl) (by simp) ?_
    refine Kr.AllL.cons rfl (fun K hK => ?_) Kr.AllL.nil
    go_simp
    go_at_call 34
    refine (rinv3_v (H.nw 0 rfl) (H.nw 1 rfl) (Nat.mod_lt _ Q0.out) VQ.out).mono ?_
    rintro e yi ⟨pi, ni, ci, z, rfl, h1, hr, hg⟩
    have HI := Lib.hid (h1 HG1.out)
    replace H := H.grow hg
    replace H := H.num hr
    clear hr hg h1
    refine hK.out _ _ (fun _ => (H.sub [4, 2] rfl)) ?_; clear hK K
    (try simp only [Act.put, List.getElem_toArray, List.getElem_cons_zero, List.getElem_cons_succ, List.setIfInBounds_toArray, List.set_cons_zero, List.set_cons_succ])
    (refine Kr.tP 5 (v := ?_) rfl (by kernel_rfl) (fun _ _ _ h => h) (by rfl) (fun _ => (H.sub [4, 2] rfl)) (fun wx => ?_) ?_; rotate_left; (focus (go_simp; first | done | rfl)); (try simp only [Act.put, List.getElem_toArray, List.getElem_cons_zero, List.getElem_cons_succ, List.setIfInBounds_toArray, List.set_cons_zero, List.set_cons_succ]))
    (refine Kr.tP 6 (v := ?_) rfl (by kernel_rfl) (fun _ _ _ h => h) (by rfl) (fun _ => (H.sub [4, 2] rfl)) (fun wx => ?_) ?_; rotate_left; (focus (go_simp; first | done | rfl)); (try simp only [Act.put, List.getElem_toArray, List.getElem_cons_zero, List.getElem_cons_succ, List.setIfInBounds_toArray, List.set_cons_zero, List.set_cons_succ]))
    (refine Kr.tP 7 (v := ?_) rfl (by kernel_rfl) (fun _ _ _ h => h) (by rfl) (fun _ => (H.sub [4, 2] rfl)) (fun wx => ?_) ?_; rotate_left; (focus (go_simp; first | done | rfl)); (try simp only [Act.put, List.getElem_toArray, List.getElem_cons_zero, List.getElem_cons_succ, List.setIfInBounds_toArray, List.set_cons_zero, List.set_cons_succ]))
    refine Kr.readyL (rs := [9]) (by kernel_rfl) (by simp) ?_
    refine Kr.AllL.cons rfl (fun K hK => ?_) Kr.AllL.nil
    have hk := H.c
    simp only [Kr.Cells] at hk
    go_simp
    clear hk
    obtain ⟨y14, hy⟩ : ∃ y, yi.setCell ⟨bi, 0, none⟩ (.slice pi ni ci) = y := ⟨_, rfl⟩
    rw [hy]
    replace H := H.store 0 hy rfl rfl
    dsimp only [List.set] at H
    clear hy
    refine hK.out _ _ (fun _ => (H.sub [4, 2] rfl)) ?_; clear hK K
    (try simp only [Act.put, List.getElem_toArray, List.getElem_cons_zero, List.getElem_cons_succ, List.setIfInBounds_toArray, List.set_cons_zero, List.set_cons_succ])
    (refine Kr.tP 10 (v := ?_) rfl (by kernel_rfl) (fun _ _ _ h => h) (by rfl) (fun _ => (H.sub [4, 2] rfl)) (fun wx => ?_) ?_; rotate_left; (focus (go_simp; first | done | rfl)); (try simp only [Act.put, List.getElem_toArray, List.getElem_cons_zero, List.getElem_cons_succ, List.setIfInBounds_toArray, List.set_cons_zero, List.set_cons_succ]))
    refine Kr.doneL (by kernel_rfl) ?_ _
    go_wp2_with fail
    go_meet
    exact ⟨_, _, _, _, _, _, _, _, rfl, rfl, HI, Lib.hid H⟩
  case rest =>
    clear H
    obtain ⟨bi, pi, ni, ci, p13, n13, c13, z, rfl, rfl, HI, HH⟩ := hcut
    have H := HH.out
    clear HH
    go_upto_region 2 with fail
    go_cut [11] from 20 to 28 (fun s11 W => ∃ (bk : Nat) (p31 : Option Addr) (n31 c31 : Nat) (p30 : Option Addr) (n30 c30 : Nat) (p29 : Option Addr) (n29 c29 : Nat), s11 = .pointer (some ⟨bk, 0, none⟩) ∧ Hid (Sta w W [(bk, 0, .slice p31 n31 c31), (bi, 0, .slice pi ni ci), (br, 0, .slice none 0 0), (bq, 0, .slice pq nq cq), (bb, 0, .slice pb nb cb), (bp, 0, .slice pp np cp), (ba, 0, .slice pa na ca)] [N p31 n31 c31 ((b + q - a % q) % q * z % q), N p30 n30 c30 ((b + q - a % q) % q), N p29 n29 c29 (a % q), N pi ni ci (z), N p13 n13 c13 (p % q), N pq nq cq (q), N pb nb cb (b), N pp np cp (p), N pa na ca (a)]))
    case first =>
      refine Kr.startL (fun W' => Kr.Cells W' [(bb, 0, .slice pb nb cb), (ba, 0, .slice pa na ca), (bq, 0, .slice pq nq cq), (bi, 0, .slice pi ni ci)]) [] (by kernel_rfl) ?_
      have gd : Gr wc wc.drew := (Gr.refl _).drew
      generalize wc.drew = d15 at gd ⊢
      replace H := H.grow gd
      clear gd
      (refine Kr.tS 0 [] (v := ?_) rfl (by kernel_rfl) (fun _ _ _ h => h) (by rfl) (H.sub [3, 5, 2, 0] rfl) (fun wx hSx => ?_) ?_; rotate_left; (focus (simp only [Kr.Cells] at hSx; go_simp; first | done | rfl)); (try simp only [Act.put, List.getElem_toArray, List.getElem_cons_zero, List.getElem_cons_succ, List.setIfInBounds_toArray, List.set_cons_zero, List.set_cons_succ]))
      (refine Kr.tS 1 [] (v := ?_) rfl (by kernel_rfl) (fun _ _ _ h => h) (by rfl) (H.sub [3, 5, 2, 0] rfl) (fun wx hSx => ?_) ?_; rotate_left; (focus (simp only [Kr.Cells] at hSx; go_simp; first | done | rfl)); (try simp only [Act.put, List.getElem_toArray, List.getElem_cons_zero, List.getElem_cons_succ, List.setIfInBounds_toArray, List.set_cons_zero, List.set_cons_succ]))
      (refine Kr.tS 2 [] (v := ?_) rfl (by kernel_rfl) (fun _ _ _ h => h) (by rfl) (H.sub [3, 5, 2, 0] rfl) (fun wx hSx => ?_) ?_; rotate_left; (focus (simp only [Kr.Cells] at hSx; go_simp; first | done | rfl)); (try simp only [Act.put, List.getElem_toArray, List.getElem_cons_zero, List.getElem_cons_succ, List.setIfInBounds_toArray, List.set_cons_zero, List.set_cons_succ]))
      (refine Kr.tS 4 [] (v := ?_) rfl (by kernel_rfl) (fun _ _ _ h => h) (by rfl) (H.sub [3, 5, 2, 0] rfl) (fun wx hSx => ?_) ?_; rotate_left; (focus (simp only [Kr.Cells] at hSx; go_simp; first | done | rfl)); (try simp only [Act.put, List.getElem_toArray, List.getElem_cons_zero, List.getElem_cons_succ, List.setIfInBounds_toArray, List.set_cons_zero, List.set_cons_succ]))
      (refine Kr.tS 6 [] (v := ?_) rfl (by kernel_rfl) (fun _ _ _ h => h) (by rfl) (H.sub [3, 5, 2, 0] rfl) (fun wx hSx => ?_) ?_; rotate_left; (focus (simp only [Kr.Cells] at hSx; go_simp; first | done | rfl)); (try simp only [Act.put, List.getElem_toArray, List.getElem_cons_zero, List.getElem_cons_succ, List.setIfInBounds_toArray, List.set_cons_zero, List.set_cons_succ]))
      (refine Kr.tS 7 [] (v := ?_) rfl (by kernel_rfl) (fun _ _ _ h => h) (by rfl) (H.sub [3, 5, 2, 0] rfl) (fun wx hSx => ?_) ?_; rotate_left; (focus (simp only [Kr.Cells] at hSx; go_simp; first | done | rfl)); (try simp only [Act.put, List.getElem_toArray, List.getElem_cons_zero, List.getElem_cons_succ, List.setIfInBounds_toArray, List.set_cons_zero, List.set_cons_succ]))
      refine Kr.readyL (rs := [3, 9]) (by kernel_rfl) (by simp) ?_
      refine Kr.AllL.cons rfl (fun K hK => ?_) ?_
      · go_simp
        go_at_call 47
        refine (rmod3_v (H.nw 5 rfl) (H.nw 2 rfl) (Nat.lt_of_lt_of_le (Nat.lt_trans VA.out VP.out) (pw_mono (by decide))) Q0.out VQ.out).mono ?_
        rintro e y16 ⟨p16, n16, c16, rfl, hr, hg⟩
        replace H := H.grow hg
        replace H := H.num hr
        clear hr hg
        refine hK.out _ _ (fun _ => (H.sub [3, 5, 2, 0] rfl)) ?_; clear hK K
        (try simp only [Act.put, List.getElem_toArray, List.getElem_cons_zero, List.getElem_cons_succ, List.setIfInBounds_toArray, List.set_cons_zero, List.set_cons_succ])
        refine Kr.readyL (rs := [5, 9]) (by kernel_rfl) (by simp) ?_
        refine Kr.AllL.cons rfl (fun K hK => ?_) ?_
        · go_simp
          go_at_call 25
          refine (rsub3_v (H.nw 4 rfl) (H.nw 0 rfl) (H.nw 3 rfl) VB.out (Nat.mod_lt _ Q0.out) VQ.out).mono ?_
          rintro e y17 ⟨p17, n17, c17, rfl, hr, hg⟩
          replace H := H.grow hg
          replace H := H.num hr
          clear hr hg
          refine hK.out _ _ (fun _ => (H.sub [3, 5, 2, 0] rfl)) ?_; clear hK K
          (try simp only [Act.put, List.getElem_toArray, List.getElem_cons_zero, List.getElem_cons_succ, List.setIfInBounds_toArray, List.set_cons_zero, List.set_cons_succ])
          refine Kr.readyL (rs := [8, 9]) (by kernel_rfl) (by simp) ?_
          refine Kr.AllL.cons rfl (fun K hK => ?_) ?_
          · go_simp
            go_at_call 28
            refine (rmul3_v (H.nw 0 rfl) (H.nw 2 rfl) (H.nw 4 rfl) (Nat.mod_lt _ Q0.out) HI.out.1 VQ.out).mono ?_
            rintro e y18 ⟨p18, n18, c18, rfl, hr, hg⟩
            replace H := H.grow hg
            replace H := H.num hr
            clear hr hg
            refine hK.out _ _ (fun _ => (H.sub [3, 5, 2, 0] rfl)) ?_; clear hK K
            (try simp only [Act.put, List.getElem_toArray, List.getElem_cons_zero, List.getElem_cons_succ, List.setIfInBounds_toArray, List.set_cons_zero, List.set_cons_succ])
            refine Kr.readyL (rs := [9]) (by kernel_rfl) (by simp) ?_
            refine Kr.AllL.cons rfl (fun K hK => ?_) Kr.AllL.nil
            go_simp
            obtain ⟨y19, hy⟩ : ∃ y, y18.alloc (.cells #[.slice none 0 0] 24) = y := ⟨_, rfl⟩
            obtain ⟨bk, hb⟩ : ∃ b, y18.heap.size = b := ⟨_, rfl⟩
            rw [hy, hb]
            replace H := H.alloc hy hb rfl
            clear hy hb
            refine hK.out _ _ (fun _ => (H.sub [4, 6, 3, 1] rfl)) ?_; clear hK K
            (try simp only [Act.put, List.getElem_toArray, List.getElem_cons_zero, List.getElem_cons_succ, List.setIfInBounds_toArray, List.set_cons_zero, List.set_cons_succ])
            refine Kr.readyL (rs := [10]) (by kernel_rfl) (by simp) ?_
            refine Kr.AllL.cons rfl (fun K hK => ?_) Kr.AllL.nil
            have hk := H.c
            simp only [Kr.Cells] at hk
            go_simp
            clear hk
            obtain ⟨y20, hy⟩ : ∃ y, y19.setCell ⟨bk, 0, none⟩ (.slice p18 n18 c18) = y := ⟨_, rfl⟩
            rw [hy]
            replace H := H.store 0 hy rfl rfl
            dsimp only [List.set] at H
            clear hy
            refine hK.out _ _ (fun _ => (H.sub [4, 6, 3, 1] rfl)) ?_; clear hK K
            (try simp only [Act.put, List.getElem_toArray, List.getElem_cons_zero, List.getElem_cons_succ, List.setIfInBounds_toArray, List.set_cons_zero, List.set_cons_succ])
            refine Kr.doneL (by kernel_rfl) ?_ _
            go_wp2_with fail
            go_meet
            exact ⟨_, _, _, _, _, _, _, _, _, _, rfl, Lib.hid H⟩
          refine Kr.AllL.cons rfl (fun K hK => ?_) Kr.AllL.nil
          go_simp
          obtain ⟨y21, hy⟩ : ∃ y, y17.alloc (.cells #[.slice none 0 0] 24) = y := ⟨_, rfl⟩
          obtain ⟨bk, hb⟩ : ∃ b, y17.heap.size = b := ⟨_, rfl⟩
          rw [hy, hb]
          replace H := H.alloc hy hb rfl
          clear hy hb
          refine hK.out _ _ (fun _ => (H.sub [4, 6, 3, 1] rfl)) ?_; clear hK K
          (try simp only [Act.put, List.getElem_toArray, List.getElem_cons_zero, List.getElem_cons_succ, List.setIfInBounds_toArray, List.set_cons_zero, List.set_cons_succ])
          refine Kr.readyL (rs := [8]) (by kernel_rfl) (by simp) ?_
          refine Kr.AllL.cons rfl (fun K hK => ?_) Kr.AllL.nil
          go_simp
          go_at_call 28
          refine (rmul3_v (H.nw 0 rfl) (H.nw 2 rfl) (H.nw 4 rfl) (Nat.mod_lt _ Q0.out) HI.out.1 VQ.out).mono ?_
          rintro e y22 ⟨p22, n22, c22, rfl, hr, hg⟩
          replace H := H.grow hg
          replace H := H.num hr
          clear hr hg
          refine hK.out _ _ (fun _ => (H.sub [4, 6, 3, 1] rfl)) ?_; clear hK K
          (try simp only [Act.put, List.getElem_toArray, List.getElem_cons_zero, List.getElem_cons_succ, List.setIfInBounds_toArray, List.set_cons_zero, List.set_cons_succ])
          refine Kr.readyL (rs := [10]) (by kernel_rfl) (by simp) ?_
          refine Kr.AllL.cons rfl (fun K hK => ?_) Kr.AllL.nil
          have hk := H.c
          simp only [Kr.Cells] at hk
          go_simp
          clear hk
          obtain ⟨y23, hy⟩ : ∃ y, y22.setCell ⟨bk, 0, none⟩ (.slice p22 n22 c22) = y := ⟨_, rfl⟩
          rw [hy]
          replace H := H.store 0 hy rfl rfl
          dsimp only [List.set] at H
          clear hy
          refine hK.out _ _ (fun _ => (H.sub [4, 6, 3, 1] rfl)) ?_; clear hK K
          (try simp only [Act.put, List.getElem_toArray, List.getElem_cons_zero, List.getElem_cons_succ, List.setIfInBounds_toArray, List.set_cons_zero, List.set_cons_succ])
          refine Kr.doneL (by kernel_rfl) ?_ _
          go_wp2_with fail
          go_meet
          exact ⟨_, _, _, _, _, _, _, _, _, _, rfl, Lib.hid H⟩
        refine Kr.AllL.cons rfl (fun K hK => ?_) Kr.AllL.nil
        go_simp
        obtain ⟨y24, hy⟩ : ∃ y, y16.alloc (.cells #[.slice none 0 0] 24) = y := ⟨_, rfl⟩
        obtain ⟨bk, hb⟩ : ∃ b, y16.heap.size = b := ⟨_, rfl⟩
        rw [hy, hb]
        replace H := H.alloc hy hb rfl
        clear hy hb
        refine hK.out _ _ (fun _ => (H.sub [4, 6, 3, 1] rfl)) ?_; clear hK K
        (try simp only [Act.put, List.getElem_toArray, List.getElem_cons_zero, List.getElem_cons_succ, List.setIfInBounds_toArray, List.set_cons_zero, List.set_cons_succ])
        refine Kr.readyL (rs := [5]) (by kernel_rfl) (by simp) ?_
        refine Kr.AllL.cons rfl (fun K hK => ?_) Kr.AllL.nil
        go_simp
        go_at_call 25
        refine (rsub3_v (H.nw 4 rfl) (H.nw 0 rfl) (H.nw 3 rfl) VB.out (Nat.mod_lt _ Q0.out) VQ.out).mono ?_
        rintro e y25 ⟨p25, n25, c25, rfl, hr, hg⟩
        replace H := H.grow hg
        replace H := H.num hr
        clear hr hg
        refine hK.out _ _ (fun _ => (H.sub [4, 6, 3, 1] rfl)) ?_; clear hK K
        (try simp only [Act.put, List.getElem_toArray, List.getElem_cons_zero, List.getElem_cons_succ, List.setIfInBounds_toArray, List.set_cons_zero, List.set_cons_succ])
        refine Kr.readyL (rs := [8]) (by kernel_rfl) (by simp) ?_
        refine Kr.AllL.cons rfl (fun K hK => ?_) Kr.AllL.nil
        go_simp
        go_at_call 28
        refine (rmul3_v (H.nw 0 rfl) (H.nw 2 rfl) (H.nw 4 rfl) (Nat.mod_lt _ Q0.out) HI.out.1 VQ.out).mono ?_
        rintro e y26 ⟨p26, n26, c26, rfl, hr, hg⟩
        replace H := H.grow hg
        replace H := H.num hr
        clear hr hg
        refine hK.out _ _ (fun _ => (H.sub [4, 6, 3, 1] rfl)) ?_; clear hK K
        (try simp only [Act.put, List.getElem_toArray, List.getElem_cons_zero, List.getElem_cons_succ, List.setIfInBounds_toArray, List.set_cons_zero, List.set_cons_succ])
        refine Kr.readyL (rs := [10]) (by kernel_rfl) (by simp) ?_
        refine Kr.AllL.cons rfl (fun K hK => ?_) Kr.AllL.nil
        have hk := H.c
        simp only [Kr.Cells] at hk
        go_simp
        clear hk
        obtain ⟨y27, hy⟩ : ∃ y, y26.setCell ⟨bk, 0, none⟩ (.slice p26 n26 c26) = y := ⟨_, rfl⟩
        rw [hy]
        replace H := H.store 0 hy rfl rfl
        dsimp only [List.set] at H
        clear hy
        refine hK.out _ _ (fun _ => (H.sub [4, 6, 3, 1] rfl)) ?_; clear hK K
        (try simp only [Act.put, List.getElem_toArray, List.getElem_cons_zero, List.getElem_cons_succ, List.setIfInBounds_toArray, List.set_cons_zero, List.set_cons_succ])
        refine Kr.doneL (by kernel_rfl) ?_ _
        go_wp2_with fail
        go_meet
        exact ⟨_, _, _, _, _, _, _, _, _, _, rfl, Lib.hid H⟩
      refine Kr.AllL.cons rfl (fun K hK => ?_) Kr.AllL.nil
      go_simp
      obtain ⟨y28, hy⟩ : ∃ y, d15.alloc (.cells #[.slice none 0 0] 24) = y := ⟨_, rfl⟩
      obtain ⟨bk, hb⟩ : ∃ b, d15.heap.size = b := ⟨_, rfl⟩
      rw [hy, hb]
      replace H := H.alloc hy hb rfl
      clear hy hb
      refine hK.out _ _ (fun _ => (H.sub [4, 6, 3, 1] rfl)) ?_; clear hK K
      (try simp only [Act.put, List.getElem_toArray, List.getElem_cons_zero, List.getElem_cons_succ, List.setIfInBounds_toArray, List.set_cons_zero, List.set_cons_succ])
      refine Kr.readyL (rs := [3]) (by kernel_rfl) (by simp) ?_
      refine Kr.AllL.cons rfl (fun K hK => ?_) Kr.AllL.nil
      go_simp
      go_at_call 47
      refine (rmod3_v (H.nw 5 rfl) (H.nw 2 rfl) (Nat.lt_of_lt_of_le (Nat.lt_trans VA.out VP.out) (pw_mono (by decide))) Q0.out VQ.out).mono ?_
      rintro e y29 ⟨p29, n29, c29, rfl, hr, hg⟩
      replace H := H.grow hg
      replace H := H.num hr
      clear hr hg
      refine hK.out _ _ (fun _ => (H.sub [4, 6, 3, 1] rfl)) ?_; clear hK K
      (try simp only [Act.put, List.getElem_toArray, List.getElem_cons_zero, List.getElem_cons_succ, List.setIfInBounds_toArray, List.set_cons_zero, List.set_cons_succ])
      refine Kr.readyL (rs := [5]) (by kernel_rfl) (by simp) ?_
      refine Kr.AllL.cons rfl (fun K hK => ?_) Kr.AllL.nil
      go_simp
      go_at_call 25
      refine (rsub3_v (H.nw 4 rfl) (H.nw 0 rfl) (H.nw 3 rfl) VB.out (Nat.mod_lt _ Q0.out) VQ.out).mono ?_
      rintro e y30 ⟨p30, n30, c30, rfl, hr, hg⟩
      replace H := H.grow hg
      replace H := H.num hr
      clear hr hg
      refine hK.out _ _ (fun _ => (H.sub [4, 6, 3, 1] rfl)) ?_; clear hK K
      (try simp only [Act.put, List.getElem_toArray, List.getElem_cons_zero, List.getElem_cons_succ, List.setIfInBounds_toArray, List.set_cons_zero, List.set_cons_succ])
      refine Kr.readyL (rs := [8]) (by kernel_rfl) (by simp) ?_
      refine Kr.AllL.cons rfl (fun K hK => ?_) Kr.AllL.nil
      go_simp
      go_at_call 28
      refine (rmul3_v (H.nw 0 rfl) (H.nw 2 rfl) (H.nw 4 rfl) (Nat.mod_lt _ Q0.out) HI.out.1 VQ.out).mono ?_
      rintro e y31 ⟨p31, n31, c31, rfl, hr, hg⟩
      replace H := H.grow hg
      replace H := H.num hr
      clear hr hg
      refine hK.out _ _ (fun _ => (H.sub [4, 6, 3, 1] rfl)) ?_; clear hK K
      (try simp only [Act.put, List.getElem_toArray, List.getElem_cons_zero, List.getElem_cons_succ, List.setIfInBounds_toArray, List.set_cons_zero, List.set_cons_succ])
      refine Kr.readyL (rs := [10]) (by kernel_rfl) (by simp) ?_
      refine Kr.AllL.cons rfl (fun K hK => ?_) Kr.AllL.nil
      have hk := H.c
      simp only [Kr.Cells] at hk
      go_simp
      clear hk
      obtain ⟨y32, hy⟩ : ∃ y, y31.setCell ⟨bk, 0, none⟩ (.slice p31 n31 c31) = y := ⟨_, rfl⟩
      rw [hy]
      replace H := H.store 0 hy rfl rfl
      dsimp only [List.set] at H
      clear hy
      refine hK.out _ _ (fun _ => (H.sub [4, 6, 3, 1] rfl)) ?_; clear hK K
      (try simp only [Act.put, List.getElem_toArray, List.getElem_cons_zero, List.getElem_cons_succ, List.setIfInBounds_toArray, List.set_cons_zero, List.set_cons_succ])
      refine Kr.doneL (by kernel_rfl) ?_ _
      go_wp2_with fail
      go_meet
      exact ⟨_, _, _, _, _, _, _, _, _, _, rfl, Lib.hid H⟩
    case rest =>
      clear H
      obtain ⟨bk, p31, n31, c31, p30, n30, c30, p29, n29, c29, rfl, HH⟩ := hcut
      have H := HH.out
      clear HH
      go_upto_region 3 with fail
      refine Kr.startL (fun W' => Kr.Cells W' [(ba, 0, .slice pa na ca), (bp, 0, .slice pp np cp), (bk, 0, .slice p31 n31 c31)]) [] (by kernel_rfl) ?_
      have gd : Gr wc wc.drew := (Gr.refl _).drew
      generalize wc.drew = d33 at gd ⊢
      replace H := H.grow gd
      clear gd
      (refine Kr.tS 0 [] (v := ?_) rfl (by kernel_rfl) (fun _ _ _ h => h) (by rfl) (H.sub [6, 5, 0] rfl) (fun wx hSx => ?_) ?_; rotate_left; (focus (simp only [Kr.Cells] at hSx; go_simp; first | done | rfl)); (try simp only [Act.put, List.getElem_toArray, List.getElem_cons_zero, List.getElem_cons_succ, List.setIfInBounds_toArray, List.set_cons_zero, List.set_cons_succ]))
      (refine Kr.tS 1 [] (v := ?_) rfl (by kernel_rfl) (fun _ _ _ h => h) (by rfl) (H.sub [6, 5, 0] rfl) (fun wx hSx => ?_) ?_; rotate_left; (focus (simp only [Kr.Cells] at hSx; go_simp; first | done | rfl)); (try simp only [Act.put, List.getElem_toArray, List.getElem_cons_zero, List.getElem_cons_succ, List.setIfInBounds_toArray, List.set_cons_zero, List.set_cons_succ]))
      (refine Kr.tS 2 [] (v := ?_) rfl (by kernel_rfl) (fun _ _ _ h => h) (by rfl) (H.sub [6, 5, 0] rfl) (fun wx hSx => ?_) ?_; rotate_left; (focus (simp only [Kr.Cells] at hSx; go_simp; first | done | rfl)); (try simp only [Act.put, List.getElem_toArray, List.getElem_cons_zero, List.getElem_cons_succ, List.setIfInBounds_toArray, List.set_cons_zero, List.set_cons_succ]))
      refine Kr.readyL (rs := [3]) (by kernel_rfl) (by simp) ?_
      refine Kr.AllL.cons rfl (fun K hK => ?_) Kr.AllL.nil
      go_simp
      go_at_call 44
      refine (rtimes3_v (H.nw 7 rfl) (H.nw 0 rfl) VP.out (Nat.lt_of_lt_of_le (Nat.lt_trans (Nat.mod_lt _ Q0.out) VQ.out) (pw_mono (by decide))) (Nat.lt_of_le_of_lt (Nat.mul_le_mul_left p (Nat.le_of_lt (Nat.mod_lt _ Q0.out))) HPQ.out)).mono ?_
      rintro e y34 ⟨p34, n34, c34, rfl, hr, hg⟩
      replace H := H.grow hg
      replace H := H.num hr
      clear hr hg
      refine hK.out _ _ (fun _ => (H.sub [6, 5, 0] rfl)) ?_; clear hK K
      (try simp only [Act.put, List.getElem_toArray, List.getElem_cons_zero, List.getElem_cons_succ, List.setIfInBounds_toArray, List.set_cons_zero, List.set_cons_succ])
      refine Kr.readyL (rs := [4]) (by kernel_rfl) (by simp) ?_
      refine Kr.AllL.cons rfl (fun K hK => ?_) Kr.AllL.nil
      go_simp
      go_at_call 43
      refine (rplus3_v (H.nw 9 rfl) (H.nw 0 rfl) hna (Nat.le_trans (nw_small (H.nw 0 rfl) (Nat.lt_of_le_of_lt (Nat.mul_le_mul_left p (Nat.le_of_lt (Nat.mod_lt _ Q0.out))) HPQ.out)) (by decide))).mono ?_
      rintro e y35 ⟨p35, n35, c35, rfl, hr, hg⟩
      replace H := H.grow hg
      replace H := H.num hr
      clear hr hg
      refine hK.out _ _ (fun _ => (H.sub [6, 5, 0] rfl)) ?_; clear hK K
      (try simp only [Act.put, List.getElem_toArray, List.getElem_cons_zero, List.getElem_cons_succ, List.setIfInBounds_toArray, List.set_cons_zero, List.set_cons_succ])
      refine Kr.readyL (rs := [5]) (by kernel_rfl) (by simp) ?_
      refine Kr.AllL.cons rfl (fun K hK => ?_) Kr.AllL.nil
      have hk := H.c
      simp only [Kr.Cells] at hk
      go_simp
      clear hk
      obtain ⟨y36, hy⟩ : ∃ y, y35.setCell ⟨br, 0, none⟩ (.slice p35 n35 c35) = y := ⟨_, rfl⟩
      rw [hy]
      replace H := H.store 2 hy rfl rfl
      dsimp only [List.set] at H
      clear hy
      refine hK.out _ _ (fun _ => (H.sub [6, 5, 0] rfl)) ?_; clear hK K
      (try simp only [Act.put, List.getElem_toArray, List.getElem_cons_zero, List.getElem_cons_succ, List.setIfInBounds_toArray, List.set_cons_zero, List.set_cons_succ])
      refine Kr.doneL (by kernel_rfl) ?_ _
      have hk := H.c
      simp only [Kr.Cells] at hk
      go_wp2
      refine bodyPost_ret (v := .agg #[.slice p35 n35 c35]) (by simp [results, Try.results39, go_sem, hk]) rfl ⟨z, HI.out, p35, n35, c35, rfl, (H.nw 0 rfl), H.g⟩
end Go.Proofs.Ytlciocebbckdcaa.Mr


/- The examples that each law of layer 2 checks first: they hold. -/
namespace Go.Proofs.Ytlciocebbckdcaa.Nv
open Go.RowKit Go.Shelf Go.Proofs.Ytlciocebbckdcaa.Nm Go.Proofs.Ytlciocebbckdcaa.Ne Go.Proofs.Ytlciocebbckdcaa.Nf Go.Proofs.Ytlciocebbckdcaa.Nk

theorem digs_cons {x : Nat} {l : List Nat} (h : x ≠ 0) (h2 : digs (x / 4294967296) = l) : digs x = x % 4294967296 :: l := by rw [digs_pos h, h2]
theorem digs_one {x : Nat} (h : x ≠ 0) (h2 : x < 4294967296) : digs x = [x] := by rw [digs_pos h, Nat.div_eq_of_lt h2, digs_zero, Nat.mod_eq_of_lt h2]
theorem ex_a : digs 18446744073709551615 = [4294967295, 4294967295] := digs_cons (by decide) (digs_one (by decide) (by decide))
theorem ex_p : digs 340282366920938463426481119284349108225 = [1, 0, 4294967294, 4294967295] := digs_cons (by decide) (digs_cons (by decide) (digs_cons (by decide) (digs_one (by decide) (by decide))))
theorem ex_b : digs 10000000000 = [1410065408, 2] := digs_cons (by decide) (digs_one (by decide) (by decide))
theorem ex_3 : digs 3 = [3] := digs_one (by decide) (by decide)
theorem ex_q : digs 3333333333 = [3333333333] := digs_one (by decide) (by decide)
theorem ex_1 : digs 1 = [1] := digs_one (by decide) (by decide)

/-- One, two words that have been written out. -/
theorem lit1 (w : World) (x a : Nat) (h : digs x = [a]) (ha : a < 4294967296) : Nw (w.alloc (.cells #[.int .u32 (a : Int)] 50)) (some ⟨w.heap.size, 0, none⟩) 1 1 (digs x) := by
  rw [h]
  refine nw_lit rfl (ok_cons.2 ⟨ha, ok_nil⟩) (by decide) ?_
  intro i hi
  match i, hi with
  | 0, _ => simp [go_sem]
theorem lit2 (w : World) (x a b : Nat) (h : digs x = [a, b]) (ha : a < 4294967296) (hb : b < 4294967296) : Nw (w.alloc (.cells #[.int .u32 (a : Int), .int .u32 (b : Int)] 50)) (some ⟨w.heap.size, 0, none⟩) 2 2 (digs x) := by
  rw [h]
  refine nw_lit rfl (ok_cons.2 ⟨ha, ok_cons.2 ⟨hb, ok_nil⟩⟩) (by decide) ?_
  intro i hi
  match i, hi with
  | 0, _ => simp [go_sem]
  | 1, _ => simp [go_sem]
theorem lit4 (w : World) (x a b c d : Nat) (h : digs x = [a, b, c, d]) (ha : a < 4294967296) (hb : b < 4294967296) (hc : c < 4294967296) (hd : d < 4294967296) :
    Nw (w.alloc (.cells #[.int .u32 (a : Int), .int .u32 (b : Int), .int .u32 (c : Int), .int .u32 (d : Int)] 50)) (some ⟨w.heap.size, 0, none⟩) 4 4 (digs x) := by
  rw [h]
  refine nw_lit rfl (ok_cons.2 ⟨ha, ok_cons.2 ⟨hb, ok_cons.2 ⟨hc, ok_cons.2 ⟨hd, ok_nil⟩⟩⟩⟩) (by decide) ?_
  intro i hi
  match i, hi with
  | 0, _ => simp [go_sem]
  | 1, _ => simp [go_sem]
  | 2, _ => simp [go_sem]
  | 3, _ => simp [go_sem]
/-- slices.Equal of values. -/
theorem Equal_v {p q : Option Addr} {n m c d x : Nat} {w : World} (hl : Nw w p n c (digs x)) (hk : Nw w q m d (digs x)) :
    Calls Try.prog 46 #[.slice p n c, .slice q m d] w fun e w' => e = .returned (.bool true) ∧ Gr w w' := by
  have en : m = n := by rw [← hl.len, ← hk.len]
  subst en
  refine (equal_any p q _ _ m c d hl.len hk.len hl.small w hl.rd hk.rd).mono ?_
  rintro e w' ⟨rfl, j, rfl⟩
  exact ⟨by rw [decide_eq_true rfl], (Gr.refl w).drewN j⟩

end Go.Proofs.Ytlciocebbckdcaa.Nv


/- What the laws of layer 3 ask of few and first. -/
namespace Go.Proofs.Ytlciocebbckdcaa.Mr
open Go.RowKit Go.Shelf Go.Proofs.Ytlciocebbckdcaa.Nm Go.Proofs.Ytlciocebbckdcaa.Ne Go.Proofs.Ytlciocebbckdcaa.Nf Go.Proofs.Ytlciocebbckdcaa.Nk Go.Proofs.Ytlciocebbckdcaa.Nv Go.Proofs.Ytlciocebbckdcaa.Nr2 Go.Proofs.Ytlciocebbckdcaa.Mo Go.Proofs.Ytlciocebbckdcaa.Kr

theorem gives_has_c {P : Program} {f : Nat} {vs : Array Value} {z k : Nat} {w : World} (h : Calls P f vs w (Gives z k w)) : Calls P f vs w (HasE z k w) := h.mono fun _ _ h => gives_has h
theorem nats_mk {W y : World} {b : Nat} {xs : List (Option Addr × Nat × Nat)} (hy : W.alloc (.cells (xs.map fun x => Value.slice x.1 x.2.1 x.2.2).toArray 24) = y) (hb : W.heap.size = b) : Nats y b 0 xs := by
  intro i hi
  rw [← hy, ← hb, Nat.zero_add]
  rw [show (W.alloc (.cells (xs.map fun x => Value.slice x.1 x.2.1 x.2.2).toArray 24)).cell? ⟨W.heap.size, i, none⟩ = (xs.map fun x => Value.slice x.1 x.2.1 x.2.2)[i]? by simp [go_sem]]
  rw [List.getElem?_map, List.getElem?_eq_getElem hi]
  rfl
theorem few_ok {b N : Nat} {xs : List (Option Addr × Nat × Nat)} {w : World} (h : Nats w b 0 xs) (hn : xs.length ≤ 1000) (hs : ∀ x ∈ xs, x.2.1 ≤ N) :
    Calls Try.prog 19 #[.int .i64 (N : Int), .slice (some ⟨b, 0, none⟩) xs.length xs.length] w fun e w' => e = .returned (.bool true) ∧ Gr w w' := by
  refine few_any N b 0 xs.length xs.length xs rfl hn w h false ⟨fun e => (by cases e), fun ⟨j, h1, h2⟩ => ?_⟩
  have h3 := hs _ (List.getElem_mem h1)
  simp only [at3, List.getElem?_eq_getElem h1, Option.getD_some] at h2
  omega
theorem few_no {b N : Nat} {xs : List (Option Addr × Nat × Nat)} {w : World} (h : Nats w b 0 xs) (hn : xs.length ≤ 1000) (hs : ∃ x ∈ xs, N < x.2.1) :
    Calls Try.prog 19 #[.int .i64 (N : Int), .slice (some ⟨b, 0, none⟩) xs.length xs.length] w fun e w' => e = .returned (.bool false) ∧ Gr w w' := by
  refine few_any N b 0 xs.length xs.length xs rfl hn w h true ⟨fun _ => ?_, fun _ => rfl⟩
  obtain ⟨x, hx, h2⟩ := hs
  obtain ⟨j, h1, rfl⟩ := List.getElem_of_mem hx
  exact ⟨j, h1, by simp only [at3, List.getElem?_eq_getElem h1, Option.getD_some]; exact h2⟩
/-- What first answers for these numbers, at every world from w on. -/
def Fst (w : World) (m : Value) (xs : List (Option Addr × Nat × Nat)) (k : Nat) : Prop :=
  ∀ W b, Gr w W → Nats W b 0 xs → Calls Try.prog 22 #[m, .slice (some ⟨b, 0, none⟩) xs.length xs.length] W fun e w' => e = .returned (.int .i64 (k : Int)) ∧ Gr W w'
/-- The words of the numbers of a list. -/
def Wds (w : World) : List (Option Addr × Nat × Nat) → List (List Nat) → Prop
  | [], [] => True
  | x :: xs, l :: ls => Nw w x.1 x.2.1 x.2.2 l ∧ Wds w xs ls
  | _, _ => False
theorem Wds.len {w : World} : ∀ {xs : List (Option Addr × Nat × Nat)} {ls : List (List Nat)}, Wds w xs ls → xs.length = ls.length
  | [], [], _ => rfl
  | _ :: _, _ :: _, h => by simp [Wds.len h.2]
  | [], _ :: _, h => h.elim
  | _ :: _, [], h => h.elim
theorem Wds.at {w : World} : ∀ {xs : List (Option Addr × Nat × Nat)} {ls : List (List Nat)} (j : Nat), Wds w xs ls → j < xs.length → Nw w (at3 xs j).1 (at3 xs j).2.1 (at3 xs j).2.2 (ls[j]?.getD [])
  | x :: _, l :: _, 0, h, _ => h.1
  | _ :: _, _ :: _, j + 1, h, hj => by
    have := Wds.at j h.2 (by simpa using hj)
    simpa [at3] using this
  | [], _, _, _, hj => by simp at hj
  | _ :: _, [], _, h, _ => h.elim
theorem fst_arg {w : World} {p : Option Addr} {n c : Nat} {lm : List Nat} {xs : List (Option Addr × Nat × Nat)} {ls : List (List Nat)} (hm : Nw w p n c lm) (hx : Wds w xs ls) (hl : xs.length ≤ 1000) (h : im lm = false ∨ ∃ l ∈ ls, decide (valid l) = false) :
    Fst w (.agg #[.slice p n c]) xs 1 := fun W b g hN => by
  cases hi : im lm with
  | false => exact first_mod _ (hm.grow g) hi
  | true =>
    rcases h with h | ⟨l, hl1, hl2⟩
    · rw [hi] at h; cases h
    · obtain ⟨j, hj, rfl⟩ := List.getElem_of_mem hl1
      exact first_bad b 0 xs.length xs.length xs (fun j => ls[j]?.getD []) rfl hl hN (fun j hj => (hx.at j hj).grow g) (hm.grow g) hi ⟨j, by rw [hx.len]; exact hj, by simp only [List.getElem?_eq_getElem hj, Option.getD_some]; exact hl2⟩
theorem fst_val {w : World} {p : Option Addr} {n c m : Nat} {xs : List (Option Addr × Nat × Nat)} {ys : List Nat} (hm : Nw w p n c (digs m)) (h0 : 0 < m) (vm : m < pw 32) (hx : Wds w xs (ys.map digs)) (hl : xs.length ≤ 1000) (hv : ∀ y ∈ ys, y < pw 64) :
    ((∀ y ∈ ys, y < m) → Fst w (.agg #[.slice p n c]) xs 0) ∧ ((∃ y ∈ ys, ¬ y < m) → Fst w (.agg #[.slice p n c]) xs 2) := by
  have hlen : xs.length = ys.length := by rw [hx.len, List.length_map]
  have hat : ∀ j, j < xs.length → Nw w (at3 xs j).1 (at3 xs j).2.1 (at3 xs j).2.2 (digs (ys[j]?.getD 0)) := fun j hj => by
    have := hx.at j hj
    rw [List.getElem?_map, List.getElem?_eq_getElem (by rw [← hlen]; exact hj)] at this
    rw [List.getElem?_eq_getElem (by rw [← hlen]; exact hj)]
    exact this
  have hb : ∀ j, j < xs.length → ys[j]?.getD 0 < pw 64 := fun j hj => by
    rw [List.getElem?_eq_getElem (by rw [← hlen]; exact hj)]
    exact hv _ (List.getElem_mem _)
  refine ⟨fun h W b g hN => ?_, fun h W b g hN => ?_⟩
  · refine first_v b 0 xs.length xs.length m xs (fun j => ys[j]?.getD 0) rfl hl hN (fun j hj => (hat j hj).grow g) hb (hm.grow g) h0 vm false ⟨fun e => (by cases e), fun ⟨j, h1, h2⟩ => ?_⟩
    rw [List.getElem?_eq_getElem (by rw [← hlen]; exact h1)] at h2
    exact absurd (h _ (List.getElem_mem _)) h2
  · refine first_v b 0 xs.length xs.length m xs (fun j => ys[j]?.getD 0) rfl hl hN (fun j hj => (hat j hj).grow g) hb (hm.grow g) h0 vm true ⟨fun _ => ?_, fun _ => rfl⟩
    obtain ⟨y, hy, h2⟩ := h
    obtain ⟨j, h1, rfl⟩ := List.getElem_of_mem hy
    exact ⟨j, by rw [hlen]; exact h1, by rw [List.getElem?_eq_getElem h1]; exact h2⟩
section
variable {w : World} {pa : Option Addr} {na ca : Nat} {pb : Option Addr} {nb cb : Nat} {pm : Option Addr} {nm cm : Nat} {la lb lm : List Nat}
/-- The codes of one number and a modulus. -/
theorem code1 (ha : Nw w pa na ca la) (hm : Nw w pm nm cm lm) :
    ∃ k, Fst w (.agg #[.slice pm nm cm]) [(pa, na, ca)] k ∧ Chk w (.agg #[.slice pa na ca]) (.agg #[.slice pm nm cm]) (.agg #[.slice none 0 0]) (.agg #[.slice pm nm cm]) (k : Int) ∧
      (k = 1 ∨ k = 2 ∨ k = 0 ∧ ∃ x m, la = digs x ∧ lm = digs m ∧ x < m ∧ m < pw 32) := by
  have v0 : decide (valid (digs 0)) = true := dv (pw_pos 64)
  cases hi : im lm with
  | false => exact ⟨1, fst_arg (ls := [la]) hm ⟨ha, trivial⟩ (by simp) (.inl hi), chk_arg ha hm (nw_none w) hm (by rw [hi]; simp), .inl rfl⟩
  | true =>
    cases va : decide (valid la) with
    | false => exact ⟨1, fst_arg (ls := [la]) hm ⟨ha, trivial⟩ (by simp) (.inr ⟨la, List.mem_cons_self .., va⟩), chk_arg ha hm (nw_none w) hm (by rw [va]; rfl), .inl rfl⟩
    | true =>
      obtain ⟨m, h0, vm, rfl⟩ := im_value hm hi
      obtain ⟨x, hx, rfl⟩ := nw_value ha va
      have hf := fst_val (xs := [(pa, na, ca)]) (ys := [x]) hm h0 vm ⟨ha, trivial⟩ (by simp) (by simpa using hx)
      by_cases h : x < m
      · exact ⟨0, hf.1 (by simpa using h), chk_ok ha hm (nw_none w) hm h h0 vm vm, .inr (.inr ⟨rfl, x, m, rfl, rfl, h, vm⟩)⟩
      · exact ⟨2, hf.2 ⟨x, List.mem_cons_self .., h⟩, chk_range ha hm (nw_none w) hm hx (pw_pos 64) (fun h2 => h h2.1) h0 vm h0 vm, .inr (.inl rfl)⟩
/-- The codes of two numbers and a modulus. -/
theorem code2 (ha : Nw w pa na ca la) (hb : Nw w pb nb cb lb) (hm : Nw w pm nm cm lm) :
    ∃ k, Fst w (.agg #[.slice pm nm cm]) [(pa, na, ca), (pb, nb, cb)] k ∧ Chk w (.agg #[.slice pa na ca]) (.agg #[.slice pm nm cm]) (.agg #[.slice pb nb cb]) (.agg #[.slice pm nm cm]) (k : Int) ∧
      (k = 1 ∨ k = 2 ∨ k = 0 ∧ ∃ x y m, la = digs x ∧ lb = digs y ∧ lm = digs m ∧ x < m ∧ y < m ∧ m < pw 32) := by
  cases hi : im lm with
  | false => exact ⟨1, fst_arg (ls := [la, lb]) hm ⟨ha, hb, trivial⟩ (by simp) (.inl hi), chk_arg ha hm hb hm (by rw [hi]; simp), .inl rfl⟩
  | true =>
    cases va : decide (valid la) with
    | false => exact ⟨1, fst_arg (ls := [la, lb]) hm ⟨ha, hb, trivial⟩ (by simp) (.inr ⟨la, by simp, va⟩), chk_arg ha hm hb hm (by rw [va]; rfl), .inl rfl⟩
    | true =>
      cases vb : decide (valid lb) with
      | false => exact ⟨1, fst_arg (ls := [la, lb]) hm ⟨ha, hb, trivial⟩ (by simp) (.inr ⟨lb, by simp, vb⟩), chk_arg ha hm hb hm (by rw [vb]; simp), .inl rfl⟩
      | true =>
        obtain ⟨m, h0, vm, rfl⟩ := im_value hm hi
        obtain ⟨x, hx, rfl⟩ := nw_value ha va
        obtain ⟨y, hy, rfl⟩ := nw_value hb vb
        have hf := fst_val (xs := [(pa, na, ca), (pb, nb, cb)]) (ys := [x, y]) hm h0 vm ⟨ha, hb, trivial⟩ (by simp) (by simpa using ⟨hx, hy⟩)
        by_cases h : x < m ∧ y < m
        · exact ⟨0, hf.1 (by simpa using h), chk_ok ha hm hb hm h.1 h.2 vm vm, .inr (.inr ⟨rfl, x, y, m, rfl, rfl, rfl, h.1, h.2, vm⟩)⟩
        · refine ⟨2, hf.2 ?_, chk_range ha hm hb hm hx hy h h0 vm h0 vm, .inr (.inl rfl)⟩
          by_cases h1 : x < m
          · exact ⟨y, by simp, fun h2 => h ⟨h1, h2⟩⟩
          · exact ⟨x, by simp, h1⟩
end
end Go.Proofs.Ytlciocebbckdcaa.Mr


/- Layer 3's awake. -/
namespace Go.Proofs.Ytlciocebbckdcaa.Mr
open Go.RowKit Go.Shelf Go.Proofs.Ytlciocebbckdcaa.Nm Go.Proofs.Ytlciocebbckdcaa.Ne Go.Proofs.Ytlciocebbckdcaa.Nf Go.Proofs.Ytlciocebbckdcaa.Nk Go.Proofs.Ytlciocebbckdcaa.Nv Go.Proofs.Ytlciocebbckdcaa.Nr2 Go.Proofs.Ytlciocebbckdcaa.Mo Go.Proofs.Ytlciocebbckdcaa.Mr Go.Proofs.Ytlciocebbckdcaa.Kr Go.Proofs.Ytlciocebbckdcaa.Nl
theorem lit_mk {W y : World} {b x : Nat} {ws : List Nat} (hd : digs x = ws) (hy : W.alloc (.cells (ws.map fun (a : Nat) => Value.int .u32 (a : Int)).toArray 50) = y) (hb : W.heap.size = b) (hs : ws.length ≤ 1048576 := by decide) : Nw y (some ⟨b, 0, none⟩) ws.length ws.length (digs x) := by
  rw [hd]
  refine nw_lit rfl (by rw [← hd]; exact ok_digs x) hs fun i hi => ?_
  rw [← hy, ← hb]
  rw [show (W.alloc (.cells (ws.map fun (a : Nat) => Value.int .u32 (a : Int)).toArray 50)).cell? ⟨W.heap.size, i, none⟩ = (ws.map fun (a : Nat) => Value.int .u32 (a : Int))[i]? by simp [go_sem]]
  rw [List.getElem?_map, List.getElem?_eq_getElem hi]
  rfl
theorem ex_m : digs 18446744073709551629 = [13, 0, 1] := digs_cons (by decide) (digs_cons (by decide) (digs_one (by decide) (by decide)))
theorem ex_k : digs 4294967296 = [0, 1] := digs_cons (by decide) (digs_one (by decide) (by decide))
theorem ex_s : digs 18446744073709551616 = [0, 0, 1] := digs_cons (by decide) (digs_cons (by decide) (digs_one (by decide) (by decide)))
theorem ex_v : digs 9223372036854775815 = [7, 2147483648] := digs_cons (by decide) (digs_one (by decide) (by decide))
theorem ex_8 : digs 8 = [8] := digs_one (by decide) (by decide)
theorem m_lt : 18446744073709551629 < pw 32 := Nat.lt_of_lt_of_le (show 18446744073709551629 < pw 3 by decide) (pw_mono (by decide))
theorem s_lt {x : Nat} (h : x < 4294967296) : x < pw 32 := Nat.lt_of_lt_of_le (show x < pw 1 from h) (pw_mono (by decide))

set_option linter.unusedSimpArgs false in
set_option maxRecDepth 100000 in
set_option maxHeartbeats 16000000 in
theorem awake3 (w : World) : Calls Try.prog 18 #[] w fun e w' => e = .returned (.bool true) ∧ Gr w w' := by
  have H := Sta.start w
  go_enter Try.func18, Try.ntmps18
  go_upto_region 0 with fail
  refine Kr.seqStart ?_
  (refine Kr.seqP (v := ?_) (by rfl) ?_ ?_; rotate_left; (focus (go_simp; first | done | rfl)); (try simp only [Act.put, List.getElem_toArray, List.getElem_cons_zero, List.getElem_cons_succ, List.setIfInBounds_toArray, List.set_cons_zero, List.set_cons_succ]))
  refine Kr.seqDone ?_
  go_upto_region 1 with fail
  refine Kr.seqStart ?_
  refine Kr.seqS (fun K hK => ?_)
  go_simp
  obtain ⟨y1, hy⟩ : ∃ y, w.alloc (.cells #[.int .u32 13, .int .u32 0, .int .u32 1] 50) = y := ⟨_, rfl⟩
  obtain ⟨by1, hb⟩ : ∃ b, w.heap.size = b := ⟨_, rfl⟩
  rw [hy, hb]
  have hr : Nw y1 (some ⟨by1, 0, none⟩) 3 3 (digs 18446744073709551629) := lit_mk ex_m hy hb
  have hg : Gr w y1 := hy ▸ (Gr.refl _).alloc _
  replace H := H.grow hg
  replace H := H.num hr
  clear hr hg hy hb
  refine hK.out _ _ ?_; clear hK K
  (try simp only [Act.put, List.getElem_toArray, List.getElem_cons_zero, List.getElem_cons_succ, List.setIfInBounds_toArray, List.set_cons_zero, List.set_cons_succ])
  (refine Kr.seqP (v := ?_) (by rfl) ?_ ?_; rotate_left; (focus (go_simp; first | done | rfl)); (try simp only [Act.put, List.getElem_toArray, List.getElem_cons_zero, List.getElem_cons_succ, List.setIfInBounds_toArray, List.set_cons_zero, List.set_cons_succ]))
  refine Kr.seqS (fun K hK => ?_)
  go_simp
  obtain ⟨y2, hy⟩ : ∃ y, y1.alloc (.cells #[.slice none 0 0] 24) = y := ⟨_, rfl⟩
  obtain ⟨bm, hb⟩ : ∃ b, y1.heap.size = b := ⟨_, rfl⟩
  rw [hy, hb]
  replace H := H.alloc hy hb rfl
  clear hy hb
  refine hK.out _ _ ?_; clear hK K
  (try simp only [Act.put, List.getElem_toArray, List.getElem_cons_zero, List.getElem_cons_succ, List.setIfInBounds_toArray, List.set_cons_zero, List.set_cons_succ])
  have hk := H.c
  simp only [Kr.Cells] at hk
  refine Kr.seqS (fun K hK => ?_)
  go_simp
  clear hk
  obtain ⟨y3, hy⟩ : ∃ y, y2.setCell ⟨bm, 0, none⟩ (.slice (some ⟨by1, 0, none⟩) 3 3) = y := ⟨_, rfl⟩
  rw [hy]
  replace H := H.store 0 hy rfl rfl
  dsimp only [List.set] at H
  clear hy
  refine hK.out _ _ ?_; clear hK K
  (try simp only [Act.put, List.getElem_toArray, List.getElem_cons_zero, List.getElem_cons_succ, List.setIfInBounds_toArray, List.set_cons_zero, List.set_cons_succ])
  refine Kr.seqDone ?_
  go_upto_region 2 with fail
  refine Kr.seqStart ?_
  refine Kr.seqS (fun K hK => ?_)
  go_simp
  obtain ⟨y4, hy⟩ : ∃ y, y3.alloc (.cells #[.int .u32 0, .int .u32 1] 50) = y := ⟨_, rfl⟩
  obtain ⟨by4, hb⟩ : ∃ b, y3.heap.size = b := ⟨_, rfl⟩
  rw [hy, hb]
  have hr : Nw y4 (some ⟨by4, 0, none⟩) 2 2 (digs 4294967296) := lit_mk ex_k hy hb
  have hg : Gr y3 y4 := hy ▸ (Gr.refl _).alloc _
  replace H := H.grow hg
  replace H := H.num hr
  clear hr hg hy hb
  refine hK.out _ _ ?_; clear hK K
  (try simp only [Act.put, List.getElem_toArray, List.getElem_cons_zero, List.getElem_cons_succ, List.setIfInBounds_toArray, List.set_cons_zero, List.set_cons_succ])
  (refine Kr.seqP (v := ?_) (by rfl) ?_ ?_; rotate_left; (focus (go_simp; first | done | rfl)); (try simp only [Act.put, List.getElem_toArray, List.getElem_cons_zero, List.getElem_cons_succ, List.setIfInBounds_toArray, List.set_cons_zero, List.set_cons_succ]))
  refine Kr.seqS (fun K hK => ?_)
  go_simp
  obtain ⟨y5, hy⟩ : ∃ y, y4.alloc (.cells #[.int .u32 0, .int .u32 1] 50) = y := ⟨_, rfl⟩
  obtain ⟨by5, hb⟩ : ∃ b, y4.heap.size = b := ⟨_, rfl⟩
  rw [hy, hb]
  have hr : Nw y5 (some ⟨by5, 0, none⟩) 2 2 (digs 4294967296) := lit_mk ex_k hy hb
  have hg : Gr y4 y5 := hy ▸ (Gr.refl _).alloc _
  replace H := H.grow hg
  replace H := H.num hr
  clear hr hg hy hb
  refine hK.out _ _ ?_; clear hK K
  (try simp only [Act.put, List.getElem_toArray, List.getElem_cons_zero, List.getElem_cons_succ, List.setIfInBounds_toArray, List.set_cons_zero, List.set_cons_succ])
  (refine Kr.seqP (v := ?_) (by rfl) ?_ ?_; rotate_left; (focus (go_simp; first | done | rfl)); (try simp only [Act.put, List.getElem_toArray, List.getElem_cons_zero, List.getElem_cons_succ, List.setIfInBounds_toArray, List.set_cons_zero, List.set_cons_succ]))
  have hk := H.c
  simp only [Kr.Cells] at hk
  (refine Kr.seqP (v := ?_) (by rfl) ?_ ?_; rotate_left; (focus (go_simp; first | done | rfl)); (try simp only [Act.put, List.getElem_toArray, List.getElem_cons_zero, List.getElem_cons_succ, List.setIfInBounds_toArray, List.set_cons_zero, List.set_cons_succ]))
  refine Kr.seqS (fun K hK => ?_)
  go_simp
  go_at_call 26
  refine (mMul_v (H.nw 1 rfl) (H.nw 0 rfl) (H.nw 2 rfl) (by decide) (by decide) m_lt).mono ?_
  rintro e y6 ⟨pa, na, ca, rfl, hr, hg⟩
  rw [show 4294967296 * 4294967296 % 18446744073709551629 = 18446744073709551616 from by decide] at hr
  clear hk
  replace H := H.grow hg
  replace H := H.num hr.toNw
  clear hr hg
  refine hK.out _ _ ?_; clear hK K
  (try simp only [Act.put, List.getElem_toArray, List.getElem_cons_zero, List.getElem_cons_succ, List.setIfInBounds_toArray, List.set_cons_zero, List.set_cons_succ])
  iterate 3 (refine Kr.seqP (v := ?_) (by rfl) ?_ ?_; rotate_left; (focus (go_simp; first | done | rfl)); (try simp only [Act.put, List.getElem_toArray, List.getElem_cons_zero, List.getElem_cons_succ, List.setIfInBounds_toArray, List.set_cons_zero, List.set_cons_succ]))
  refine Kr.seqS (fun K hK => ?_)
  go_simp
  obtain ⟨y7, hy⟩ : ∃ y, y6.alloc (.cells #[.slice none 0 0] 24) = y := ⟨_, rfl⟩
  obtain ⟨ba, hb⟩ : ∃ b, y6.heap.size = b := ⟨_, rfl⟩
  rw [hy, hb]
  replace H := H.alloc hy hb rfl
  clear hy hb
  refine hK.out _ _ ?_; clear hK K
  (try simp only [Act.put, List.getElem_toArray, List.getElem_cons_zero, List.getElem_cons_succ, List.setIfInBounds_toArray, List.set_cons_zero, List.set_cons_succ])
  have hk := H.c
  simp only [Kr.Cells] at hk
  refine Kr.seqS (fun K hK => ?_)
  go_simp
  clear hk
  obtain ⟨y8, hy⟩ : ∃ y, y7.setCell ⟨ba, 0, none⟩ (.slice pa na ca) = y := ⟨_, rfl⟩
  rw [hy]
  replace H := H.store 0 hy rfl rfl
  dsimp only [List.set] at H
  clear hy
  refine hK.out _ _ ?_; clear hK K
  (try simp only [Act.put, List.getElem_toArray, List.getElem_cons_zero, List.getElem_cons_succ, List.setIfInBounds_toArray, List.set_cons_zero, List.set_cons_succ])
  (refine Kr.seqP (v := ?_) (by rfl) ?_ ?_; rotate_left; (focus (go_simp; first | done | rfl)); (try simp only [Act.put, List.getElem_toArray, List.getElem_cons_zero, List.getElem_cons_succ, List.setIfInBounds_toArray, List.set_cons_zero, List.set_cons_succ]))
  refine Kr.seqDone ?_
  go_upto_region 3 with fail
  go_cut [4, 5] from 19 to 24 (fun s4 s5 W => ∃ (bv : Nat) (pv : Option Addr) (nv cv : Nat) (p18 : Option Addr) (n18 c18 : Nat), s4 = .pointer (some ⟨bv, 0, none⟩) ∧ s5 = .int .i64 0 ∧ Hid (Sta w W [(bv, 0, .slice pv nv cv), (ba, 0, .slice pa na ca), (bm, 0, .slice (some ⟨by1, 0, none⟩) 3 3)] [N pv nv cv (9223372036854775815), N p18 n18 c18 (2), N pa na ca (18446744073709551616), N (some ⟨by5, 0, none⟩) 2 2 (4294967296), N (some ⟨by4, 0, none⟩) 2 2 (4294967296), N (some ⟨by1, 0, none⟩) 3 3 (18446744073709551629)]))
  case first =>
    refine Kr.startL (fun W' => Kr.Cells W' [(bm, 0, .slice (some ⟨by1, 0, none⟩) 3 3)]) [] (by kernel_rfl) ?_
    have gd : Gr y8 y8.drew := (Gr.refl _).drew
    generalize y8.drew = d9 at gd ⊢
    replace H := H.grow gd
    clear gd
    (refine Kr.tS 1 [] (v := ?_) rfl (by kernel_rfl) (fun _ _ _ h => h) (by rfl) (H.sub [1] rfl) (fun wx hSx => ?_) ?_; rotate_left; (focus (simp only [Kr.Cells] at hSx; go_simp; first | done | rfl)); (try simp only [Act.put, List.getElem_toArray, List.getElem_cons_zero, List.getElem_cons_succ, List.setIfInBounds_toArray, List.set_cons_zero, List.set_cons_succ]))
    refine Kr.readyL (rs := [0, 6]) (by kernel_rfl) (by simp) ?_
    refine Kr.AllL.cons rfl (fun K hK => ?_) ?_
    · go_simp
      go_at_call 38
      refine (of3_v 2 (by decide) _).mono ?_
      rintro e y10 ⟨p10, n10, c10, rfl, hr, hg⟩
      replace H := H.grow hg
      replace H := H.num hr.toNw
      clear hr hg
      refine hK.out _ _ (fun _ => (H.sub [1] rfl)) ?_; clear hK K
      (try simp only [Act.put, List.getElem_toArray, List.getElem_cons_zero, List.getElem_cons_succ, List.setIfInBounds_toArray, List.set_cons_zero, List.set_cons_succ])
      refine Kr.readyL (rs := [2, 6]) (by kernel_rfl) (by simp) ?_
      refine Kr.AllL.cons rfl (fun K hK => ?_) ?_
      · go_simp
        go_at_call 32
        refine (mInverse_ok (H.nw 0 rfl) (H.nw 4 rfl) (by decide) m_lt (by decide) (chk_ok (H.nw 0 rfl) (H.nw 4 rfl) (nw_none _) (H.nw 4 rfl) (by decide) (by decide) m_lt m_lt)).mono ?_
        rintro e y11 ⟨z, hI, pv, nv, cv, rfl, hr, hg⟩
        rw [inv_unique hI (show IsInv 2 18446744073709551629 9223372036854775815 from ⟨by decide, by decide⟩)] at hr
        replace H := H.grow hg
        replace H := H.num hr
        clear hr hg hI
        refine hK.out _ _ (fun _ => (H.sub [1] rfl)) ?_; clear hK K
        (try simp only [Act.put, List.getElem_toArray, List.getElem_cons_zero, List.getElem_cons_succ, List.setIfInBounds_toArray, List.set_cons_zero, List.set_cons_succ])
        (refine Kr.tP 3 (v := ?_) rfl (by kernel_rfl) (fun _ _ _ h => h) (by rfl) (fun _ => (H.sub [1] rfl)) (fun wx => ?_) ?_; rotate_left; (focus (go_simp; first | done | rfl)); (try simp only [Act.put, List.getElem_toArray, List.getElem_cons_zero, List.getElem_cons_succ, List.setIfInBounds_toArray, List.set_cons_zero, List.set_cons_succ]))
        (refine Kr.tP 4 (v := ?_) rfl (by kernel_rfl) (fun _ _ _ h => h) (by rfl) (fun _ => (H.sub [1] rfl)) (fun wx => ?_) ?_; rotate_left; (focus (go_simp; first | done | rfl)); (try simp only [Act.put, List.getElem_toArray, List.getElem_cons_zero, List.getElem_cons_succ, List.setIfInBounds_toArray, List.set_cons_zero, List.set_cons_succ]))
        (refine Kr.tP 5 (v := ?_) rfl (by kernel_rfl) (fun _ _ _ h => h) (by rfl) (fun _ => (H.sub [1] rfl)) (fun wx => ?_) ?_; rotate_left; (focus (go_simp; first | done | rfl)); (try simp only [Act.put, List.getElem_toArray, List.getElem_cons_zero, List.getElem_cons_succ, List.setIfInBounds_toArray, List.set_cons_zero, List.set_cons_succ]))
        refine Kr.readyL (rs := [6]) (by kernel_rfl) (by simp) ?_
        refine Kr.AllL.cons rfl (fun K hK => ?_) Kr.AllL.nil
        go_simp
        obtain ⟨y12, hy⟩ : ∃ y, y11.alloc (.cells #[.slice none 0 0] 24) = y := ⟨_, rfl⟩
        obtain ⟨bv, hb⟩ : ∃ b, y11.heap.size = b := ⟨_, rfl⟩
        rw [hy, hb]
        replace H := H.alloc hy hb rfl
        clear hy hb
        refine hK.out _ _ (fun _ => (H.sub [2] rfl)) ?_; clear hK K
        (try simp only [Act.put, List.getElem_toArray, List.getElem_cons_zero, List.getElem_cons_succ, List.setIfInBounds_toArray, List.set_cons_zero, List.set_cons_succ])
        refine Kr.readyL (rs := [7]) (by kernel_rfl) (by simp) ?_
        refine Kr.AllL.cons rfl (fun K hK => ?_) Kr.AllL.nil
        have hk := H.c
        simp only [Kr.Cells] at hk
        go_simp
        clear hk
        obtain ⟨y13, hy⟩ : ∃ y, y12.setCell ⟨bv, 0, none⟩ (.slice pv nv cv) = y := ⟨_, rfl⟩
        rw [hy]
        replace H := H.store 0 hy rfl rfl
        dsimp only [List.set] at H
        clear hy
        refine hK.out _ _ (fun _ => (H.sub [2] rfl)) ?_; clear hK K
        (try simp only [Act.put, List.getElem_toArray, List.getElem_cons_zero, List.getElem_cons_succ, List.setIfInBounds_toArray, List.set_cons_zero, List.set_cons_succ])
        (refine Kr.tP 8 (v := ?_) rfl (by kernel_rfl) (fun _ _ _ h => h) (by rfl) (fun _ => (H.sub [2] rfl)) (fun wx => ?_) ?_; rotate_left; (focus (go_simp; first | done | rfl)); (try simp only [Act.put, List.getElem_toArray, List.getElem_cons_zero, List.getElem_cons_succ, List.setIfInBounds_toArray, List.set_cons_zero, List.set_cons_succ]))
        refine Kr.doneL (by kernel_rfl) ?_ _
        go_wp2_with fail
        go_meet
        exact ⟨_, _, _, _, _, _, _, rfl, rfl, Lib.hid H⟩
      refine Kr.AllL.cons rfl (fun K hK => ?_) Kr.AllL.nil
      go_simp
      obtain ⟨y14, hy⟩ : ∃ y, y10.alloc (.cells #[.slice none 0 0] 24) = y := ⟨_, rfl⟩
      obtain ⟨bv, hb⟩ : ∃ b, y10.heap.size = b := ⟨_, rfl⟩
      rw [hy, hb]
      replace H := H.alloc hy hb rfl
      clear hy hb
      refine hK.out _ _ (fun _ => (H.sub [2] rfl)) ?_; clear hK K
      (try simp only [Act.put, List.getElem_toArray, List.getElem_cons_zero, List.getElem_cons_succ, List.setIfInBounds_toArray, List.set_cons_zero, List.set_cons_succ])
      refine Kr.readyL (rs := [2]) (by kernel_rfl) (by simp) ?_
      refine Kr.AllL.cons rfl (fun K hK => ?_) Kr.AllL.nil
      go_simp
      go_at_call 32
      refine (mInverse_ok (H.nw 0 rfl) (H.nw 4 rfl) (by decide) m_lt (by decide) (chk_ok (H.nw 0 rfl) (H.nw 4 rfl) (nw_none _) (H.nw 4 rfl) (by decide) (by decide) m_lt m_lt)).mono ?_
      rintro e y15 ⟨z, hI, pv, nv, cv, rfl, hr, hg⟩
      rw [inv_unique hI (show IsInv 2 18446744073709551629 9223372036854775815 from ⟨by decide, by decide⟩)] at hr
      replace H := H.grow hg
      replace H := H.num hr
      clear hr hg hI
      refine hK.out _ _ (fun _ => (H.sub [2] rfl)) ?_; clear hK K
      (try simp only [Act.put, List.getElem_toArray, List.getElem_cons_zero, List.getElem_cons_succ, List.setIfInBounds_toArray, List.set_cons_zero, List.set_cons_succ])
      (refine Kr.tP 3 (v := ?_) rfl (by kernel_rfl) (fun _ _ _ h => h) (by rfl) (fun _ => (H.sub [2] rfl)) (fun wx => ?_) ?_; rotate_left; (focus (go_simp; first | done | rfl)); (try simp only [Act.put, List.getElem_toArray, List.getElem_cons_zero, List.getElem_cons_succ, List.setIfInBounds_toArray, List.set_cons_zero, List.set_cons_succ]))
      (refine Kr.tP 4 (v := ?_) rfl (by kernel_rfl) (fun _ _ _ h => h) (by rfl) (fun _ => (H.sub [2] rfl)) (fun wx => ?_) ?_; rotate_left; (focus (go_simp; first | done | rfl)); (try simp only [Act.put, List.getElem_toArray, List.getElem_cons_zero, List.getElem_cons_succ, List.setIfInBounds_toArray, List.set_cons_zero, List.set_cons_succ]))
      (refine Kr.tP 5 (v := ?_) rfl (by kernel_rfl) (fun _ _ _ h => h) (by rfl) (fun _ => (H.sub [2] rfl)) (fun wx => ?_) ?_; rotate_left; (focus (go_simp; first | done | rfl)); (try simp only [Act.put, List.getElem_toArray, List.getElem_cons_zero, List.getElem_cons_succ, List.setIfInBounds_toArray, List.set_cons_zero, List.set_cons_succ]))
      refine Kr.readyL (rs := [7]) (by kernel_rfl) (by simp) ?_
      refine Kr.AllL.cons rfl (fun K hK => ?_) Kr.AllL.nil
      have hk := H.c
      simp only [Kr.Cells] at hk
      go_simp
      clear hk
      obtain ⟨y16, hy⟩ : ∃ y, y15.setCell ⟨bv, 0, none⟩ (.slice pv nv cv) = y := ⟨_, rfl⟩
      rw [hy]
      replace H := H.store 0 hy rfl rfl
      dsimp only [List.set] at H
      clear hy
      refine hK.out _ _ (fun _ => (H.sub [2] rfl)) ?_; clear hK K
      (try simp only [Act.put, List.getElem_toArray, List.getElem_cons_zero, List.getElem_cons_succ, List.setIfInBounds_toArray, List.set_cons_zero, List.set_cons_succ])
      (refine Kr.tP 8 (v := ?_) rfl (by kernel_rfl) (fun _ _ _ h => h) (by rfl) (fun _ => (H.sub [2] rfl)) (fun wx => ?_) ?_; rotate_left; (focus (go_simp; first | done | rfl)); (try simp only [Act.put, List.getElem_toArray, List.getElem_cons_zero, List.getElem_cons_succ, List.setIfInBounds_toArray, List.set_cons_zero, List.set_cons_succ]))
      refine Kr.doneL (by kernel_rfl) ?_ _
      go_wp2_with fail
      go_meet
      exact ⟨_, _, _, _, _, _, _, rfl, rfl, Lib.hid H⟩
    refine Kr.AllL.cons rfl (fun K hK => ?_) Kr.AllL.nil
    go_simp
    obtain ⟨y17, hy⟩ : ∃ y, d9.alloc (.cells #[.slice none 0 0] 24) = y := ⟨_, rfl⟩
    obtain ⟨bv, hb⟩ : ∃ b, d9.heap.size = b := ⟨_, rfl⟩
    rw [hy, hb]
    replace H := H.alloc hy hb rfl
    clear hy hb
    refine hK.out _ _ (fun _ => (H.sub [2] rfl)) ?_; clear hK K
    (try simp only [Act.put, List.getElem_toArray, List.getElem_cons_zero, List.getElem_cons_succ, List.setIfInBounds_toArray, List.set_cons_zero, List.set_cons_succ])
    refine Kr.readyL (rs := [0]) (by kernel_rfl) (by simp) ?_
    refine Kr.AllL.cons rfl (fun K hK => ?_) Kr.AllL.nil
    go_simp
    go_at_call 38
    refine (of3_v 2 (by decide) _).mono ?_
    rintro e y18 ⟨p18, n18, c18, rfl, hr, hg⟩
    replace H := H.grow hg
    replace H := H.num hr.toNw
    clear hr hg
    refine hK.out _ _ (fun _ => (H.sub [2] rfl)) ?_; clear hK K
    (try simp only [Act.put, List.getElem_toArray, List.getElem_cons_zero, List.getElem_cons_succ, List.setIfInBounds_toArray, List.set_cons_zero, List.set_cons_succ])
    refine Kr.readyL (rs := [2]) (by kernel_rfl) (by simp) ?_
    refine Kr.AllL.cons rfl (fun K hK => ?_) Kr.AllL.nil
    go_simp
    go_at_call 32
    refine (mInverse_ok (H.nw 0 rfl) (H.nw 4 rfl) (by decide) m_lt (by decide) (chk_ok (H.nw 0 rfl) (H.nw 4 rfl) (nw_none _) (H.nw 4 rfl) (by decide) (by decide) m_lt m_lt)).mono ?_
    rintro e y19 ⟨z, hI, pv, nv, cv, rfl, hr, hg⟩
    rw [inv_unique hI (show IsInv 2 18446744073709551629 9223372036854775815 from ⟨by decide, by decide⟩)] at hr
    replace H := H.grow hg
    replace H := H.num hr
    clear hr hg hI
    refine hK.out _ _ (fun _ => (H.sub [2] rfl)) ?_; clear hK K
    (try simp only [Act.put, List.getElem_toArray, List.getElem_cons_zero, List.getElem_cons_succ, List.setIfInBounds_toArray, List.set_cons_zero, List.set_cons_succ])
    (refine Kr.tP 3 (v := ?_) rfl (by kernel_rfl) (fun _ _ _ h => h) (by rfl) (fun _ => (H.sub [2] rfl)) (fun wx => ?_) ?_; rotate_left; (focus (go_simp; first | done | rfl)); (try simp only [Act.put, List.getElem_toArray, List.getElem_cons_zero, List.getElem_cons_succ, List.setIfInBounds_toArray, List.set_cons_zero, List.set_cons_succ]))
    (refine Kr.tP 4 (v := ?_) rfl (by kernel_rfl) (fun _ _ _ h => h) (by rfl) (fun _ => (H.sub [2] rfl)) (fun wx => ?_) ?_; rotate_left; (focus (go_simp; first | done | rfl)); (try simp only [Act.put, List.getElem_toArray, List.getElem_cons_zero, List.getElem_cons_succ, List.setIfInBounds_toArray, List.set_cons_zero, List.set_cons_succ]))
    (refine Kr.tP 5 (v := ?_) rfl (by kernel_rfl) (fun _ _ _ h => h) (by rfl) (fun _ => (H.sub [2] rfl)) (fun wx => ?_) ?_; rotate_left; (focus (go_simp; first | done | rfl)); (try simp only [Act.put, List.getElem_toArray, List.getElem_cons_zero, List.getElem_cons_succ, List.setIfInBounds_toArray, List.set_cons_zero, List.set_cons_succ]))
    refine Kr.readyL (rs := [7]) (by kernel_rfl) (by simp) ?_
    refine Kr.AllL.cons rfl (fun K hK => ?_) Kr.AllL.nil
    have hk := H.c
    simp only [Kr.Cells] at hk
    go_simp
    clear hk
    obtain ⟨y20, hy⟩ : ∃ y, y19.setCell ⟨bv, 0, none⟩ (.slice pv nv cv) = y := ⟨_, rfl⟩
    rw [hy]
    replace H := H.store 0 hy rfl rfl
    dsimp only [List.set] at H
    clear hy
    refine hK.out _ _ (fun _ => (H.sub [2] rfl)) ?_; clear hK K
    (try simp only [Act.put, List.getElem_toArray, List.getElem_cons_zero, List.getElem_cons_succ, List.setIfInBounds_toArray, List.set_cons_zero, List.set_cons_succ])
    (refine Kr.tP 8 (v := ?_) rfl (by kernel_rfl) (fun _ _ _ h => h) (by rfl) (fun _ => (H.sub [2] rfl)) (fun wx => ?_) ?_; rotate_left; (focus (go_simp; first | done | rfl)); (try simp only [Act.put, List.getElem_toArray, List.getElem_cons_zero, List.getElem_cons_succ, List.setIfInBounds_toArray, List.set_cons_zero, List.set_cons_succ]))
    refine Kr.doneL (by kernel_rfl) ?_ _
    go_wp2_with fail
    go_meet
    exact ⟨_, _, _, _, _, _, _, rfl, rfl, Lib.hid H⟩
  case rest =>
    clear H
    obtain ⟨bv, pv, nv, cv, p18, n18, c18, rfl, rfl, HH⟩ := hcut
    have H := HH.out
    clear HH
    go_upto_region 4 with fail
    refine Kr.seqStart ?_
    refine Kr.seqS (fun K hK => ?_)
    go_simp
    go_at_call 38
    refine (of3_v 2 (by decide) _).mono ?_
    rintro e y21 ⟨p21, n21, c21, rfl, hr, hg⟩
    replace H := H.grow hg
    replace H := H.num hr.toNw
    clear hr hg
    refine hK.out _ _ ?_; clear hK K
    (try simp only [Act.put, List.getElem_toArray, List.getElem_cons_zero, List.getElem_cons_succ, List.setIfInBounds_toArray, List.set_cons_zero, List.set_cons_succ])
    refine Kr.seqS (fun K hK => ?_)
    go_simp
    go_at_call 38
    refine (of3_v 3 (by decide) _).mono ?_
    rintro e y22 ⟨p22, n22, c22, rfl, hr, hg⟩
    replace H := H.grow hg
    replace H := H.num hr.toNw
    clear hr hg
    refine hK.out _ _ ?_; clear hK K
    (try simp only [Act.put, List.getElem_toArray, List.getElem_cons_zero, List.getElem_cons_succ, List.setIfInBounds_toArray, List.set_cons_zero, List.set_cons_succ])
    refine Kr.seqS (fun K hK => ?_)
    go_simp
    go_at_call 38
    refine (of3_v 3 (by decide) _).mono ?_
    rintro e y23 ⟨p23, n23, c23, rfl, hr, hg⟩
    replace H := H.grow hg
    replace H := H.num hr.toNw
    clear hr hg
    refine hK.out _ _ ?_; clear hK K
    (try simp only [Act.put, List.getElem_toArray, List.getElem_cons_zero, List.getElem_cons_succ, List.setIfInBounds_toArray, List.set_cons_zero, List.set_cons_succ])
    refine Kr.seqS (fun K hK => ?_)
    go_simp
    go_at_call 38
    refine (of3_v 5 (by decide) _).mono ?_
    rintro e y24 ⟨p24, n24, c24, rfl, hr, hg⟩
    replace H := H.grow hg
    replace H := H.num hr.toNw
    clear hr hg
    refine hK.out _ _ ?_; clear hK K
    (try simp only [Act.put, List.getElem_toArray, List.getElem_cons_zero, List.getElem_cons_succ, List.setIfInBounds_toArray, List.set_cons_zero, List.set_cons_succ])
    refine Kr.seqS (fun K hK => ?_)
    go_simp
    go_at_call 35
    refine (mCrt_ok (H.nw 3 rfl) (H.nw 2 rfl) (H.nw 1 rfl) (H.nw 0 rfl) (by decide) (by decide) (s_lt (by decide)) (s_lt (by decide)) (by decide) (s_lt (by decide))).mono ?_
    rintro e y25 ⟨z, hI, pc, nc, cc, rfl, hr, hg⟩
    rw [inv_unique hI (show IsInv (3 % 5) 5 2 from ⟨by decide, by decide⟩)] at hr
    rw [show 2 + 3 * ((3 + 5 - 2 % 5) % 5 * 2 % 5) = 8 from by decide] at hr
    replace H := H.grow hg
    replace H := H.num hr
    clear hr hg hI
    refine hK.out _ _ ?_; clear hK K
    (try simp only [Act.put, List.getElem_toArray, List.getElem_cons_zero, List.getElem_cons_succ, List.setIfInBounds_toArray, List.set_cons_zero, List.set_cons_succ])
    iterate 3 (refine Kr.seqP (v := ?_) (by rfl) ?_ ?_; rotate_left; (focus (go_simp; first | done | rfl)); (try simp only [Act.put, List.getElem_toArray, List.getElem_cons_zero, List.getElem_cons_succ, List.setIfInBounds_toArray, List.set_cons_zero, List.set_cons_succ]))
    refine Kr.seqS (fun K hK => ?_)
    go_simp
    obtain ⟨y26, hy⟩ : ∃ y, y25.alloc (.cells #[.slice none 0 0] 24) = y := ⟨_, rfl⟩
    obtain ⟨bc, hb⟩ : ∃ b, y25.heap.size = b := ⟨_, rfl⟩
    rw [hy, hb]
    replace H := H.alloc hy hb rfl
    clear hy hb
    refine hK.out _ _ ?_; clear hK K
    (try simp only [Act.put, List.getElem_toArray, List.getElem_cons_zero, List.getElem_cons_succ, List.setIfInBounds_toArray, List.set_cons_zero, List.set_cons_succ])
    have hk := H.c
    simp only [Kr.Cells] at hk
    refine Kr.seqS (fun K hK => ?_)
    go_simp
    clear hk
    obtain ⟨y27, hy⟩ : ∃ y, y26.setCell ⟨bc, 0, none⟩ (.slice pc nc cc) = y := ⟨_, rfl⟩
    rw [hy]
    replace H := H.store 0 hy rfl rfl
    dsimp only [List.set] at H
    clear hy
    refine hK.out _ _ ?_; clear hK K
    (try simp only [Act.put, List.getElem_toArray, List.getElem_cons_zero, List.getElem_cons_succ, List.setIfInBounds_toArray, List.set_cons_zero, List.set_cons_succ])
    (refine Kr.seqP (v := ?_) (by rfl) ?_ ?_; rotate_left; (focus (go_simp; first | done | rfl)); (try simp only [Act.put, List.getElem_toArray, List.getElem_cons_zero, List.getElem_cons_succ, List.setIfInBounds_toArray, List.set_cons_zero, List.set_cons_succ]))
    refine Kr.seqDone ?_
    go_upto_region 5 with fail
    refine Kr.seqStart ?_
    iterate 4 (refine Kr.seqP (v := ?_) (by rfl) ?_ ?_; rotate_left; (focus (go_simp; first | done | rfl)); (try simp only [Act.put, List.getElem_toArray, List.getElem_cons_zero, List.getElem_cons_succ, List.setIfInBounds_toArray, List.set_cons_zero, List.set_cons_succ]))
    have hk := H.c
    simp only [Kr.Cells] at hk
    (refine Kr.seqP (v := ?_) (by rfl) ?_ ?_; rotate_left; (focus (go_simp; first | done | rfl)); (try simp only [Act.put, List.getElem_toArray, List.getElem_cons_zero, List.getElem_cons_succ, List.setIfInBounds_toArray, List.set_cons_zero, List.set_cons_succ]))
    refine Kr.seqS (fun K hK => ?_)
    go_simp
    clear hk
    obtain ⟨y28, hy⟩ : ∃ y, y27.alloc (.cells #[.int .u32 0, .int .u32 0, .int .u32 1] 50) = y := ⟨_, rfl⟩
    obtain ⟨by28, hb⟩ : ∃ b, y27.heap.size = b := ⟨_, rfl⟩
    rw [hy, hb]
    have hr : Nw y28 (some ⟨by28, 0, none⟩) 3 3 (digs 18446744073709551616) := lit_mk ex_s hy hb
    have hg : Gr y27 y28 := hy ▸ (Gr.refl _).alloc _
    replace H := H.grow hg
    replace H := H.num hr
    clear hr hg hy hb
    refine hK.out _ _ ?_; clear hK K
    (try simp only [Act.put, List.getElem_toArray, List.getElem_cons_zero, List.getElem_cons_succ, List.setIfInBounds_toArray, List.set_cons_zero, List.set_cons_succ])
    refine Kr.seqS (fun K hK => ?_)
    go_simp
    go_at_call 46
    refine (Equal_v (H.nw 8 rfl) (H.nw 0 rfl)).mono ?_
    rintro e y29 ⟨rfl, hg⟩
    replace H := H.grow hg
    clear hg
    refine hK.out _ _ ?_; clear hK K
    (try simp only [Act.put, List.getElem_toArray, List.getElem_cons_zero, List.getElem_cons_succ, List.setIfInBounds_toArray, List.set_cons_zero, List.set_cons_succ])
    iterate 7 (refine Kr.seqP (v := ?_) (by rfl) ?_ ?_; rotate_left; (focus (go_simp; first | done | rfl)); (try simp only [Act.put, List.getElem_toArray, List.getElem_cons_zero, List.getElem_cons_succ, List.setIfInBounds_toArray, List.set_cons_zero, List.set_cons_succ]))
    have hk := H.c
    simp only [Kr.Cells] at hk
    (refine Kr.seqP (v := ?_) (by rfl) ?_ ?_; rotate_left; (focus (go_simp; first | done | rfl)); (try simp only [Act.put, List.getElem_toArray, List.getElem_cons_zero, List.getElem_cons_succ, List.setIfInBounds_toArray, List.set_cons_zero, List.set_cons_succ]))
    refine Kr.seqS (fun K hK => ?_)
    go_simp
    clear hk
    obtain ⟨y30, hy⟩ : ∃ y, y29.alloc (.cells #[.int .u32 7, .int .u32 2147483648] 50) = y := ⟨_, rfl⟩
    obtain ⟨by30, hb⟩ : ∃ b, y29.heap.size = b := ⟨_, rfl⟩
    rw [hy, hb]
    have hr : Nw y30 (some ⟨by30, 0, none⟩) 2 2 (digs 9223372036854775815) := lit_mk ex_v hy hb
    have hg : Gr y29 y30 := hy ▸ (Gr.refl _).alloc _
    replace H := H.grow hg
    replace H := H.num hr
    clear hr hg hy hb
    refine hK.out _ _ ?_; clear hK K
    (try simp only [Act.put, List.getElem_toArray, List.getElem_cons_zero, List.getElem_cons_succ, List.setIfInBounds_toArray, List.set_cons_zero, List.set_cons_succ])
    refine Kr.seqS (fun K hK => ?_)
    go_simp
    go_at_call 46
    refine (Equal_v (H.nw 7 rfl) (H.nw 0 rfl)).mono ?_
    rintro e y31 ⟨rfl, hg⟩
    replace H := H.grow hg
    clear hg
    refine hK.out _ _ ?_; clear hK K
    (try simp only [Act.put, List.getElem_toArray, List.getElem_cons_zero, List.getElem_cons_succ, List.setIfInBounds_toArray, List.set_cons_zero, List.set_cons_succ])
    iterate 7 (refine Kr.seqP (v := ?_) (by rfl) ?_ ?_; rotate_left; (focus (go_simp; first | done | rfl)); (try simp only [Act.put, List.getElem_toArray, List.getElem_cons_zero, List.getElem_cons_succ, List.setIfInBounds_toArray, List.set_cons_zero, List.set_cons_succ]))
    have hk := H.c
    simp only [Kr.Cells] at hk
    (refine Kr.seqP (v := ?_) (by rfl) ?_ ?_; rotate_left; (focus (go_simp; first | done | rfl)); (try simp only [Act.put, List.getElem_toArray, List.getElem_cons_zero, List.getElem_cons_succ, List.setIfInBounds_toArray, List.set_cons_zero, List.set_cons_succ]))
    refine Kr.seqS (fun K hK => ?_)
    go_simp
    clear hk
    obtain ⟨y32, hy⟩ : ∃ y, y31.alloc (.cells #[.int .u32 8] 50) = y := ⟨_, rfl⟩
    obtain ⟨by32, hb⟩ : ∃ b, y31.heap.size = b := ⟨_, rfl⟩
    rw [hy, hb]
    have hr : Nw y32 (some ⟨by32, 0, none⟩) 1 1 (digs 8) := lit_mk ex_8 hy hb
    have hg : Gr y31 y32 := hy ▸ (Gr.refl _).alloc _
    replace H := H.grow hg
    replace H := H.num hr
    clear hr hg hy hb
    refine hK.out _ _ ?_; clear hK K
    (try simp only [Act.put, List.getElem_toArray, List.getElem_cons_zero, List.getElem_cons_succ, List.setIfInBounds_toArray, List.set_cons_zero, List.set_cons_succ])
    refine Kr.seqS (fun K hK => ?_)
    go_simp
    go_at_call 46
    refine (Equal_v (H.nw 3 rfl) (H.nw 0 rfl)).mono ?_
    rintro e y33 ⟨rfl, hg⟩
    replace H := H.grow hg
    clear hg
    refine hK.out _ _ ?_; clear hK K
    (try simp only [Act.put, List.getElem_toArray, List.getElem_cons_zero, List.getElem_cons_succ, List.setIfInBounds_toArray, List.set_cons_zero, List.set_cons_succ])
    iterate 2 (refine Kr.seqP (v := ?_) (by rfl) ?_ ?_; rotate_left; (focus (go_simp; first | done | rfl)); (try simp only [Act.put, List.getElem_toArray, List.getElem_cons_zero, List.getElem_cons_succ, List.setIfInBounds_toArray, List.set_cons_zero, List.set_cons_succ]))
    refine Kr.seqDone ?_
    go_wp2
    go_ret
    exact ⟨rfl, H.g⟩
end Go.Proofs.Ytlciocebbckdcaa.Mr
