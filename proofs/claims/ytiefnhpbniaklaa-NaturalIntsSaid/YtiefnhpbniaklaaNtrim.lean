/- The contracts of natural's Valid, trim, fit, Bits, Bit over this seat's translation. -/
import Derived.Test.YtiefnhpbniaklaaNmem
namespace Go.Proofs.Ytiefnhpbniaklaa.Nf
open Go.RowKit Go.Proofs.Ytiefnhpbniaklaa.Nm Go.Proofs.Ytiefnhpbniaklaa.Ne

theorem ret_slice {p : Option Addr} {a b c : Nat} (h : a = b) : Ending.returned (.slice p a c) = .returned (.slice p b c) := by rw [h]
theorem ret_bool {a b : Bool} (h : a = b) : Ending.returned (.bool a) = .returned (.bool b) := by rw [h]

set_option maxHeartbeats 1000000 in
theorem trim_any (p : Option Addr) (l : List Nat) (cap : Nat) (hn : l.length ≤ cap) (hcap : l.length ≤ 1099511627776) (w : World) (h : Rd w p l) :
    Calls Try.prog 96 #[.slice p l.length cap] w fun e w' => e = .returned (.slice p (trim l).length cap) ∧ w' = w := by
  have H := Lib.hid h
  clear h
  go_enter Try.func96, Try.ntmps96
  go_wp2
  go_loop [3] (fun s => ∃ k : Nat, k ≤ l.length ∧ s = .int .i64 k ∧ Hid (∀ i, k ≤ i → l[i]?.getD 0 = 0)) (fun s => (intOf s).toNat)
  case atStart => exact ⟨l.length, Nat.le_refl _, rfl, fun i hi => by rw [List.getElem?_eq_none hi]; rfl⟩
  case round =>
    obtain ⟨k, hk, rfl, hz⟩ := hrel
    by_cases hk0 : k = 0
    · subst hk0
      go_wp2
      go_ret
      have e := trim_of_take l 0 (Nat.zero_le _) hz.out (fun h => absurd h (Nat.lt_irrefl 0))
      exact ⟨ret_slice (by rw [e]; simp), rfl⟩
    · obtain ⟨j, rfl⟩ : ∃ j, k = j + 1 := ⟨k - 1, by omega⟩
      clear hk0
      obtain ⟨b, off, rfl, hc⟩ := H.out.at (by omega)
      have hcj := hc j (by omega)
      clear hc
      obtain ⟨x, hx⟩ : ∃ x, l[j]?.getD 0 = x := ⟨_, rfl⟩
      rw [hx] at hcj
      have HX := Lib.hid hx
      clear hx
      by_cases hx0 : x = 0
      · subst hx0
        go_wp2
        go_round
        case rel => exact ⟨j, by omega, by go_num, fun i hi => by
          by_cases hij : i = j
          · subst hij; exact HX.out
          · exact hz.out i (by omega)⟩
        case measure => simp [intOf]
      · have hx1 : ((x : Int) == 0) = false := by simp; omega
        go_wp2
        go_ret
        have e := trim_of_take l (j + 1) hk hz.out (fun _ => by rw [Nat.add_sub_cancel, HX.out]; exact hx0)
        exact ⟨ret_slice (by rw [e, List.length_take]; omega), rfl⟩

theorem valid_long {l : List Nat} (h : 64 < l.length) : decide (valid l) = false := decide_eq_false fun hv => by have := hv.1; omega
theorem valid_nil : decide (valid []) = true := by decide
theorem valid_last {l : List Nat} (h : l.length ≤ 64) (h0 : 0 < l.length) : decide (valid l) = decide (l[l.length - 1]?.getD 0 ≠ 0) := by
  apply decide_eq_decide.2
  unfold valid Nm.tight
  constructor
  · rintro ⟨_, h1 | h1⟩
    · omega
    · exact h1
  · exact fun h1 => ⟨h, .inr h1⟩

set_option maxHeartbeats 1000000 in
theorem Valid_any (p : Option Addr) (l : List Nat) (cap : Nat) (hcap : l.length ≤ 1099511627776) (w : World) (h : Rd w p l) :
    Calls Try.prog 25 #[.agg #[.slice p l.length cap]] w fun e w' => e = .returned (.bool (decide (valid l))) ∧ Gr w w' := by
  have H := Lib.hid h
  clear h
  by_cases h64 : 64 < l.length
  · have HV := Lib.hid (valid_long h64)
    go_enter Try.func25, Try.ntmps25
    go_wp2
    go_ret
    exact ⟨ret_bool HV.out.symm, (Gr.refl _).alloc _⟩
  by_cases h0 : l.length = 0
  · obtain rfl := List.length_eq_zero_iff.1 h0
    clear h0
    simp only [List.length_nil] at *
    go_enter Try.func25, Try.ntmps25
    go_wp2
    go_ret
    exact ⟨ret_bool valid_nil.symm, (Gr.refl _).alloc _⟩
  obtain ⟨b, off, rfl, hc⟩ := H.out.at (by omega)
  have hcj := hc (l.length - 1) (by omega)
  have HV := Lib.hid (valid_last (l := l) (by omega) (by omega))
  obtain ⟨x, hx⟩ : ∃ x, l[l.length - 1]?.getD 0 = x := ⟨_, rfl⟩
  rw [hx] at hcj HV
  clear hx hc H
  generalize hn : l.length = n at *
  obtain ⟨j, rfl⟩ : ∃ j, n = j + 1 := ⟨n - 1, by omega⟩
  clear hn h0
  rw [Nat.add_sub_cancel] at hcj
  have hj0 : ((j : Int) + 1 == 0) = false := by simp; omega
  have hb : b < w.heap.size := World.block_lt_of_cell? w _ hcj
  by_cases hx0 : x = 0
  · subst hx0
    go_enter Try.func25, Try.ntmps25
    go_wp2
    go_ret
    exact ⟨ret_bool (by rw [HV.out]; rfl), (Gr.refl _).alloc _⟩
  · have hx1 : ((x : Int) == 0) = false := by simp; omega
    have hx2 : ((x : Int) != 0) = true := by simp; omega
    have HX := Lib.hid hx0
    clear hx0
    go_enter Try.func25, Try.ntmps25
    go_wp2
    go_ret
    exact ⟨ret_bool (by rw [HV.out, decide_eq_true HX.out]), (Gr.refl _).alloc _⟩

set_option maxHeartbeats 1000000 in
/-- Words that fit. -/
theorem fit_ok (p : Option Addr) (l : List Nat) (cap : Nat) (hn : l.length ≤ cap) (hcap : l.length ≤ 1099511627776) (w : World) (h : Rd w p l) (h64 : (trim l).length ≤ 64) :
    Calls Try.prog 84 #[.slice p l.length cap] w fun e w' => e = .returned (.tuple #[.agg #[.slice p (trim l).length cap], .int .i64 0]) ∧ Gr w w' := by
  have H := Lib.hid (fun w h => trim_any p l cap hn hcap w h)
  have HR := Lib.hid h
  have ht := trim_length_le l
  clear h
  go_enter Try.func84, Try.ntmps84
  go_wp2_with fail
  refine (H.out _ (((Gr.refl _).alloc _).rd HR.out)).mono ?_
  rintro e w' ⟨rfl, rfl⟩
  go_wp2
  exact bodyPost_ret (v := .tuple #[.agg #[.slice p (trim l).length cap], .int .i64 0]) (by simp [results, Try.results84, go_sem]) rfl ⟨rfl, (Gr.refl _).alloc _⟩
set_option maxHeartbeats 1000000 in
theorem fit_big (p : Option Addr) (l : List Nat) (cap : Nat) (hn : l.length ≤ cap) (hcap : l.length ≤ 1099511627776) (w : World) (h : Rd w p l) (h64 : 64 < (trim l).length) :
    Calls Try.prog 84 #[.slice p l.length cap] w fun e w' => e = .returned (.tuple #[.agg #[.slice none 0 0], .int .i64 9]) ∧ Gr w w' := by
  have H := Lib.hid (fun w h => trim_any p l cap hn hcap w h)
  have HR := Lib.hid h
  have ht := trim_length_le l
  clear h
  go_enter Try.func84, Try.ntmps84
  go_wp2_with fail
  refine (H.out _ (((Gr.refl _).alloc _).rd HR.out)).mono ?_
  rintro e w' ⟨rfl, rfl⟩
  go_wp2
  exact bodyPost_ret (v := .tuple #[.agg #[.slice none 0 0], .int .i64 9]) (by simp [results, Try.results84, go_sem]) rfl ⟨rfl, (Gr.refl _).alloc _⟩

/-- The number of bits of words. -/
def nbits (l : List Nat) : Nat := if l = [] then 0 else 32 * (l.length - 1) + Lib.bitLen (l[l.length - 1]?.getD 0)

set_option maxHeartbeats 1000000 in
theorem Bits_bad (p : Option Addr) (l : List Nat) (cap : Nat) (hcap : l.length ≤ 1099511627776) (w : World) (h : Rd w p l) (hv : decide (valid l) = false) :
    Calls Try.prog 28 #[.agg #[.slice p l.length cap]] w fun e w' => e = .returned (.int .i64 0) ∧ Gr w w' := by
  have H := Lib.hid (fun w h => Valid_any p l cap hcap w h)
  have HR := Lib.hid h
  have HV := Lib.hid hv
  clear h hv
  go_enter Try.func28, Try.ntmps28
  go_wp2_with fail
  refine (H.out _ (((Gr.refl _).alloc _).rd HR.out)).mono ?_
  rintro e w1 ⟨rfl, hg⟩
  rw [HV.out]
  go_wp2
  go_ret
  exact ⟨rfl, ((Gr.refl _).alloc _).trans hg⟩
set_option maxHeartbeats 1000000 in
theorem Bits_ok (p : Option Addr) (l : List Nat) (cap : Nat) (w : World) (h : Rd w p l) (hv : decide (valid l) = true) (hok : ok l) :
    Calls Try.prog 28 #[.agg #[.slice p l.length cap]] w fun e w' => e = .returned (.int .i64 (nbits l)) ∧ Gr w w' := by
  have h64 := (of_decide_eq_true hv).1
  have H := Lib.hid (fun w h => Valid_any p l cap (by omega) w h)
  have HR := Lib.hid h
  have HV := Lib.hid hv
  clear h hv
  by_cases h0 : l.length = 0
  · obtain rfl := List.length_eq_zero_iff.1 h0
    clear h0 h64
    simp only [List.length_nil] at *
    go_enter Try.func28, Try.ntmps28
    go_wp2_with fail
    refine (H.out _ (((Gr.refl _).alloc _).rd HR.out)).mono ?_
    rintro e w1 ⟨rfl, hg⟩
    rw [HV.out]
    have hcell := hg.cell (World.cell?_alloc_new (w := w) #[.slice p 0 cap] 24 0)
    go_wp2
    go_ret
    exact ⟨rfl, ((Gr.refl _).alloc _).trans hg⟩
  · obtain ⟨b, off, rfl, hc⟩ := HR.out.at (by omega)
    have hcj := hc (l.length - 1) (by omega)
    have HN : Hid (nbits l = 32 * (l.length - 1) + Lib.bitLen (l[l.length - 1]?.getD 0)) := Lib.hid (by unfold nbits; rw [if_neg (fun e => h0 (by rw [e]; rfl))])
    have hx1 := ok_get hok (l.length - 1)
    have hl := Lib.bitLen_le (l[l.length - 1]?.getD 0) 32 (by omega) (by omega)
    obtain ⟨x, hx⟩ : ∃ x, l[l.length - 1]?.getD 0 = x := ⟨_, rfl⟩
    rw [hx] at hcj HN hx1 hl
    clear hx hc hok
    generalize nbits l = N at *
    generalize hn : l.length = n at *
    obtain ⟨j, rfl⟩ : ∃ j, n = j + 1 := ⟨n - 1, by omega⟩
    clear hn h0
    rw [Nat.add_sub_cancel] at hcj HN
    have hj0 : ((j : Int) + 1 == 0) = false := by simp; omega
    have HL := Lib.hid (fun w => Nb.len32 (x : Int) w (by omega) (by omega))
    simp only [Int.toNat_natCast] at HL
    generalize Lib.bitLen x = B at *
    go_enter Try.func28, Try.ntmps28
    go_wp2_with fail
    refine (H.out _ (((Gr.refl _).alloc _).rd HR.out)).mono ?_
    rintro e w1 ⟨rfl, hg⟩
    rw [HV.out]
    have hcell := hg.cell (World.cell?_alloc_new (w := w) #[.slice (some ⟨b, off, none⟩) (j + 1) cap] 24 0)
    have hcj1 := (((Gr.refl w).alloc _).trans hg).cell hcj
    clear hcj
    go_wp2_with fail
    refine (HL.out _).mono ?_
    rintro e w2 ⟨rfl, rfl⟩
    go_wp2
    go_ret
    exact ⟨congrArg Ending.returned (congrArg (Value.int IntKind.i64) (by rw [HN.out]; omega)), ((Gr.refl _).alloc _).trans hg⟩
end Go.Proofs.Ytiefnhpbniaklaa.Nf
