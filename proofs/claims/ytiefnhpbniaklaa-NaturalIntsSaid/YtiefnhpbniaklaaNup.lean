/- The contract of natural's up: words times a power of 2. -/
import Derived.Test.YtiefnhpbniaklaaNprod
namespace Go.Proofs.Ytiefnhpbniaklaa.Ne
open Go.RowKit Go.Proofs.Ytiefnhpbniaklaa.Nm

theorem infoW : (Try.prog.info? 62).map (fun i => (i.zero, i.size, i.bytes)) = some (some (.int .u32 0), 1, 4) := by kernel_rfl
/-- What make has made: zero words. -/
theorem hold_made {w : World} {B g n cap : Nat} (h : w.ownsRow B 62 1 (.slice (some ⟨g, 0, none⟩) n cap) n (madeCells (Value.int .u32 0).cells (n * 1)).toList) : Hold w g 0 (List.replicate n 0) := by
  intro i hi
  rw [List.length_replicate] at hi
  have h1 := h.cellAt i (by omega)
  have h2 := h.frozenAt i
  rw [Nat.zero_add]
  refine ⟨?_, h2⟩
  rw [h1]
  simp [madeCells, Value.cells, hi]
  rw [Nat.mod_one]
  rfl
theorem Gr.grown {w w' : World} (h : w.grownBy w' none) : Gr w w' := ⟨h.os, h.tape, h.output, h.size, fun k hk => h.block k hk (by simp)⟩

/-- A slice of the call's own, from the head of a block. -/
def Made (B : Nat) (l : List Nat) (w : World) (v : Value) : Prop := ∃ g cap, v = .slice (some ⟨g, 0, none⟩) l.length cap ∧ l.length ≤ cap ∧ cap ≤ 1099511627776 ∧ B ≤ g ∧ Hold w g 0 l

def UpAt (l : List Nat) (n : Nat) (w : World) (e : Ending) (w' : World) : Prop :=
  ∃ (g : Nat) (r : List Nat) (cap : Nat), e = .returned (.slice (some ⟨g, 0, none⟩) r.length cap) ∧ r.length = l.length + n / 32 + 1 ∧ r.length ≤ cap ∧ cap ≤ 2199023255552 ∧ ok r ∧ val r = val l * 2 ^ n ∧ w.heap.size ≤ g ∧ Hold w' g 0 r ∧ Gr w w'

set_option maxRecDepth 100000 in
set_option maxHeartbeats 4000000 in
theorem up_any (p : Option Addr) (l : List Nat) (cap : Nat) (n : Nat) (hl : l.length ≤ 1048576) (hn : n ≤ 10000) (hok : ok l) (w : World) (h : Rd w p l) :
    Calls Try.prog 98 #[.slice p l.length cap, .int .i64 n] w (UpAt l n w) := by
  obtain ⟨i0, hi, hz0, hz1, hz2⟩ := info_parts infoW
  have HR := Lib.hid h
  have HK := Lib.hid hok
  clear h hok
  obtain ⟨sk, hsk⟩ : ∃ sk : Nat, n / 32 = sk := ⟨_, rfl⟩
  obtain ⟨tn, htn⟩ : ∃ tn : Nat, n % 32 = tn := ⟨_, rfl⟩
  have d1 : (n : Int) / 32 = (sk : Int) := by omega
  have d2 : (n : Int) % 32 = (tn : Int) := by omega
  have b1 : tn < 32 := by omega
  have b2 : sk ≤ 312 := by omega
  have HN : Hid (n = 32 * sk + tn) := Lib.hid (by omega)
  have HSK := Lib.hid hsk
  clear hsk htn
  go_enter Try.func98, Try.ntmps98
  go_wp2_with (refine wpList_make_full _ rfl _ _ _ rfl w.heap.size 62 i0 (.int .u32 0) 1 Try.underlying22 hi hz0 hz1 .i64 .i64 _ _ (l.length + sk + 1) rfl rfl (by omega) (by omega) (by rw [hz2]; omega) (by unfold maxLen; omega) (Nat.le_refl _) ?_; intro w1 hown hgrow)
  have q1 : (sk : Int) ≤ (l.length : Int) + (sk : Int) + 1 := by omega
  have q2 : (l.length + sk + 1 = sk) = False := eq_false (by omega)
  have q3 : l.length + sk + 1 - sk = l.length + 1 := by omega
  have q4 : (0 : Int) ≤ (tn : Int) := by omega
  go_still_tail 6, (by kernel_rfl)
  have G2 : Gr w w1 := Gr.grown hgrow
  have hh := hold_made hown
  clear hown hgrow q1 q2 q3 q4
  change wpList _ _ _ _ _ w1.drew
  have G3 : Gr w w1.drew := G2.drew
  have hh3 : Hold w1.drew w.heap.size 0 (List.replicate (l.length + sk + 1) 0) := hh
  clear G2 hh
  generalize w1.drew = w2 at *
  have HG := Lib.hid G3
  rw [show l.length + sk + 1 = sk + (l.length + 1) by omega, ← List.replicate_append_replicate, Hold.append, List.length_replicate, Nat.zero_add] at hh3
  have HH := Lib.hid hh3
  clear hh3 G3
  have hp2 : (2 : Int) ^ tn % 4294967296 = ((2 ^ tn : Nat) : Int) := by
    have : 2 ^ tn < 2 ^ 32 := Nat.pow_lt_pow_right (by decide) b1
    have e : ((2 ^ tn : Nat) : Int) = (2 : Int) ^ tn := by rw [Int.natCast_pow]; rfl
    rw [← e]
    generalize 2 ^ tn = X at *
    omega
  have HP := Lib.hid hp2
  have hlt : 2 ^ tn < 4294967296 := Nat.pow_lt_pow_right (n := 32) (by decide) b1
  clear hp2
  go_wp2_with fail
  rw [HP.out]
  refine (addProduct_n w.heap.size sk (l.length + 1) (List.replicate (l.length + 1) 0) (l.length + 1) p l.length l cap (2 ^ tn) (by simp) rfl hlt (ok_replicate _) HK.out (by omega) (by omega) w2 HH.out.2 (RdN.of HR.out HG.out (Nat.le_refl _))).mono ?_
  rintro e w3 ⟨c, r, rfl, hrl, hro, hrh, hv, hc, hw⟩
  have HRH := Lib.hid hrh
  have HV := Lib.hid hv
  clear hrh hv HP hlt
  go_wp2
  go_ret
  rw [List.length_replicate] at hrl
  have hv := HV.out
  rw [val_replicate, List.length_replicate, Nat.zero_add] at hv
  have hlt2 : val l * 2 ^ tn < pw (l.length + 1) := by
    have h1 := val_lt HK.out
    have h2 : 2 ^ tn ≤ 4294967296 := Nat.pow_le_pow_right (n := 2) (by decide) (show tn ≤ 32 by omega)
    simp only [pw]
    have h3 : val l * 2 ^ tn ≤ val l * 4294967296 := Nat.mul_le_mul_left _ h2
    omega
  have hc0 : c = 0 := by
    rcases Nat.eq_zero_or_pos c with h | h
    · exact h
    · have := Nat.le_mul_of_pos_right (pw (l.length + 1)) h
      generalize val l * 2 ^ tn = X at *
      omega
  subst hc0
  refine ⟨w.heap.size, List.replicate sk 0 ++ r, l.length + sk + 1, ?_, ?_, ?_, ?_, ?_, ?_, Nat.le_refl _, ?_, Wr.gr HG.out hw (Nat.le_refl _)⟩
  · show Ending.returned (.slice (some ⟨w.heap.size, 0, none⟩) (l.length + sk + 1) (l.length + sk + 1)) = _
    rw [List.length_append, List.length_replicate, hrl, show sk + (l.length + 1) = l.length + sk + 1 by omega]
  · rw [List.length_append, List.length_replicate, hrl, HSK.out]; omega
  · rw [List.length_append, List.length_replicate, hrl]; omega
  · omega
  · exact ok_append.2 ⟨ok_replicate _, hro⟩
  · rw [val_append, val_replicate, List.length_replicate, Nat.zero_add, pw_eq, HN.out, Nat.pow_add]
    rw [Nat.mul_zero, Nat.add_zero] at hv
    rw [hv, Nat.mul_left_comm, Nat.mul_comm (2 ^ (32 * sk))]
  · refine Hold.append.2 ⟨HH.out.1.wr hw (by simp), ?_⟩
    rw [List.length_replicate, Nat.zero_add]
    exact HRH.out
end Go.Proofs.Ytiefnhpbniaklaa.Ne
