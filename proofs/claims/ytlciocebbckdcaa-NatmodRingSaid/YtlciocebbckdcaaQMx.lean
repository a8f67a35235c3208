/- More on first: a number that is a residue; no numbers at all. -/
import Derived.Test.YtlciocebbckdcaaPk5
namespace Go.Proofs.Ytlciocebbckdcaa.Mr
open Go.RowKit Go.Shelf Go.Proofs.Ytlciocebbckdcaa.Nm Go.Proofs.Ytlciocebbckdcaa.Ne Go.Proofs.Ytlciocebbckdcaa.Nf Go.Proofs.Ytlciocebbckdcaa.Nk Go.Proofs.Ytlciocebbckdcaa.Nv Go.Proofs.Ytlciocebbckdcaa.Nr2 Go.Proofs.Ytlciocebbckdcaa.Mo Go.Proofs.Ytlciocebbckdcaa.Kr

theorem fst1_ok {w : World} {pa : Option Addr} {na ca : Nat} {pm : Option Addr} {nm cm x m : Nat} (ha : Nw w pa na ca (digs x)) (hm : Nw w pm nm cm (digs m)) (hx : x < m) (vm : m < pw 32) :
    Fst w (.agg #[.slice pm nm cm]) [(pa, na, ca)] 0 :=
  (fst_val (xs := [(pa, na, ca)]) (ys := [x]) hm (Nat.lt_of_le_of_lt (Nat.zero_le _) hx) vm ⟨ha, trivial⟩ (by simp) (by simpa using lt64 (Nat.lt_trans hx vm))).1 (by simpa using hx)
set_option maxHeartbeats 2000000 in
theorem ix_nil (f : Value) (w : World) :
    Calls Try.prog 109 #[.slice none 0 0, f] w fun e w' => e = .returned (.int .i64 (-1)) ∧ Gr w w' := by
  go_enter Try.func109, Try.ntmps109
  go_wp2
  go_loopw [8] (fun i wr => i = .int .i64 0 ∧ Hid (Gr w wr)) (fun _ _ => 0)
  case atStart => exact ⟨rfl, Gr.refl w⟩
  case round =>
    obtain ⟨rfl, HG⟩ := hrel
    go_wp2
    go_ret
    exact ⟨rfl, HG.out⟩
set_option maxHeartbeats 2000000 in
theorem cf_nil (f : Value) (w : World) :
    Calls Try.prog 68 #[.slice none 0 0, f] w fun e w' => e = .returned (.bool false) ∧ Gr w w' := by
  go_enter Try.func68, Try.ntmps68
  go_wp2_with fail
  refine (ix_nil _ _).mono ?_
  rintro e w1 ⟨rfl, hg⟩
  have HG := Lib.hid hg
  clear hg
  go_wp2
  go_ret
  exact ⟨rfl, HG.out⟩
set_option maxHeartbeats 2000000 in
theorem first_nil {p : Option Addr} {n c : Nat} {l : List Nat} {w : World} (hl : Nw w p n c l) :
    Calls Try.prog 22 #[.agg #[.slice p n c], .slice none 0 0] w fun e w' => e = .returned (.int .i64 (if im l then 0 else 1)) ∧ Gr w w' := by
  cases hi : im l with
  | false => exact first_mod _ hl hi
  | true =>
    have G0 := Lib.hid ((Gr.refl w).alloc (.cells #[.slice p n c] 24))
    have hk : (w.alloc (.cells #[.slice p n c] 24)).cell? ⟨w.heap.size, 0, none⟩ = some (.slice p n c) := by simp [go_sem]
    have HL := Lib.hid hl
    have HI := Lib.hid hi
    clear hl hi
    go_enter Try.func22, Try.ntmps22
    go_wp2_with fail
    refine (modulus3_any (HL.out.grow G0.out)).mono ?_
    rintro e w1 ⟨rfl, hg⟩
    rw [HI.out]
    replace hk := hg.cell hk
    have G1 := Lib.hid (G0.out.trans hg)
    clear hg
    go_wp2_with fail
    refine (cf_nil _ _).mono ?_
    rintro e w2 ⟨rfl, hg⟩
    replace hk := hg.cell hk
    have G2 := Lib.hid (G1.out.trans hg)
    clear hg
    go_wp2_with fail
    refine (cf_nil _ _).mono ?_
    rintro e w3 ⟨rfl, hg⟩
    have G3 := Lib.hid (G2.out.trans hg)
    clear hg
    go_wp2
    go_ret
    exact ⟨rfl, G3.out⟩
end Go.Proofs.Ytlciocebbckdcaa.Mr
