/- For every input the law TranscriptCounts returns true, and its arguments read as before: the card of TranscriptCounts. Condition: the two tables that the row lists (package digest) read as the program lays them (tied by the given tie). -/
import Derived.Test.YtldgjhmefaapeaaDoorCards
import Derived.Test.YtldgjhmefaapeaaDoorTie
import Derived.Test.YtldgjhmefaapeaaDoorPs2
import Derived.Test.YtldgjhmefaapeaaDoorQTj
import Derived.Test.YtldgjhmefaapeaaDoorQTk
import Derived.SevenTiedAt
namespace Go.Proofs.YtldgjhmefaapeaaDoor.LTranscriptCounts
open Go.ChangeShapes Go.WideShapes Go.ChangeAt Go.WideMaps Go.WideElems Go.RowKit

theorem laidOut : laidOutB Tryd.prog = true := by kernel_rfl
theorem walk (s : ByteArray) (p : Option Addr) (n c : Nat) (w : World) (hB : Dl.BinII w p n) (hT : Dg.Con w ∧ Dg.Sta0 w) :
    Calls Tryd.prog 5 #[.string s, .slice p n c] w fun e w' => e = .returned (.bool true) ∧ Ne.Gr w w' := by
  have hB2 : Dg.LstII w p n := hB
  by_cases h : 100 < s.size ∨ 40 < n
  · exact Dg.cnt_triv hT.1 hT.2 h
  · cases hl : Dg.isL s with
    | false => exact Dg.cnt_nolab hT.1 hT.2 (by omega) (by omega) hl
    | true => exact Dg.cnt_main hT.1 hT.2 (by omega) (by omega) hl hB2

set_option maxRecDepth 100000 in
theorem lifted (os : Os) (started : os.Started) (H : Type) (enc : TypeId × Value → H) :
    ReturnsInHanded {} Tryd.checked os 5 .any (fun w args => (Rows.transcriptCountsSpec.pre enc Tryd.prog Tryd.f5 [] false w args ∧ laidMetH Tryd.prog Dl.laid w) ∧ sizedMet enc Tryd.prog Tryd.f5 (OpenSpec.ofChange Rows.transcriptCountsSpec) false w args)
      (Rows.transcriptCountsSpec.post enc Tryd.prog Tryd.f5 false true false false) := by
  refine returnsInHanded_of_change_and (C := Tryd.checked) (X := fun w _ => laidMetH Tryd.prog Dl.laid w) (fun _ _ _ hh h => h.of_heap hh) Dl.own started (by kernel_rfl) Tryd.func5
    (ChangeSpec.witness_shaped (enc := enc) (C := Tryd.checked) (os := os) (X := fun w _ => laidMetH Tryd.prog Dl.laid w) false (World.doorLaid Tryd.prog 400 os) #[.string ⟨#[]⟩, .slice none 0 0] 8 rfl (World.shaped_of_RefB (by kernel_rfl) (by kernel_rfl)) (by kernel_rfl) (by kernel_rfl) (by kernel_rfl) (Dl.door_met os _)) ?_
  intro W base args ds gs before hval0 hW _ _ hL _
  have hval : ∀ (j : Nat) t v, Tryd.f5.params[j]? = some t → args[j]? = some v → Value.okWide Tryd.prog W .any base t v := hval0
  have hW' := hW
  obtain ⟨p, q, hA0, hV, rfl, hfz, hnd⟩ := hW
  have hA : DataW.TrodAll enc Tryd.prog W 0 (fun _ => true) true Tryd.f5.params.toList args.toList ds p := hA0
  rw [Tryd.params5] at hA hval
  obtain ⟨v0, vs0, d0, ds0, p0, q0, hargs, rfl, rfl, h0, r0⟩ := trodAll_cons hA
  obtain ⟨v1, vs1, d1, ds1, p1, q1, rfl, rfl, rfl, h1, r1⟩ := trodAll_cons r0
  obtain ⟨rfl, rfl, rfl⟩ := trodAll_nil r1
  obtain rfl : args = #[v0, v1] := by cases args; simp_all
  obtain ⟨rfl, rfl⟩ := trodVars_none hV
  obtain ⟨a0, rfl, rfl, rfl, w0⟩ := Go.ChangeMaps.open_string Tryd.underlying9 (hval 0 9 v0 rfl rfl) h0
  obtain ⟨b1, n1, c1, rfl, w1⟩ := Dl.open_lists (hval 1 40 v1 rfl rfl) h1
  clear hA0 hval0
  simp only [List.append_nil] at hW'
  refine (walk a0 b1 n1 c1 W w1 (Dl.tables_of_laid hL)).mono fun e W' ⟨he, hg⟩ => ?_
  subst he
  exact ⟨_, rfl, Nl.law_end laidOut Tryd.underlying4 (by kernel_rfl) (by kernel_rfl) rfl hW' rfl rfl rfl hg⟩

theorem row_holds : Rows.TranscriptCountsSaid :=
  OpenClaim.holds_of_wide 5 Tryd.f5 rfl rfl rfl rfl rfl rfl rfl ⟨rfl, rfl, rfl, rfl, rfl⟩ rfl rfl rfl rfl rfl (by kernel_rfl) Tryd.func5 (by kernel_rfl)
    (of_decide_eq_true (by kernel_rfl)) (by unfold Func.isWrapper; first | (rw [if_pos (by decide +kernel)]; kernel_rfl) | (rw [if_neg (by decide +kernel)]; exact ⟨rfl, rfl⟩))
    (fun os started H enc _ => lifted os started H enc)

/-- The statement. -/
theorem proved : Rows.TranscriptCountsCardSaid :=
  Claim7.holds_tied_plain_at .later [] [.data, .data] true _ false
    row_holds (fun _ h => by cases h) (by kernel_rfl) (fun _ h => by cases h) transcriptCounts_row_tie rfl ⟨rfl, rfl⟩ (by kernel_rfl) rfl
    (fun f fn hf hfn => by
      obtain rfl : f = 5 := Option.some.inj ((show Tryd.prog.funcNamed "specie/specielaw08.TranscriptCounts" = some 5 by kernel_rfl).symm.trans hf) |>.symm
      obtain rfl : fn = Tryd.f5 := (Option.some.inj (Tryd.func5.symm.trans hfn)).symm
      exact ⟨by kernel_rfl, fun j t ht => by
        rw [Tryd.params5] at ht
        have hm : t ∈ [9, 40] := by simpa using Array.mem_of_getElem? ht
        have hall : ([9, 40].all fun u => !Tryd.prog.wantsStandIn u) = true := by kernel_rfl
        exact (show Tryd.prog.wantsStandIn t = false by simpa using List.all_eq_true.1 hall t hm)⟩)
    (by kernel_rfl)
#print axioms proved
end Go.Proofs.YtldgjhmefaapeaaDoor.LTranscriptCounts
