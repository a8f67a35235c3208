/- For every input the law DigestTexts returns true, and its arguments read as before: the card of DigestTexts. Condition: the two tables that the row lists (package digest) read as the program lays them (tied by the given tie). -/
import Derived.Test.YtilbojcghladjaaDoorCards
import Derived.Test.YtilbojcghladjaaDoorTie
import Derived.Test.YtilbojcghladjaaDoorPd2
import Derived.Test.YtilbojcghladjaaDoorQEw
import Derived.SevenTiedAt
namespace Go.Proofs.YtilbojcghladjaaDoor.LDigestTexts
open Go.ChangeShapes Go.WideShapes Go.ChangeAt Go.WideMaps Go.WideElems Go.RowKit

theorem laidOut : laidOutB Tryd.prog = true := by kernel_rfl
theorem walk (l : List (BitVec 8)) (hl : l.length = 32) (m : List (BitVec 8)) (hm : m.length = 32) (t : ByteArray) (w : World) (hT : Dg.Con w ∧ Dg.Sta0 w) :
    Calls Tryd.prog 7 #[.agg (l.map Dg.w8).toArray, .agg (m.map Dg.w8).toArray, .string t] w fun e w' => e = .returned (.bool true) ∧ Ne.Gr w w' := by
  rcases Nat.lt_or_ge 200 t.size with h | h
  · exact Dg.texts_long hl hm h hT.1 hT.2
  by_cases ht : t.size = 64
  · by_cases hg : Dg.gd (Dg.s8 t) 64
    · exact Dg.texts_good hl hm ht hg hT.1 hT.2
    · exact Dg.texts_bad hl hm ht hg hT.1 hT.2
  · exact Dg.texts_len hl hm h ht hT.1 hT.2

set_option maxRecDepth 100000 in
theorem lifted (os : Os) (started : os.Started) (H : Type) (enc : TypeId × Value → H) :
    ReturnsInHanded {} Tryd.checked os 7 .any (fun w args => (Rows.digestTextsSpec.pre enc Tryd.prog Tryd.f7 [] false w args ∧ laidMetH Tryd.prog Dl.laid w) ∧ sizedMet enc Tryd.prog Tryd.f7 (OpenSpec.ofChange Rows.digestTextsSpec) false w args)
      (Rows.digestTextsSpec.post enc Tryd.prog Tryd.f7 false true false false) := by
  refine returnsInHanded_of_change_and (C := Tryd.checked) (X := fun w _ => laidMetH Tryd.prog Dl.laid w) (fun _ _ _ hh h => h.of_heap hh) Dl.own started (by kernel_rfl) Tryd.func7
    (ChangeSpec.witness_shaped (enc := enc) (C := Tryd.checked) (os := os) (X := fun w _ => laidMetH Tryd.prog Dl.laid w) false (World.doorLaid Tryd.prog 400 os) #[.agg (Array.replicate 32 (.int .u8 0)), .agg (Array.replicate 32 (.int .u8 0)), .string ⟨#[]⟩] 8 rfl (World.shaped_of_RefB (by kernel_rfl) (by kernel_rfl)) (by kernel_rfl) (by kernel_rfl) (by kernel_rfl) (Dl.door_met os _)) ?_
  intro W base args ds gs before hval0 hW _ _ hL _
  have hval : ∀ (j : Nat) t v, Tryd.f7.params[j]? = some t → args[j]? = some v → Value.okWide Tryd.prog W .any base t v := hval0
  have hW' := hW
  obtain ⟨p, q, hA0, hV, rfl, hfz, hnd⟩ := hW
  have hA : DataW.TrodAll enc Tryd.prog W 0 (fun _ => true) true Tryd.f7.params.toList args.toList ds p := hA0
  rw [Tryd.params7] at hA hval
  obtain ⟨v0, vs0, d0, ds0, p0, q0, hargs, rfl, rfl, h0, r0⟩ := trodAll_cons hA
  obtain ⟨v1, vs1, d1, ds1, p1, q1, rfl, rfl, rfl, h1, r1⟩ := trodAll_cons r0
  obtain ⟨v2, vs2, d2, ds2, p2, q2, rfl, rfl, rfl, h2, r2⟩ := trodAll_cons r1
  obtain ⟨rfl, rfl, rfl⟩ := trodAll_nil r2
  obtain rfl : args = #[v0, v1, v2] := by cases args; simp_all
  obtain ⟨rfl, rfl⟩ := trodVars_none hV
  obtain ⟨l0, w0, rfl⟩ := Dl.open_hash (hval 0 25 v0 rfl rfl) h0
  obtain ⟨l1, w1, rfl⟩ := Dl.open_hash (hval 1 25 v1 rfl rfl) h1
  obtain ⟨a2, rfl, rfl, rfl, w2⟩ := Go.ChangeMaps.open_string Tryd.underlying9 (hval 2 9 v2 rfl rfl) h2
  clear hA0 hval0
  simp only [List.append_nil] at hW'
  refine (walk l0 w0 l1 w1 a2 W (Dl.tables_of_laid hL)).mono fun e W' ⟨he, hg⟩ => ?_
  subst he
  exact ⟨_, rfl, Nl.law_end laidOut Tryd.underlying4 (by kernel_rfl) (by kernel_rfl) rfl hW' rfl rfl rfl hg⟩

theorem row_holds : Rows.DigestTextsSaid :=
  OpenClaim.holds_of_wide 7 Tryd.f7 rfl rfl rfl rfl rfl rfl rfl ⟨rfl, rfl, rfl, rfl, rfl⟩ rfl rfl rfl rfl rfl (by kernel_rfl) Tryd.func7 (by kernel_rfl)
    (of_decide_eq_true (by kernel_rfl)) (by unfold Func.isWrapper; first | (rw [if_pos (by decide +kernel)]; kernel_rfl) | (rw [if_neg (by decide +kernel)]; exact ⟨rfl, rfl⟩))
    (fun os started H enc _ => lifted os started H enc)

/-- The statement. -/
theorem proved : Rows.DigestTextsCardSaid :=
  Claim7.holds_tied_plain_at .later [] [.data, .data] true _ false
    row_holds (fun _ h => by cases h) (by kernel_rfl) (fun _ h => by cases h) digestTexts_row_tie rfl ⟨rfl, rfl⟩ (by kernel_rfl) rfl
    (fun f fn hf hfn => by
      obtain rfl : f = 7 := Option.some.inj ((show Tryd.prog.funcNamed "specie/specielaw06.DigestTexts" = some 7 by kernel_rfl).symm.trans hf) |>.symm
      obtain rfl : fn = Tryd.f7 := (Option.some.inj (Tryd.func7.symm.trans hfn)).symm
      exact ⟨by kernel_rfl, fun j t ht => by
        rw [Tryd.params7] at ht
        have hm : t ∈ [25, 25, 9] := by simpa using Array.mem_of_getElem? ht
        have hall : ([25, 25, 9].all fun u => !Tryd.prog.wantsStandIn u) = true := by kernel_rfl
        exact (show Tryd.prog.wantsStandIn t = false by simpa using List.all_eq_true.1 hall t hm)⟩)
    (by kernel_rfl)
#print axioms proved
end Go.Proofs.YtilbojcghladjaaDoor.LDigestTexts
