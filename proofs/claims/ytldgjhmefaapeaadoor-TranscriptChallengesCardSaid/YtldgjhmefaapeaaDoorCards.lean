/-
  DERIVED. GIVEN WITH THE SEED: THE CARDS: each row of YtldgjhmefaapeaaDoorRows.lean that lists a variable, with what it lists TIED to the program's text (the seventh form; the later family's looks); each row that meets fmt, with fmt's text TOLD by the authors' own Lean function (tested against real Go, not proved from fmt's source: count such statements apart). THE CARD IS WHAT COUNTS. Prove the row's statement (the work); the ties are given (YtldgjhmefaapeaaDoorTie.lean); close each card by the builder's one call (the guide's Derived/Test/ToyasCard.lean, 'card_holds'). Laid BY PROGRAM, IN A SANDBOX (cutbox-door.mjs). By AI agents, Wed Nov 11 2026. No macro, syntax, notation, axiom, sorry.
-/
import Derived.Test.YtldgjhmefaapeaaDoorRows
import GoSem.ClaimSeven
namespace Go.Proofs.YtldgjhmefaapeaaDoor
namespace Rows

/-- THE TIED CARD OF 'specielaw08.TranscriptChallenges'. -/
def transcriptChallengesCard : Claim7 := { stood := { row := transcriptChallengesRow, standIns := [], harness := (true, "269c3ddf07fad1dbcb71dd445999a7249350396b5d772d15ef6b37ca0b5f9e6d"), looks := false }, kinds := [], alts := [], laidByText := true, laidKinds := [.data, .data], laidTests := true, laidLooks := .later }
def TranscriptChallengesCardSaid : Prop := Claim7.holds Tryd.pinned (.plain (OpenSpec.ofChange transcriptChallengesSpec)) transcriptChallengesCard

/-- THE TIED CARD OF 'specielaw08.TranscriptRemainders'. -/
def transcriptRemaindersCard : Claim7 := { stood := { row := transcriptRemaindersRow, standIns := [], harness := (true, "269c3ddf07fad1dbcb71dd445999a7249350396b5d772d15ef6b37ca0b5f9e6d"), looks := false }, kinds := [], alts := [], laidByText := true, laidKinds := [.data, .data], laidTests := true, laidLooks := .later }
def TranscriptRemaindersCardSaid : Prop := Claim7.holds Tryd.pinned (.plain (OpenSpec.ofChange transcriptRemaindersSpec)) transcriptRemaindersCard

/-- THE TIED CARD OF 'specielaw08.TranscriptCounts'. -/
def transcriptCountsCard : Claim7 := { stood := { row := transcriptCountsRow, standIns := [], harness := (true, "269c3ddf07fad1dbcb71dd445999a7249350396b5d772d15ef6b37ca0b5f9e6d"), looks := false }, kinds := [], alts := [], laidByText := true, laidKinds := [.data, .data], laidTests := true, laidLooks := .later }
def TranscriptCountsCardSaid : Prop := Claim7.holds Tryd.pinned (.plain (OpenSpec.ofChange transcriptCountsSpec)) transcriptCountsCard

/-- THE SECOND FORM's CARD OF 'specielaw08.TranscriptChallenges'. -/
def transcriptChallengesUptoCard : Claim7 := { stood := { row := transcriptChallengesUptoRow, standIns := [], harness := (true, "269c3ddf07fad1dbcb71dd445999a7249350396b5d772d15ef6b37ca0b5f9e6d"), looks := false }, kinds := [], alts := [], laidByText := true, laidKinds := [.data, .data], laidTests := true, laidLooks := .later }
def TranscriptChallengesUptoCardSaid : Prop := Claim7.holds Tryd.pinned (.plain (OpenSpec.upto transcriptChallengesSpec)) transcriptChallengesUptoCard

/-- THE SECOND FORM's CARD OF 'specielaw08.TranscriptRemainders'. -/
def transcriptRemaindersUptoCard : Claim7 := { stood := { row := transcriptRemaindersUptoRow, standIns := [], harness := (true, "269c3ddf07fad1dbcb71dd445999a7249350396b5d772d15ef6b37ca0b5f9e6d"), looks := false }, kinds := [], alts := [], laidByText := true, laidKinds := [.data, .data], laidTests := true, laidLooks := .later }
def TranscriptRemaindersUptoCardSaid : Prop := Claim7.holds Tryd.pinned (.plain (OpenSpec.upto transcriptRemaindersSpec)) transcriptRemaindersUptoCard

/-- THE SECOND FORM's CARD OF 'specielaw08.TranscriptCounts'. -/
def transcriptCountsUptoCard : Claim7 := { stood := { row := transcriptCountsUptoRow, standIns := [], harness := (true, "269c3ddf07fad1dbcb71dd445999a7249350396b5d772d15ef6b37ca0b5f9e6d"), looks := false }, kinds := [], alts := [], laidByText := true, laidKinds := [.data, .data], laidTests := true, laidLooks := .later }
def TranscriptCountsUptoCardSaid : Prop := Claim7.holds Tryd.pinned (.plain (OpenSpec.upto transcriptCountsSpec)) transcriptCountsUptoCard
end Rows
end Go.Proofs.YtldgjhmefaapeaaDoor
