/-
  DERIVED. GIVEN WITH THE SEED: THE CARDS: each row of YtppcnfcndkpiiaaDoorRows.lean that lists a variable, with what it lists TIED to the program's text (the seventh form; the later family's looks); each row that meets fmt, with fmt's text TOLD by the authors' own Lean function (tested against real Go, not proved from fmt's source: count such statements apart). THE CARD IS WHAT COUNTS. Prove the row's statement (the work); the ties are given (YtppcnfcndkpiiaaDoorTie.lean); close each card by the builder's one call (the guide's Derived/Test/ToyasCard.lean, 'card_holds'). Laid BY PROGRAM, IN A SANDBOX (cutbox-door.mjs). By AI agents, Wed Nov 11 2026. No macro, syntax, notation, axiom, sorry.
-/
import Derived.Test.YtppcnfcndkpiiaaDoorRows
import GoSem.ClaimSeven
namespace Go.Proofs.YtppcnfcndkpiiaaDoor
namespace Rows

/-- THE TIED CARD OF 'specielaw01.WordSums'. -/
def wordSumsCard : Claim7 := { stood := { row := wordSumsRow, standIns := [], harness := (true, "2cc56042110fd52a63a9063786ef31d480040733bf9b6062dda8b6fe3b269f43"), looks := false }, kinds := [], alts := [], laidByText := true, laidKinds := [.data], laidTests := true, laidLooks := .later }
def WordSumsCardSaid : Prop := Claim7.holds Tryd.pinned (.plain (OpenSpec.ofChange wordSumsSpec)) wordSumsCard

/-- THE TIED CARD OF 'specielaw01.WordPowers'. -/
def wordPowersCard : Claim7 := { stood := { row := wordPowersRow, standIns := [], harness := (true, "2cc56042110fd52a63a9063786ef31d480040733bf9b6062dda8b6fe3b269f43"), looks := false }, kinds := [], alts := [], laidByText := true, laidKinds := [.data], laidTests := true, laidLooks := .later }
def WordPowersCardSaid : Prop := Claim7.holds Tryd.pinned (.plain (OpenSpec.ofChange wordPowersSpec)) wordPowersCard

/-- THE TIED CARD OF 'specielaw01.WordReduces'. -/
def wordReducesCard : Claim7 := { stood := { row := wordReducesRow, standIns := [], harness := (true, "2cc56042110fd52a63a9063786ef31d480040733bf9b6062dda8b6fe3b269f43"), looks := false }, kinds := [], alts := [], laidByText := true, laidKinds := [.data], laidTests := true, laidLooks := .later }
def WordReducesCardSaid : Prop := Claim7.holds Tryd.pinned (.plain (OpenSpec.ofChange wordReducesSpec)) wordReducesCard

/-- THE TIED CARD OF 'specielaw01.WordInverses'. -/
def wordInversesCard : Claim7 := { stood := { row := wordInversesRow, standIns := [], harness := (true, "2cc56042110fd52a63a9063786ef31d480040733bf9b6062dda8b6fe3b269f43"), looks := false }, kinds := [], alts := [], laidByText := true, laidKinds := [.data], laidTests := true, laidLooks := .later }
def WordInversesCardSaid : Prop := Claim7.holds Tryd.pinned (.plain (OpenSpec.ofChange wordInversesSpec)) wordInversesCard

/-- THE TIED CARD OF 'specielaw01.WordSolves'. -/
def wordSolvesCard : Claim7 := { stood := { row := wordSolvesRow, standIns := [], harness := (true, "2cc56042110fd52a63a9063786ef31d480040733bf9b6062dda8b6fe3b269f43"), looks := false }, kinds := [], alts := [], laidByText := true, laidKinds := [.data], laidTests := true, laidLooks := .later }
def WordSolvesCardSaid : Prop := Claim7.holds Tryd.pinned (.plain (OpenSpec.ofChange wordSolvesSpec)) wordSolvesCard

/-- THE TIED CARD OF 'specielaw01.WordSymbols'. -/
def wordSymbolsCard : Claim7 := { stood := { row := wordSymbolsRow, standIns := [], harness := (true, "2cc56042110fd52a63a9063786ef31d480040733bf9b6062dda8b6fe3b269f43"), looks := false }, kinds := [], alts := [], laidByText := true, laidKinds := [.data], laidTests := true, laidLooks := .later }
def WordSymbolsCardSaid : Prop := Claim7.holds Tryd.pinned (.plain (OpenSpec.ofChange wordSymbolsSpec)) wordSymbolsCard

/-- THE TIED CARD OF 'specielaw01.WordRing'. -/
def wordRingCard : Claim7 := { stood := { row := wordRingRow, standIns := [], harness := (true, "2cc56042110fd52a63a9063786ef31d480040733bf9b6062dda8b6fe3b269f43"), looks := false }, kinds := [], alts := [], laidByText := true, laidKinds := [.data], laidTests := true, laidLooks := .later }
def WordRingCardSaid : Prop := Claim7.holds Tryd.pinned (.plain (OpenSpec.ofChange wordRingSpec)) wordRingCard

/-- THE TIED CARD OF 'specielaw01.WordExponents'. -/
def wordExponentsCard : Claim7 := { stood := { row := wordExponentsRow, standIns := [], harness := (true, "2cc56042110fd52a63a9063786ef31d480040733bf9b6062dda8b6fe3b269f43"), looks := false }, kinds := [], alts := [], laidByText := true, laidKinds := [.data], laidTests := true, laidLooks := .later }
def WordExponentsCardSaid : Prop := Claim7.holds Tryd.pinned (.plain (OpenSpec.ofChange wordExponentsSpec)) wordExponentsCard

/-- THE TIED CARD OF 'specielaw01.WordSolutions'. -/
def wordSolutionsCard : Claim7 := { stood := { row := wordSolutionsRow, standIns := [], harness := (true, "2cc56042110fd52a63a9063786ef31d480040733bf9b6062dda8b6fe3b269f43"), looks := false }, kinds := [], alts := [], laidByText := true, laidKinds := [.data], laidTests := true, laidLooks := .later }
def WordSolutionsCardSaid : Prop := Claim7.holds Tryd.pinned (.plain (OpenSpec.ofChange wordSolutionsSpec)) wordSolutionsCard

/-- THE TIED CARD OF 'specielaw01.WordQuadratic'. -/
def wordQuadraticCard : Claim7 := { stood := { row := wordQuadraticRow, standIns := [], harness := (true, "2cc56042110fd52a63a9063786ef31d480040733bf9b6062dda8b6fe3b269f43"), looks := false }, kinds := [], alts := [], laidByText := true, laidKinds := [.data], laidTests := true, laidLooks := .later }
def WordQuadraticCardSaid : Prop := Claim7.holds Tryd.pinned (.plain (OpenSpec.ofChange wordQuadraticSpec)) wordQuadraticCard

/-- THE SECOND FORM's CARD OF 'specielaw01.WordSums'. -/
def wordSumsUptoCard : Claim7 := { stood := { row := wordSumsUptoRow, standIns := [], harness := (true, "2cc56042110fd52a63a9063786ef31d480040733bf9b6062dda8b6fe3b269f43"), looks := false }, kinds := [], alts := [], laidByText := true, laidKinds := [.data], laidTests := true, laidLooks := .later }
def WordSumsUptoCardSaid : Prop := Claim7.holds Tryd.pinned (.plain (OpenSpec.upto wordSumsSpec)) wordSumsUptoCard

/-- THE SECOND FORM's CARD OF 'specielaw01.WordPowers'. -/
def wordPowersUptoCard : Claim7 := { stood := { row := wordPowersUptoRow, standIns := [], harness := (true, "2cc56042110fd52a63a9063786ef31d480040733bf9b6062dda8b6fe3b269f43"), looks := false }, kinds := [], alts := [], laidByText := true, laidKinds := [.data], laidTests := true, laidLooks := .later }
def WordPowersUptoCardSaid : Prop := Claim7.holds Tryd.pinned (.plain (OpenSpec.upto wordPowersSpec)) wordPowersUptoCard

/-- THE SECOND FORM's CARD OF 'specielaw01.WordReduces'. -/
def wordReducesUptoCard : Claim7 := { stood := { row := wordReducesUptoRow, standIns := [], harness := (true, "2cc56042110fd52a63a9063786ef31d480040733bf9b6062dda8b6fe3b269f43"), looks := false }, kinds := [], alts := [], laidByText := true, laidKinds := [.data], laidTests := true, laidLooks := .later }
def WordReducesUptoCardSaid : Prop := Claim7.holds Tryd.pinned (.plain (OpenSpec.upto wordReducesSpec)) wordReducesUptoCard

/-- THE SECOND FORM's CARD OF 'specielaw01.WordInverses'. -/
def wordInversesUptoCard : Claim7 := { stood := { row := wordInversesUptoRow, standIns := [], harness := (true, "2cc56042110fd52a63a9063786ef31d480040733bf9b6062dda8b6fe3b269f43"), looks := false }, kinds := [], alts := [], laidByText := true, laidKinds := [.data], laidTests := true, laidLooks := .later }
def WordInversesUptoCardSaid : Prop := Claim7.holds Tryd.pinned (.plain (OpenSpec.upto wordInversesSpec)) wordInversesUptoCard

/-- THE SECOND FORM's CARD OF 'specielaw01.WordSolves'. -/
def wordSolvesUptoCard : Claim7 := { stood := { row := wordSolvesUptoRow, standIns := [], harness := (true, "2cc56042110fd52a63a9063786ef31d480040733bf9b6062dda8b6fe3b269f43"), looks := false }, kinds := [], alts := [], laidByText := true, laidKinds := [.data], laidTests := true, laidLooks := .later }
def WordSolvesUptoCardSaid : Prop := Claim7.holds Tryd.pinned (.plain (OpenSpec.upto wordSolvesSpec)) wordSolvesUptoCard

/-- THE SECOND FORM's CARD OF 'specielaw01.WordSymbols'. -/
def wordSymbolsUptoCard : Claim7 := { stood := { row := wordSymbolsUptoRow, standIns := [], harness := (true, "2cc56042110fd52a63a9063786ef31d480040733bf9b6062dda8b6fe3b269f43"), looks := false }, kinds := [], alts := [], laidByText := true, laidKinds := [.data], laidTests := true, laidLooks := .later }
def WordSymbolsUptoCardSaid : Prop := Claim7.holds Tryd.pinned (.plain (OpenSpec.upto wordSymbolsSpec)) wordSymbolsUptoCard

/-- THE SECOND FORM's CARD OF 'specielaw01.WordRing'. -/
def wordRingUptoCard : Claim7 := { stood := { row := wordRingUptoRow, standIns := [], harness := (true, "2cc56042110fd52a63a9063786ef31d480040733bf9b6062dda8b6fe3b269f43"), looks := false }, kinds := [], alts := [], laidByText := true, laidKinds := [.data], laidTests := true, laidLooks := .later }
def WordRingUptoCardSaid : Prop := Claim7.holds Tryd.pinned (.plain (OpenSpec.upto wordRingSpec)) wordRingUptoCard

/-- THE SECOND FORM's CARD OF 'specielaw01.WordExponents'. -/
def wordExponentsUptoCard : Claim7 := { stood := { row := wordExponentsUptoRow, standIns := [], harness := (true, "2cc56042110fd52a63a9063786ef31d480040733bf9b6062dda8b6fe3b269f43"), looks := false }, kinds := [], alts := [], laidByText := true, laidKinds := [.data], laidTests := true, laidLooks := .later }
def WordExponentsUptoCardSaid : Prop := Claim7.holds Tryd.pinned (.plain (OpenSpec.upto wordExponentsSpec)) wordExponentsUptoCard

/-- THE SECOND FORM's CARD OF 'specielaw01.WordSolutions'. -/
def wordSolutionsUptoCard : Claim7 := { stood := { row := wordSolutionsUptoRow, standIns := [], harness := (true, "2cc56042110fd52a63a9063786ef31d480040733bf9b6062dda8b6fe3b269f43"), looks := false }, kinds := [], alts := [], laidByText := true, laidKinds := [.data], laidTests := true, laidLooks := .later }
def WordSolutionsUptoCardSaid : Prop := Claim7.holds Tryd.pinned (.plain (OpenSpec.upto wordSolutionsSpec)) wordSolutionsUptoCard

/-- THE SECOND FORM's CARD OF 'specielaw01.WordQuadratic'. -/
def wordQuadraticUptoCard : Claim7 := { stood := { row := wordQuadraticUptoRow, standIns := [], harness := (true, "2cc56042110fd52a63a9063786ef31d480040733bf9b6062dda8b6fe3b269f43"), looks := false }, kinds := [], alts := [], laidByText := true, laidKinds := [.data], laidTests := true, laidLooks := .later }
def WordQuadraticUptoCardSaid : Prop := Claim7.holds Tryd.pinned (.plain (OpenSpec.upto wordQuadraticSpec)) wordQuadraticUptoCard
end Rows
end Go.Proofs.YtppcnfcndkpiiaaDoor
