/-
  No cell of these rows narrows 'for every input' (looked for: loops, veiled, ifaces, maps, wideKeys, modest, calm, conditions, laid).
  DERIVED. THE GIVEN ROWS OF THIS SEAT. 15 by the template 'for every input the law returns true; each argument reads behind the call as it read before'; 0 by the template 'total and deterministic' (their statements: YtlciocebbckdcaaTotals.lean).
  GIVEN WITH THE SEED: the statements are not yours to turn. If you find one false, say at which input.
  Laid BY PROGRAM, IN A SANDBOX (cutbox-rows.mjs): the forced cells as the released guide's own fill.sh prints them over the translation a82bc46689fe6a37… (all of the seat's roots in one cut). By AI agents, Wed Nov 11 2026. No macro, syntax, notation, axiom, sorry.
-/
import Derived.Test.YtlciocebbckdcaaChecked
import GoSem.Claim
import GoSem.ClaimJoined
import GoSem.ClaimMapViews
import Derived.JoinedTies
import Derived.KernelRfl
namespace Go.Proofs.Ytlciocebbckdcaa
/- THE CELL 'sum', in the pinned program and in every row, IS THE sha256 OF THE DUMP (.gsa) THAT YtlciocebbckdcaaProg.lean LOADS. Nothing in Lean hashes anything: it is a label: what it is worth is what the hold of that sum in a sandbox is worth. -/
noncomputable def Try.pinned : Pinned := { name := "ytlciocebbckdcaa", sum := "a82bc46689fe6a37709fe7774407949c9986d0d2c8d1a00d4e0137363b7d344c", checked := Try.checked }
namespace Rows
def none {H : Type} : Left H := { results := [], args := [] }

/-- 'specielaw03.NatmodSums': WHATEVER THE INPUT: true; the input reads as it did. -/
def natmodSumsSpec : ChangeSpec := { name := "natmodSums", fn := fun _ => fun
  | [d1, d2, d3] => { results := [.lit (.bool true)], args := [d1, d2, d3] }
  | _ => none }
def natmodSumsRow : OpenClaim := { program := "ytlciocebbckdcaa", sum := "a82bc46689fe6a37709fe7774407949c9986d0d2c8d1a00d4e0137363b7d344c", func := "specie/specielaw03.NatmodSums", spec := "natmodSums", unfollowed := true, recurses := true, named := ["math/bits.overflowError"], apart := false }
def NatmodSumsSaid : Prop := natmodSumsRow.holds Try.pinned (OpenSpec.ofChange natmodSumsSpec)

/-- ITS FALSE NEIGHBOUR: 'it returns false'. Refute it at one input. -/
def natmodSumsWrong : ChangeSpec := { name := "natmodSums", fn := fun _ => fun
  | [d1, d2, d3] => { results := [.lit (.bool false)], args := [d1, d2, d3] }
  | _ => none }
def NatmodSumsWrongFalsely : Prop := natmodSumsRow.holds Try.pinned (OpenSpec.ofChange natmodSumsWrong)

/-- 'specielaw03.NatmodProducts': WHATEVER THE INPUT: true; the input reads as it did. -/
def natmodProductsSpec : ChangeSpec := { name := "natmodProducts", fn := fun _ => fun
  | [d1, d2, d3, d4] => { results := [.lit (.bool true)], args := [d1, d2, d3, d4] }
  | _ => none }
def natmodProductsRow : OpenClaim := { program := "ytlciocebbckdcaa", sum := "a82bc46689fe6a37709fe7774407949c9986d0d2c8d1a00d4e0137363b7d344c", func := "specie/specielaw03.NatmodProducts", spec := "natmodProducts", unfollowed := true, recurses := true, named := ["math/bits.overflowError"], apart := false }
def NatmodProductsSaid : Prop := natmodProductsRow.holds Try.pinned (OpenSpec.ofChange natmodProductsSpec)

/-- ITS FALSE NEIGHBOUR: 'it returns false'. Refute it at one input. -/
def natmodProductsWrong : ChangeSpec := { name := "natmodProducts", fn := fun _ => fun
  | [d1, d2, d3, d4] => { results := [.lit (.bool false)], args := [d1, d2, d3, d4] }
  | _ => none }
def NatmodProductsWrongFalsely : Prop := natmodProductsRow.holds Try.pinned (OpenSpec.ofChange natmodProductsWrong)

/-- 'specielaw03.NatmodGcd': WHATEVER THE INPUT: true; the input reads as it did. -/
def natmodGcdSpec : ChangeSpec := { name := "natmodGcd", fn := fun _ => fun
  | [d1, d2] => { results := [.lit (.bool true)], args := [d1, d2] }
  | _ => none }
def natmodGcdRow : OpenClaim := { program := "ytlciocebbckdcaa", sum := "a82bc46689fe6a37709fe7774407949c9986d0d2c8d1a00d4e0137363b7d344c", func := "specie/specielaw03.NatmodGcd", spec := "natmodGcd", unfollowed := true, recurses := true, named := ["math/bits.overflowError"], apart := false }
def NatmodGcdSaid : Prop := natmodGcdRow.holds Try.pinned (OpenSpec.ofChange natmodGcdSpec)

/-- ITS FALSE NEIGHBOUR: 'it returns false'. Refute it at one input. -/
def natmodGcdWrong : ChangeSpec := { name := "natmodGcd", fn := fun _ => fun
  | [d1, d2] => { results := [.lit (.bool false)], args := [d1, d2] }
  | _ => none }
def NatmodGcdWrongFalsely : Prop := natmodGcdRow.holds Try.pinned (OpenSpec.ofChange natmodGcdWrong)

/-- 'specielaw03.NatmodCrt': WHATEVER THE INPUT: true; the input reads as it did. -/
def natmodCrtSpec : ChangeSpec := { name := "natmodCrt", fn := fun _ => fun
  | [d1, d2, d3, d4] => { results := [.lit (.bool true)], args := [d1, d2, d3, d4] }
  | _ => none }
def natmodCrtRow : OpenClaim := { program := "ytlciocebbckdcaa", sum := "a82bc46689fe6a37709fe7774407949c9986d0d2c8d1a00d4e0137363b7d344c", func := "specie/specielaw03.NatmodCrt", spec := "natmodCrt", unfollowed := true, recurses := true, named := ["math/bits.overflowError"], apart := false }
def NatmodCrtSaid : Prop := natmodCrtRow.holds Try.pinned (OpenSpec.ofChange natmodCrtSpec)

/-- ITS FALSE NEIGHBOUR: 'it returns false'. Refute it at one input. -/
def natmodCrtWrong : ChangeSpec := { name := "natmodCrt", fn := fun _ => fun
  | [d1, d2, d3, d4] => { results := [.lit (.bool false)], args := [d1, d2, d3, d4] }
  | _ => none }
def NatmodCrtWrongFalsely : Prop := natmodCrtRow.holds Try.pinned (OpenSpec.ofChange natmodCrtWrong)

/-- 'specielaw03.NatmodRing': WHATEVER THE INPUT: true; the input reads as it did. -/
def natmodRingSpec : ChangeSpec := { name := "natmodRing", fn := fun _ => fun
  | [d1, d2, d3, d4] => { results := [.lit (.bool true)], args := [d1, d2, d3, d4] }
  | _ => none }
def natmodRingRow : OpenClaim := { program := "ytlciocebbckdcaa", sum := "a82bc46689fe6a37709fe7774407949c9986d0d2c8d1a00d4e0137363b7d344c", func := "specie/specielaw03.NatmodRing", spec := "natmodRing", unfollowed := true, recurses := true, named := ["math/bits.overflowError"], apart := false }
def NatmodRingSaid : Prop := natmodRingRow.holds Try.pinned (OpenSpec.ofChange natmodRingSpec)

/-- ITS FALSE NEIGHBOUR: 'it returns false'. Refute it at one input. -/
def natmodRingWrong : ChangeSpec := { name := "natmodRing", fn := fun _ => fun
  | [d1, d2, d3, d4] => { results := [.lit (.bool false)], args := [d1, d2, d3, d4] }
  | _ => none }
def NatmodRingWrongFalsely : Prop := natmodRingRow.holds Try.pinned (OpenSpec.ofChange natmodRingWrong)

/-- 'specielaw03.NatmodPowers': WHATEVER THE INPUT: true; the input reads as it did. -/
def natmodPowersSpec : ChangeSpec := { name := "natmodPowers", fn := fun _ => fun
  | [d1, d2, d3, d4, d5] => { results := [.lit (.bool true)], args := [d1, d2, d3, d4, d5] }
  | _ => none }
def natmodPowersRow : OpenClaim := { program := "ytlciocebbckdcaa", sum := "a82bc46689fe6a37709fe7774407949c9986d0d2c8d1a00d4e0137363b7d344c", func := "specie/specielaw03.NatmodPowers", spec := "natmodPowers", unfollowed := true, recurses := true, named := ["math/bits.overflowError"], apart := false }
def NatmodPowersSaid : Prop := natmodPowersRow.holds Try.pinned (OpenSpec.ofChange natmodPowersSpec)

/-- ITS FALSE NEIGHBOUR: 'it returns false'. Refute it at one input. -/
def natmodPowersWrong : ChangeSpec := { name := "natmodPowers", fn := fun _ => fun
  | [d1, d2, d3, d4, d5] => { results := [.lit (.bool false)], args := [d1, d2, d3, d4, d5] }
  | _ => none }
def NatmodPowersWrongFalsely : Prop := natmodPowersRow.holds Try.pinned (OpenSpec.ofChange natmodPowersWrong)

/-- 'specielaw03.NatmodDivides': WHATEVER THE INPUT: true; the input reads as it did. -/
def natmodDividesSpec : ChangeSpec := { name := "natmodDivides", fn := fun _ => fun
  | [d1, d2] => { results := [.lit (.bool true)], args := [d1, d2] }
  | _ => none }
def natmodDividesRow : OpenClaim := { program := "ytlciocebbckdcaa", sum := "a82bc46689fe6a37709fe7774407949c9986d0d2c8d1a00d4e0137363b7d344c", func := "specie/specielaw03.NatmodDivides", spec := "natmodDivides", unfollowed := true, recurses := true, named := ["math/bits.overflowError"], apart := false }
def NatmodDividesSaid : Prop := natmodDividesRow.holds Try.pinned (OpenSpec.ofChange natmodDividesSpec)

/-- ITS FALSE NEIGHBOUR: 'it returns false'. Refute it at one input. -/
def natmodDividesWrong : ChangeSpec := { name := "natmodDivides", fn := fun _ => fun
  | [d1, d2] => { results := [.lit (.bool false)], args := [d1, d2] }
  | _ => none }
def NatmodDividesWrongFalsely : Prop := natmodDividesRow.holds Try.pinned (OpenSpec.ofChange natmodDividesWrong)

/-- 'specielaw03.NatmodRemainders': WHATEVER THE INPUT: true; the input reads as it did. -/
def natmodRemaindersSpec : ChangeSpec := { name := "natmodRemainders", fn := fun _ => fun
  | [d1, d2, d3] => { results := [.lit (.bool true)], args := [d1, d2, d3] }
  | _ => none }
def natmodRemaindersRow : OpenClaim := { program := "ytlciocebbckdcaa", sum := "a82bc46689fe6a37709fe7774407949c9986d0d2c8d1a00d4e0137363b7d344c", func := "specie/specielaw03.NatmodRemainders", spec := "natmodRemainders", unfollowed := true, recurses := true, named := ["math/bits.overflowError"], apart := false }
def NatmodRemaindersSaid : Prop := natmodRemaindersRow.holds Try.pinned (OpenSpec.ofChange natmodRemaindersSpec)

/-- ITS FALSE NEIGHBOUR: 'it returns false'. Refute it at one input. -/
def natmodRemaindersWrong : ChangeSpec := { name := "natmodRemainders", fn := fun _ => fun
  | [d1, d2, d3] => { results := [.lit (.bool false)], args := [d1, d2, d3] }
  | _ => none }
def NatmodRemaindersWrongFalsely : Prop := natmodRemaindersRow.holds Try.pinned (OpenSpec.ofChange natmodRemaindersWrong)

/-- 'specielaw03.NatmodWord': WHATEVER THE INPUT: true; the input reads as it did. -/
def natmodWordSpec : ChangeSpec := { name := "natmodWord", fn := fun _ => fun
  | [d1, d2, d3] => { results := [.lit (.bool true)], args := [d1, d2, d3] }
  | _ => none }
def natmodWordRow : OpenClaim := { program := "ytlciocebbckdcaa", sum := "a82bc46689fe6a37709fe7774407949c9986d0d2c8d1a00d4e0137363b7d344c", func := "specie/specielaw03.NatmodWord", spec := "natmodWord", unfollowed := true, recurses := true, named := ["math/bits.overflowError", "math/bits.divideError"], apart := false }
def NatmodWordSaid : Prop := natmodWordRow.holds Try.pinned (OpenSpec.ofChange natmodWordSpec)

/-- ITS FALSE NEIGHBOUR: 'it returns false'. Refute it at one input. -/
def natmodWordWrong : ChangeSpec := { name := "natmodWord", fn := fun _ => fun
  | [d1, d2, d3] => { results := [.lit (.bool false)], args := [d1, d2, d3] }
  | _ => none }
def NatmodWordWrongFalsely : Prop := natmodWordRow.holds Try.pinned (OpenSpec.ofChange natmodWordWrong)

/-- 'specielaw04.NatformTexts': WHATEVER THE INPUT: true; the input reads as it did. -/
def natformTextsSpec : ChangeSpec := { name := "natformTexts", fn := fun _ => fun
  | [d] => { results := [.lit (.bool true)], args := [d] }
  | _ => none }
def natformTextsRow : OpenClaim := { program := "ytlciocebbckdcaa", sum := "a82bc46689fe6a37709fe7774407949c9986d0d2c8d1a00d4e0137363b7d344c", func := "specie/specielaw04.NatformTexts", spec := "natformTexts", unfollowed := true, recurses := true, named := ["math/bits.overflowError"], apart := false }
def NatformTextsSaid : Prop := natformTextsRow.holds Try.pinned (OpenSpec.ofChange natformTextsSpec)

/-- ITS FALSE NEIGHBOUR: 'it returns false'. Refute it at one input. -/
def natformTextsWrong : ChangeSpec := { name := "natformTexts", fn := fun _ => fun
  | [d] => { results := [.lit (.bool false)], args := [d] }
  | _ => none }
def NatformTextsWrongFalsely : Prop := natformTextsRow.holds Try.pinned (OpenSpec.ofChange natformTextsWrong)

/-- 'specielaw04.NatformParses': WHATEVER THE INPUT: true; the input reads as it did. -/
def natformParsesSpec : ChangeSpec := { name := "natformParses", fn := fun _ => fun
  | [d] => { results := [.lit (.bool true)], args := [d] }
  | _ => none }
def natformParsesRow : OpenClaim := { program := "ytlciocebbckdcaa", sum := "a82bc46689fe6a37709fe7774407949c9986d0d2c8d1a00d4e0137363b7d344c", func := "specie/specielaw04.NatformParses", spec := "natformParses", unfollowed := true, recurses := true, named := ["math/bits.overflowError"], apart := false }
def NatformParsesSaid : Prop := natformParsesRow.holds Try.pinned (OpenSpec.ofChange natformParsesSpec)

/-- ITS FALSE NEIGHBOUR: 'it returns false'. Refute it at one input. -/
def natformParsesWrong : ChangeSpec := { name := "natformParses", fn := fun _ => fun
  | [d] => { results := [.lit (.bool false)], args := [d] }
  | _ => none }
def NatformParsesWrongFalsely : Prop := natformParsesRow.holds Try.pinned (OpenSpec.ofChange natformParsesWrong)

/-- 'specielaw04.NatformBytes': WHATEVER THE INPUT: true; the input reads as it did. -/
def natformBytesSpec : ChangeSpec := { name := "natformBytes", fn := fun _ => fun
  | [d1, d2, d3] => { results := [.lit (.bool true)], args := [d1, d2, d3] }
  | _ => none }
def natformBytesRow : OpenClaim := { program := "ytlciocebbckdcaa", sum := "a82bc46689fe6a37709fe7774407949c9986d0d2c8d1a00d4e0137363b7d344c", func := "specie/specielaw04.NatformBytes", spec := "natformBytes", unfollowed := true, recurses := true, named := ["math/bits.overflowError"], apart := false }
def NatformBytesSaid : Prop := natformBytesRow.holds Try.pinned (OpenSpec.ofChange natformBytesSpec)

/-- ITS FALSE NEIGHBOUR: 'it returns false'. Refute it at one input. -/
def natformBytesWrong : ChangeSpec := { name := "natformBytes", fn := fun _ => fun
  | [d1, d2, d3] => { results := [.lit (.bool false)], args := [d1, d2, d3] }
  | _ => none }
def NatformBytesWrongFalsely : Prop := natformBytesRow.holds Try.pinned (OpenSpec.ofChange natformBytesWrong)

/-- 'specielaw04.NatformBack': WHATEVER THE INPUT: true; the input reads as it did. -/
def natformBackSpec : ChangeSpec := { name := "natformBack", fn := fun _ => fun
  | [d1, d2] => { results := [.lit (.bool true)], args := [d1, d2] }
  | _ => none }
def natformBackRow : OpenClaim := { program := "ytlciocebbckdcaa", sum := "a82bc46689fe6a37709fe7774407949c9986d0d2c8d1a00d4e0137363b7d344c", func := "specie/specielaw04.NatformBack", spec := "natformBack", unfollowed := true, recurses := true, named := ["math/bits.overflowError"], apart := false }
def NatformBackSaid : Prop := natformBackRow.holds Try.pinned (OpenSpec.ofChange natformBackSpec)

/-- ITS FALSE NEIGHBOUR: 'it returns false'. Refute it at one input. -/
def natformBackWrong : ChangeSpec := { name := "natformBack", fn := fun _ => fun
  | [d1, d2] => { results := [.lit (.bool false)], args := [d1, d2] }
  | _ => none }
def NatformBackWrongFalsely : Prop := natformBackRow.holds Try.pinned (OpenSpec.ofChange natformBackWrong)

/-- 'specielaw04.NatformCanonical': WHATEVER THE INPUT: true; the input reads as it did. -/
def natformCanonicalSpec : ChangeSpec := { name := "natformCanonical", fn := fun _ => fun
  | [d1, d2] => { results := [.lit (.bool true)], args := [d1, d2] }
  | _ => none }
def natformCanonicalRow : OpenClaim := { program := "ytlciocebbckdcaa", sum := "a82bc46689fe6a37709fe7774407949c9986d0d2c8d1a00d4e0137363b7d344c", func := "specie/specielaw04.NatformCanonical", spec := "natformCanonical", unfollowed := true, recurses := true, named := ["math/bits.overflowError"], apart := false }
def NatformCanonicalSaid : Prop := natformCanonicalRow.holds Try.pinned (OpenSpec.ofChange natformCanonicalSpec)

/-- ITS FALSE NEIGHBOUR: 'it returns false'. Refute it at one input. -/
def natformCanonicalWrong : ChangeSpec := { name := "natformCanonical", fn := fun _ => fun
  | [d1, d2] => { results := [.lit (.bool false)], args := [d1, d2] }
  | _ => none }
def NatformCanonicalWrongFalsely : Prop := natformCanonicalRow.holds Try.pinned (OpenSpec.ofChange natformCanonicalWrong)

/-- 'specielaw04.NatformDigits': WHATEVER THE INPUT: true; the input reads as it did. -/
def natformDigitsSpec : ChangeSpec := { name := "natformDigits", fn := fun _ => fun
  | [d] => { results := [.lit (.bool true)], args := [d] }
  | _ => none }
def natformDigitsRow : OpenClaim := { program := "ytlciocebbckdcaa", sum := "a82bc46689fe6a37709fe7774407949c9986d0d2c8d1a00d4e0137363b7d344c", func := "specie/specielaw04.NatformDigits", spec := "natformDigits", unfollowed := true, recurses := true, named := ["math/bits.overflowError"], apart := false }
def NatformDigitsSaid : Prop := natformDigitsRow.holds Try.pinned (OpenSpec.ofChange natformDigitsSpec)

/-- ITS FALSE NEIGHBOUR: 'it returns false'. Refute it at one input. -/
def natformDigitsWrong : ChangeSpec := { name := "natformDigits", fn := fun _ => fun
  | [d] => { results := [.lit (.bool false)], args := [d] }
  | _ => none }
def NatformDigitsWrongFalsely : Prop := natformDigitsRow.holds Try.pinned (OpenSpec.ofChange natformDigitsWrong)

/- THE SECOND FORM. 'bulk': how many values and letters a reading holds, each counted each time it is reached (what is shared counts as often as it is met; a slice's spare places count too). A statement '..UptoSaid' is the law's where the arguments, and the package variables that the reading takes, are together of bulk at most 1048576: NARROWER than '..Said'. Prove '..Said' where nothing that the law and all that it calls make is longer than what came in: it says more and counts as full. Else prove '..UptoSaid'. A law counts once. -/
mutual
def uptoBulk {H : Type} : DataW H → Nat
  | .lit (.string bytes) => bytes.length + 1
  | .lit _ => 1
  | .nil => 1
  | .ptr d => uptoBulk d + 1
  | .slice elems spare => uptoBulkAll elems + uptoBulkAll spare + 1
  | .agg parts => uptoBulkAll parts + 1
  | .iface _ d => uptoBulk d + 1
  | .map entries => uptoBulkEntries entries + 1
  | .held _ => 1
def uptoBulkAll {H : Type} : List (DataW H) → Nat
  | [] => 0
  | d :: r => uptoBulk d + uptoBulkAll r
def uptoBulkEntries {H : Type} : List (Lit × DataW H) → Nat
  | [] => 0
  | x :: r => uptoBulkEntry x + uptoBulkEntries r
def uptoBulkEntry {H : Type} : Lit × DataW H → Nat
  | (.string bytes, d) => bytes.length + uptoBulk d + 1
  | (_, d) => uptoBulk d + 1
 end
def uptoSmall : (H : Type) → List (DataW H) → Bool := fun _ ds => decide (uptoBulkAll ds ≤ 1048576)
def OpenSpec.upto (s : _root_.Go.ChangeSpec) : _root_.Go.OpenSpec := { _root_.Go.OpenSpec.ofChange s with cond := some uptoSmall }

/-- 'specielaw03.NatmodSums', WHERE WHAT IT READS IS OF BULK AT MOST 1048576: true; the input reads as it did. -/
def natmodSumsUptoRow : OpenClaim := { program := "ytlciocebbckdcaa", sum := "a82bc46689fe6a37709fe7774407949c9986d0d2c8d1a00d4e0137363b7d344c", func := "specie/specielaw03.NatmodSums", spec := "natmodSums", unfollowed := true, recurses := true, named := ["math/bits.overflowError"], apart := false, narrowed := true }
def NatmodSumsUptoSaid : Prop := natmodSumsUptoRow.holds Try.pinned (OpenSpec.upto natmodSumsSpec)

/-- 'specielaw03.NatmodProducts', WHERE WHAT IT READS IS OF BULK AT MOST 1048576: true; the input reads as it did. -/
def natmodProductsUptoRow : OpenClaim := { program := "ytlciocebbckdcaa", sum := "a82bc46689fe6a37709fe7774407949c9986d0d2c8d1a00d4e0137363b7d344c", func := "specie/specielaw03.NatmodProducts", spec := "natmodProducts", unfollowed := true, recurses := true, named := ["math/bits.overflowError"], apart := false, narrowed := true }
def NatmodProductsUptoSaid : Prop := natmodProductsUptoRow.holds Try.pinned (OpenSpec.upto natmodProductsSpec)

/-- 'specielaw03.NatmodGcd', WHERE WHAT IT READS IS OF BULK AT MOST 1048576: true; the input reads as it did. -/
def natmodGcdUptoRow : OpenClaim := { program := "ytlciocebbckdcaa", sum := "a82bc46689fe6a37709fe7774407949c9986d0d2c8d1a00d4e0137363b7d344c", func := "specie/specielaw03.NatmodGcd", spec := "natmodGcd", unfollowed := true, recurses := true, named := ["math/bits.overflowError"], apart := false, narrowed := true }
def NatmodGcdUptoSaid : Prop := natmodGcdUptoRow.holds Try.pinned (OpenSpec.upto natmodGcdSpec)

/-- 'specielaw03.NatmodCrt', WHERE WHAT IT READS IS OF BULK AT MOST 1048576: true; the input reads as it did. -/
def natmodCrtUptoRow : OpenClaim := { program := "ytlciocebbckdcaa", sum := "a82bc46689fe6a37709fe7774407949c9986d0d2c8d1a00d4e0137363b7d344c", func := "specie/specielaw03.NatmodCrt", spec := "natmodCrt", unfollowed := true, recurses := true, named := ["math/bits.overflowError"], apart := false, narrowed := true }
def NatmodCrtUptoSaid : Prop := natmodCrtUptoRow.holds Try.pinned (OpenSpec.upto natmodCrtSpec)

/-- 'specielaw03.NatmodRing', WHERE WHAT IT READS IS OF BULK AT MOST 1048576: true; the input reads as it did. -/
def natmodRingUptoRow : OpenClaim := { program := "ytlciocebbckdcaa", sum := "a82bc46689fe6a37709fe7774407949c9986d0d2c8d1a00d4e0137363b7d344c", func := "specie/specielaw03.NatmodRing", spec := "natmodRing", unfollowed := true, recurses := true, named := ["math/bits.overflowError"], apart := false, narrowed := true }
def NatmodRingUptoSaid : Prop := natmodRingUptoRow.holds Try.pinned (OpenSpec.upto natmodRingSpec)

/-- 'specielaw03.NatmodPowers', WHERE WHAT IT READS IS OF BULK AT MOST 1048576: true; the input reads as it did. -/
def natmodPowersUptoRow : OpenClaim := { program := "ytlciocebbckdcaa", sum := "a82bc46689fe6a37709fe7774407949c9986d0d2c8d1a00d4e0137363b7d344c", func := "specie/specielaw03.NatmodPowers", spec := "natmodPowers", unfollowed := true, recurses := true, named := ["math/bits.overflowError"], apart := false, narrowed := true }
def NatmodPowersUptoSaid : Prop := natmodPowersUptoRow.holds Try.pinned (OpenSpec.upto natmodPowersSpec)

/-- 'specielaw03.NatmodDivides', WHERE WHAT IT READS IS OF BULK AT MOST 1048576: true; the input reads as it did. -/
def natmodDividesUptoRow : OpenClaim := { program := "ytlciocebbckdcaa", sum := "a82bc46689fe6a37709fe7774407949c9986d0d2c8d1a00d4e0137363b7d344c", func := "specie/specielaw03.NatmodDivides", spec := "natmodDivides", unfollowed := true, recurses := true, named := ["math/bits.overflowError"], apart := false, narrowed := true }
def NatmodDividesUptoSaid : Prop := natmodDividesUptoRow.holds Try.pinned (OpenSpec.upto natmodDividesSpec)

/-- 'specielaw03.NatmodRemainders', WHERE WHAT IT READS IS OF BULK AT MOST 1048576: true; the input reads as it did. -/
def natmodRemaindersUptoRow : OpenClaim := { program := "ytlciocebbckdcaa", sum := "a82bc46689fe6a37709fe7774407949c9986d0d2c8d1a00d4e0137363b7d344c", func := "specie/specielaw03.NatmodRemainders", spec := "natmodRemainders", unfollowed := true, recurses := true, named := ["math/bits.overflowError"], apart := false, narrowed := true }
def NatmodRemaindersUptoSaid : Prop := natmodRemaindersUptoRow.holds Try.pinned (OpenSpec.upto natmodRemaindersSpec)

/-- 'specielaw03.NatmodWord', WHERE WHAT IT READS IS OF BULK AT MOST 1048576: true; the input reads as it did. -/
def natmodWordUptoRow : OpenClaim := { program := "ytlciocebbckdcaa", sum := "a82bc46689fe6a37709fe7774407949c9986d0d2c8d1a00d4e0137363b7d344c", func := "specie/specielaw03.NatmodWord", spec := "natmodWord", unfollowed := true, recurses := true, named := ["math/bits.overflowError", "math/bits.divideError"], apart := false, narrowed := true }
def NatmodWordUptoSaid : Prop := natmodWordUptoRow.holds Try.pinned (OpenSpec.upto natmodWordSpec)

/-- 'specielaw04.NatformTexts', WHERE WHAT IT READS IS OF BULK AT MOST 1048576: true; the input reads as it did. -/
def natformTextsUptoRow : OpenClaim := { program := "ytlciocebbckdcaa", sum := "a82bc46689fe6a37709fe7774407949c9986d0d2c8d1a00d4e0137363b7d344c", func := "specie/specielaw04.NatformTexts", spec := "natformTexts", unfollowed := true, recurses := true, named := ["math/bits.overflowError"], apart := false, narrowed := true }
def NatformTextsUptoSaid : Prop := natformTextsUptoRow.holds Try.pinned (OpenSpec.upto natformTextsSpec)

/-- 'specielaw04.NatformParses', WHERE WHAT IT READS IS OF BULK AT MOST 1048576: true; the input reads as it did. -/
def natformParsesUptoRow : OpenClaim := { program := "ytlciocebbckdcaa", sum := "a82bc46689fe6a37709fe7774407949c9986d0d2c8d1a00d4e0137363b7d344c", func := "specie/specielaw04.NatformParses", spec := "natformParses", unfollowed := true, recurses := true, named := ["math/bits.overflowError"], apart := false, narrowed := true }
def NatformParsesUptoSaid : Prop := natformParsesUptoRow.holds Try.pinned (OpenSpec.upto natformParsesSpec)

/-- 'specielaw04.NatformBytes', WHERE WHAT IT READS IS OF BULK AT MOST 1048576: true; the input reads as it did. -/
def natformBytesUptoRow : OpenClaim := { program := "ytlciocebbckdcaa", sum := "a82bc46689fe6a37709fe7774407949c9986d0d2c8d1a00d4e0137363b7d344c", func := "specie/specielaw04.NatformBytes", spec := "natformBytes", unfollowed := true, recurses := true, named := ["math/bits.overflowError"], apart := false, narrowed := true }
def NatformBytesUptoSaid : Prop := natformBytesUptoRow.holds Try.pinned (OpenSpec.upto natformBytesSpec)

/-- 'specielaw04.NatformBack', WHERE WHAT IT READS IS OF BULK AT MOST 1048576: true; the input reads as it did. -/
def natformBackUptoRow : OpenClaim := { program := "ytlciocebbckdcaa", sum := "a82bc46689fe6a37709fe7774407949c9986d0d2c8d1a00d4e0137363b7d344c", func := "specie/specielaw04.NatformBack", spec := "natformBack", unfollowed := true, recurses := true, named := ["math/bits.overflowError"], apart := false, narrowed := true }
def NatformBackUptoSaid : Prop := natformBackUptoRow.holds Try.pinned (OpenSpec.upto natformBackSpec)

/-- 'specielaw04.NatformCanonical', WHERE WHAT IT READS IS OF BULK AT MOST 1048576: true; the input reads as it did. -/
def natformCanonicalUptoRow : OpenClaim := { program := "ytlciocebbckdcaa", sum := "a82bc46689fe6a37709fe7774407949c9986d0d2c8d1a00d4e0137363b7d344c", func := "specie/specielaw04.NatformCanonical", spec := "natformCanonical", unfollowed := true, recurses := true, named := ["math/bits.overflowError"], apart := false, narrowed := true }
def NatformCanonicalUptoSaid : Prop := natformCanonicalUptoRow.holds Try.pinned (OpenSpec.upto natformCanonicalSpec)

/-- 'specielaw04.NatformDigits', WHERE WHAT IT READS IS OF BULK AT MOST 1048576: true; the input reads as it did. -/
def natformDigitsUptoRow : OpenClaim := { program := "ytlciocebbckdcaa", sum := "a82bc46689fe6a37709fe7774407949c9986d0d2c8d1a00d4e0137363b7d344c", func := "specie/specielaw04.NatformDigits", spec := "natformDigits", unfollowed := true, recurses := true, named := ["math/bits.overflowError"], apart := false, narrowed := true }
def NatformDigitsUptoSaid : Prop := natformDigitsUptoRow.holds Try.pinned (OpenSpec.upto natformDigitsSpec)

end Rows
end Go.Proofs.Ytlciocebbckdcaa
