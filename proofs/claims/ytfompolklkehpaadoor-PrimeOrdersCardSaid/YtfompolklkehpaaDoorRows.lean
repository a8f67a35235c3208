/-
  NARROWER THAN 'FOR EVERY INPUT', by the rows' own cells (each row's printed sentence says how): PrimeTests: laid · PrimeFactors: laid · PrimeRoots: laid · PrimeDivides: laid · PrimeProducts: laid · PrimeOrders: laid · PrimeSound: loops, laid.
  DERIVED. THE GIVEN ROWS OF THIS SEAT. 7 by the template 'for every input the law returns true; each argument reads behind the call as it read before'; 0 by the template 'total and deterministic' (their statements: YtfompolklkehpaaDoorTotals.lean).
  GIVEN WITH THE SEED: the statements are not yours to turn. If you find one false, say at which input.
  Laid BY PROGRAM, IN A SANDBOX (cutbox-rows.mjs): the forced cells as the released guide's own fill.sh prints them over the translation 6e8c50ed6293dfbb… (all of the seat's roots in one cut). By AI agents, Wed Nov 11 2026. No macro, syntax, notation, axiom, sorry.
-/
import Derived.Test.YtfompolklkehpaaDoorChecked
import GoSem.Claim
import GoSem.ClaimJoined
import GoSem.ClaimMapViews
import Derived.JoinedTies
import Derived.KernelRfl
namespace Go.Proofs.YtfompolklkehpaaDoor
/- THE CELL 'sum', in the pinned program and in every row, IS THE sha256 OF THE DUMP (.gsa) THAT YtfompolklkehpaaDoorProg.lean LOADS. Nothing in Lean hashes anything: it is a label: what it is worth is what the hold of that sum in a sandbox is worth. -/
noncomputable def Tryd.pinned : Pinned := { name := "ytfompolklkehpaadoor", sum := "6e8c50ed6293dfbbf9164ee5e89ce3fe598589c2a68d3e26c9d81a55576d91c0", checked := Tryd.checked }
namespace Rows
def none {H : Type} : Left H := { results := [], args := [] }

/- WHAT THE LISTED PACKAGE-LEVEL VARIABLES READ AS WHEN THE CALL BEGINS. Each datum BY PROGRAM (the guide's laid-datum.mjs) off the statement by which the dump's own 'gosem.cut.vars' lays the variable. In a bare row this is a premise. The card (YtfompolklkehpaaDoorCards.lean) ties it to the program's text. -/
def laid_math_bits_deBruijn64tab {H : Type} : DataW H := .agg [.lit (.int .u8 0), .lit (.int .u8 1), .lit (.int .u8 56), .lit (.int .u8 2), .lit (.int .u8 57), .lit (.int .u8 49), .lit (.int .u8 28), .lit (.int .u8 3), .lit (.int .u8 61), .lit (.int .u8 58), .lit (.int .u8 42), .lit (.int .u8 50), .lit (.int .u8 38), .lit (.int .u8 29), .lit (.int .u8 17), .lit (.int .u8 4), .lit (.int .u8 62), .lit (.int .u8 47), .lit (.int .u8 59), .lit (.int .u8 36), .lit (.int .u8 45), .lit (.int .u8 43), .lit (.int .u8 51), .lit (.int .u8 22), .lit (.int .u8 53), .lit (.int .u8 39), .lit (.int .u8 33), .lit (.int .u8 30), .lit (.int .u8 24), .lit (.int .u8 18), .lit (.int .u8 12), .lit (.int .u8 5), .lit (.int .u8 63), .lit (.int .u8 55), .lit (.int .u8 48), .lit (.int .u8 27), .lit (.int .u8 60), .lit (.int .u8 41), .lit (.int .u8 37), .lit (.int .u8 16), .lit (.int .u8 46), .lit (.int .u8 35), .lit (.int .u8 44), .lit (.int .u8 21), .lit (.int .u8 52), .lit (.int .u8 32), .lit (.int .u8 23), .lit (.int .u8 11), .lit (.int .u8 54), .lit (.int .u8 26), .lit (.int .u8 40), .lit (.int .u8 15), .lit (.int .u8 34), .lit (.int .u8 20), .lit (.int .u8 31), .lit (.int .u8 10), .lit (.int .u8 25), .lit (.int .u8 14), .lit (.int .u8 19), .lit (.int .u8 9), .lit (.int .u8 13), .lit (.int .u8 8), .lit (.int .u8 7), .lit (.int .u8 6)]
def laid_specie_prime_bases {H : Type} : DataW H := .agg [.lit (.int .i64 2), .lit (.int .i64 3), .lit (.int .i64 5), .lit (.int .i64 7), .lit (.int .i64 11), .lit (.int .i64 13), .lit (.int .i64 17), .lit (.int .i64 19), .lit (.int .i64 23), .lit (.int .i64 29), .lit (.int .i64 31), .lit (.int .i64 37)]

/-- 'specielaw05.PrimeTests': WHATEVER THE INPUT: true; the input reads as it did. -/
def primeTestsSpec : ChangeSpec := { name := "primeTests", fn := fun _ => fun
  | [d] => { results := [.lit (.bool true)], args := [d] }
  | _ => none }
def primeTestsRow : OpenClaim := { program := "ytfompolklkehpaadoor", sum := "6e8c50ed6293dfbbf9164ee5e89ce3fe598589c2a68d3e26c9d81a55576d91c0", func := "specie/specielaw05.PrimeTests", spec := "primeTests", unfollowed := true, recurses := true, named := ["specie/prime.bases", "math/bits.deBruijn64tab", "math/bits.divideError", "math/bits.overflowError"], apart := false, laid := [("math/bits.deBruijn64tab", laid_math_bits_deBruijn64tab), ("specie/prime.bases", laid_specie_prime_bases)] }
def PrimeTestsSaid : Prop := primeTestsRow.holds Tryd.pinned (OpenSpec.ofChange primeTestsSpec)

/-- ITS FALSE NEIGHBOUR: 'it returns false'. Refute it at one input. -/
def primeTestsWrong : ChangeSpec := { name := "primeTests", fn := fun _ => fun
  | [d] => { results := [.lit (.bool false)], args := [d] }
  | _ => none }
def PrimeTestsWrongFalsely : Prop := primeTestsRow.holds Tryd.pinned (OpenSpec.ofChange primeTestsWrong)

/-- 'specielaw05.PrimeFactors': WHATEVER THE INPUT: true; the input reads as it did. -/
def primeFactorsSpec : ChangeSpec := { name := "primeFactors", fn := fun _ => fun
  | [d] => { results := [.lit (.bool true)], args := [d] }
  | _ => none }
def primeFactorsRow : OpenClaim := { program := "ytfompolklkehpaadoor", sum := "6e8c50ed6293dfbbf9164ee5e89ce3fe598589c2a68d3e26c9d81a55576d91c0", func := "specie/specielaw05.PrimeFactors", spec := "primeFactors", unfollowed := true, recurses := true, named := ["specie/prime.bases", "math/bits.deBruijn64tab", "math/bits.divideError", "math/bits.overflowError"], apart := false, laid := [("math/bits.deBruijn64tab", laid_math_bits_deBruijn64tab), ("specie/prime.bases", laid_specie_prime_bases)] }
def PrimeFactorsSaid : Prop := primeFactorsRow.holds Tryd.pinned (OpenSpec.ofChange primeFactorsSpec)

/-- ITS FALSE NEIGHBOUR: 'it returns false'. Refute it at one input. -/
def primeFactorsWrong : ChangeSpec := { name := "primeFactors", fn := fun _ => fun
  | [d] => { results := [.lit (.bool false)], args := [d] }
  | _ => none }
def PrimeFactorsWrongFalsely : Prop := primeFactorsRow.holds Tryd.pinned (OpenSpec.ofChange primeFactorsWrong)

/-- 'specielaw05.PrimeRoots': WHATEVER THE INPUT: true; the input reads as it did. -/
def primeRootsSpec : ChangeSpec := { name := "primeRoots", fn := fun _ => fun
  | [d] => { results := [.lit (.bool true)], args := [d] }
  | _ => none }
def primeRootsRow : OpenClaim := { program := "ytfompolklkehpaadoor", sum := "6e8c50ed6293dfbbf9164ee5e89ce3fe598589c2a68d3e26c9d81a55576d91c0", func := "specie/specielaw05.PrimeRoots", spec := "primeRoots", unfollowed := true, recurses := true, named := ["specie/prime.bases", "math/bits.deBruijn64tab", "math/bits.divideError", "math/bits.overflowError"], apart := false, laid := [("math/bits.deBruijn64tab", laid_math_bits_deBruijn64tab), ("specie/prime.bases", laid_specie_prime_bases)] }
def PrimeRootsSaid : Prop := primeRootsRow.holds Tryd.pinned (OpenSpec.ofChange primeRootsSpec)

/-- ITS FALSE NEIGHBOUR: 'it returns false'. Refute it at one input. -/
def primeRootsWrong : ChangeSpec := { name := "primeRoots", fn := fun _ => fun
  | [d] => { results := [.lit (.bool false)], args := [d] }
  | _ => none }
def PrimeRootsWrongFalsely : Prop := primeRootsRow.holds Tryd.pinned (OpenSpec.ofChange primeRootsWrong)

/-- 'specielaw05.PrimeDivides': WHATEVER THE INPUT: true; the input reads as it did. -/
def primeDividesSpec : ChangeSpec := { name := "primeDivides", fn := fun _ => fun
  | [d] => { results := [.lit (.bool true)], args := [d] }
  | _ => none }
def primeDividesRow : OpenClaim := { program := "ytfompolklkehpaadoor", sum := "6e8c50ed6293dfbbf9164ee5e89ce3fe598589c2a68d3e26c9d81a55576d91c0", func := "specie/specielaw05.PrimeDivides", spec := "primeDivides", unfollowed := true, recurses := true, named := ["specie/prime.bases", "math/bits.deBruijn64tab", "math/bits.divideError", "math/bits.overflowError"], apart := false, laid := [("math/bits.deBruijn64tab", laid_math_bits_deBruijn64tab), ("specie/prime.bases", laid_specie_prime_bases)] }
def PrimeDividesSaid : Prop := primeDividesRow.holds Tryd.pinned (OpenSpec.ofChange primeDividesSpec)

/-- ITS FALSE NEIGHBOUR: 'it returns false'. Refute it at one input. -/
def primeDividesWrong : ChangeSpec := { name := "primeDivides", fn := fun _ => fun
  | [d] => { results := [.lit (.bool false)], args := [d] }
  | _ => none }
def PrimeDividesWrongFalsely : Prop := primeDividesRow.holds Tryd.pinned (OpenSpec.ofChange primeDividesWrong)

/-- 'specielaw05.PrimeProducts': WHATEVER THE INPUT: true; the input reads as it did. -/
def primeProductsSpec : ChangeSpec := { name := "primeProducts", fn := fun _ => fun
  | [d] => { results := [.lit (.bool true)], args := [d] }
  | _ => none }
def primeProductsRow : OpenClaim := { program := "ytfompolklkehpaadoor", sum := "6e8c50ed6293dfbbf9164ee5e89ce3fe598589c2a68d3e26c9d81a55576d91c0", func := "specie/specielaw05.PrimeProducts", spec := "primeProducts", unfollowed := true, recurses := true, named := ["specie/prime.bases", "math/bits.deBruijn64tab", "math/bits.divideError", "math/bits.overflowError"], apart := false, laid := [("math/bits.deBruijn64tab", laid_math_bits_deBruijn64tab), ("specie/prime.bases", laid_specie_prime_bases)] }
def PrimeProductsSaid : Prop := primeProductsRow.holds Tryd.pinned (OpenSpec.ofChange primeProductsSpec)

/-- ITS FALSE NEIGHBOUR: 'it returns false'. Refute it at one input. -/
def primeProductsWrong : ChangeSpec := { name := "primeProducts", fn := fun _ => fun
  | [d] => { results := [.lit (.bool false)], args := [d] }
  | _ => none }
def PrimeProductsWrongFalsely : Prop := primeProductsRow.holds Tryd.pinned (OpenSpec.ofChange primeProductsWrong)

/-- 'specielaw05.PrimeOrders': WHATEVER THE INPUT: true; the input reads as it did. -/
def primeOrdersSpec : ChangeSpec := { name := "primeOrders", fn := fun _ => fun
  | [d] => { results := [.lit (.bool true)], args := [d] }
  | _ => none }
def primeOrdersRow : OpenClaim := { program := "ytfompolklkehpaadoor", sum := "6e8c50ed6293dfbbf9164ee5e89ce3fe598589c2a68d3e26c9d81a55576d91c0", func := "specie/specielaw05.PrimeOrders", spec := "primeOrders", unfollowed := true, recurses := true, named := ["specie/prime.bases", "math/bits.deBruijn64tab", "math/bits.divideError", "math/bits.overflowError"], apart := false, laid := [("math/bits.deBruijn64tab", laid_math_bits_deBruijn64tab), ("specie/prime.bases", laid_specie_prime_bases)] }
def PrimeOrdersSaid : Prop := primeOrdersRow.holds Tryd.pinned (OpenSpec.ofChange primeOrdersSpec)

/-- ITS FALSE NEIGHBOUR: 'it returns false'. Refute it at one input. -/
def primeOrdersWrong : ChangeSpec := { name := "primeOrders", fn := fun _ => fun
  | [d] => { results := [.lit (.bool false)], args := [d] }
  | _ => none }
def PrimeOrdersWrongFalsely : Prop := primeOrdersRow.holds Tryd.pinned (OpenSpec.ofChange primeOrdersWrong)

/-- 'specielaw05.PrimeSound': WHATEVER THE INPUT: true; the input reads as it did. -/
def primeSoundSpec : ChangeSpec := { name := "primeSound", fn := fun _ => fun
  | [d1, d2] => { results := [.lit (.bool true)], args := [d1, d2] }
  | _ => none }
def primeSoundRow : OpenClaim := { program := "ytfompolklkehpaadoor", sum := "6e8c50ed6293dfbbf9164ee5e89ce3fe598589c2a68d3e26c9d81a55576d91c0", func := "specie/specielaw05.PrimeSound", spec := "primeSound", unfollowed := true, recurses := true, named := ["specie/prime.bases", "math/bits.deBruijn64tab", "math/bits.divideError", "math/bits.overflowError"], loops := true, apart := false, laid := [("math/bits.deBruijn64tab", laid_math_bits_deBruijn64tab), ("specie/prime.bases", laid_specie_prime_bases)] }
def PrimeSoundSaid : Prop := primeSoundRow.holds Tryd.pinned (OpenSpec.ofChange primeSoundSpec)

/-- ITS FALSE NEIGHBOUR: 'it returns false'. Refute it at one input. -/
def primeSoundWrong : ChangeSpec := { name := "primeSound", fn := fun _ => fun
  | [d1, d2] => { results := [.lit (.bool false)], args := [d1, d2] }
  | _ => none }
def PrimeSoundWrongFalsely : Prop := primeSoundRow.holds Tryd.pinned (OpenSpec.ofChange primeSoundWrong)

/- THE SECOND FORM. 'bulk': how many values and letters a reading holds, each counted each time it is reached (what is shared counts as often as it is met; a slice's spare places count too). A statement '..UptoSaid' is the law's where the arguments, and the package variables that the reading takes, are together of bulk at most 1048576: NARROWER than '..Said'. Prove '..Said' where nothing that the law and all that it calls make is longer than what came in: it says more and counts as full. Else prove '..UptoSaid'. A law counts once. -/
mutual
def uptoBulk {H : Type} : DataW H → Nat
  | .lit (.string bytes) => bytes.length + 1
  | .lit _ => 1
  | .nil => 1
  | .ptr d => uptoBulk d + 1
  | .slice elems spare => uptoBulkAll elems + uptoBulkAll spare + 1
  | .agg parts => uptoBulkAll parts + 1
  | .iface _ d => uptoBulk d + 1
  | .map entries => uptoBulkEntries entries + 1
  | .held _ => 1
def uptoBulkAll {H : Type} : List (DataW H) → Nat
  | [] => 0
  | d :: r => uptoBulk d + uptoBulkAll r
def uptoBulkEntries {H : Type} : List (Lit × DataW H) → Nat
  | [] => 0
  | x :: r => uptoBulkEntry x + uptoBulkEntries r
def uptoBulkEntry {H : Type} : Lit × DataW H → Nat
  | (.string bytes, d) => bytes.length + uptoBulk d + 1
  | (_, d) => uptoBulk d + 1
 end
def uptoSmall : (H : Type) → List (DataW H) → Bool := fun _ ds => decide (uptoBulkAll ds ≤ 1048576)
def OpenSpec.upto (s : _root_.Go.ChangeSpec) : _root_.Go.OpenSpec := { _root_.Go.OpenSpec.ofChange s with cond := some uptoSmall }

/-- 'specielaw05.PrimeTests', WHERE WHAT IT READS IS OF BULK AT MOST 1048576: true; the input reads as it did. -/
def primeTestsUptoRow : OpenClaim := { program := "ytfompolklkehpaadoor", sum := "6e8c50ed6293dfbbf9164ee5e89ce3fe598589c2a68d3e26c9d81a55576d91c0", func := "specie/specielaw05.PrimeTests", spec := "primeTests", unfollowed := true, recurses := true, named := ["specie/prime.bases", "math/bits.deBruijn64tab", "math/bits.divideError", "math/bits.overflowError"], apart := false, laid := [("math/bits.deBruijn64tab", laid_math_bits_deBruijn64tab), ("specie/prime.bases", laid_specie_prime_bases)], narrowed := true }
def PrimeTestsUptoSaid : Prop := primeTestsUptoRow.holds Tryd.pinned (OpenSpec.upto primeTestsSpec)

/-- 'specielaw05.PrimeFactors', WHERE WHAT IT READS IS OF BULK AT MOST 1048576: true; the input reads as it did. -/
def primeFactorsUptoRow : OpenClaim := { program := "ytfompolklkehpaadoor", sum := "6e8c50ed6293dfbbf9164ee5e89ce3fe598589c2a68d3e26c9d81a55576d91c0", func := "specie/specielaw05.PrimeFactors", spec := "primeFactors", unfollowed := true, recurses := true, named := ["specie/prime.bases", "math/bits.deBruijn64tab", "math/bits.divideError", "math/bits.overflowError"], apart := false, laid := [("math/bits.deBruijn64tab", laid_math_bits_deBruijn64tab), ("specie/prime.bases", laid_specie_prime_bases)], narrowed := true }
def PrimeFactorsUptoSaid : Prop := primeFactorsUptoRow.holds Tryd.pinned (OpenSpec.upto primeFactorsSpec)

/-- 'specielaw05.PrimeRoots', WHERE WHAT IT READS IS OF BULK AT MOST 1048576: true; the input reads as it did. -/
def primeRootsUptoRow : OpenClaim := { program := "ytfompolklkehpaadoor", sum := "6e8c50ed6293dfbbf9164ee5e89ce3fe598589c2a68d3e26c9d81a55576d91c0", func := "specie/specielaw05.PrimeRoots", spec := "primeRoots", unfollowed := true, recurses := true, named := ["specie/prime.bases", "math/bits.deBruijn64tab", "math/bits.divideError", "math/bits.overflowError"], apart := false, laid := [("math/bits.deBruijn64tab", laid_math_bits_deBruijn64tab), ("specie/prime.bases", laid_specie_prime_bases)], narrowed := true }
def PrimeRootsUptoSaid : Prop := primeRootsUptoRow.holds Tryd.pinned (OpenSpec.upto primeRootsSpec)

/-- 'specielaw05.PrimeDivides', WHERE WHAT IT READS IS OF BULK AT MOST 1048576: true; the input reads as it did. -/
def primeDividesUptoRow : OpenClaim := { program := "ytfompolklkehpaadoor", sum := "6e8c50ed6293dfbbf9164ee5e89ce3fe598589c2a68d3e26c9d81a55576d91c0", func := "specie/specielaw05.PrimeDivides", spec := "primeDivides", unfollowed := true, recurses := true, named := ["specie/prime.bases", "math/bits.deBruijn64tab", "math/bits.divideError", "math/bits.overflowError"], apart := false, laid := [("math/bits.deBruijn64tab", laid_math_bits_deBruijn64tab), ("specie/prime.bases", laid_specie_prime_bases)], narrowed := true }
def PrimeDividesUptoSaid : Prop := primeDividesUptoRow.holds Tryd.pinned (OpenSpec.upto primeDividesSpec)

/-- 'specielaw05.PrimeProducts', WHERE WHAT IT READS IS OF BULK AT MOST 1048576: true; the input reads as it did. -/
def primeProductsUptoRow : OpenClaim := { program := "ytfompolklkehpaadoor", sum := "6e8c50ed6293dfbbf9164ee5e89ce3fe598589c2a68d3e26c9d81a55576d91c0", func := "specie/specielaw05.PrimeProducts", spec := "primeProducts", unfollowed := true, recurses := true, named := ["specie/prime.bases", "math/bits.deBruijn64tab", "math/bits.divideError", "math/bits.overflowError"], apart := false, laid := [("math/bits.deBruijn64tab", laid_math_bits_deBruijn64tab), ("specie/prime.bases", laid_specie_prime_bases)], narrowed := true }
def PrimeProductsUptoSaid : Prop := primeProductsUptoRow.holds Tryd.pinned (OpenSpec.upto primeProductsSpec)

/-- 'specielaw05.PrimeOrders', WHERE WHAT IT READS IS OF BULK AT MOST 1048576: true; the input reads as it did. -/
def primeOrdersUptoRow : OpenClaim := { program := "ytfompolklkehpaadoor", sum := "6e8c50ed6293dfbbf9164ee5e89ce3fe598589c2a68d3e26c9d81a55576d91c0", func := "specie/specielaw05.PrimeOrders", spec := "primeOrders", unfollowed := true, recurses := true, named := ["specie/prime.bases", "math/bits.deBruijn64tab", "math/bits.divideError", "math/bits.overflowError"], apart := false, laid := [("math/bits.deBruijn64tab", laid_math_bits_deBruijn64tab), ("specie/prime.bases", laid_specie_prime_bases)], narrowed := true }
def PrimeOrdersUptoSaid : Prop := primeOrdersUptoRow.holds Tryd.pinned (OpenSpec.upto primeOrdersSpec)

/-- 'specielaw05.PrimeSound', WHERE WHAT IT READS IS OF BULK AT MOST 1048576: true; the input reads as it did. -/
def primeSoundUptoRow : OpenClaim := { program := "ytfompolklkehpaadoor", sum := "6e8c50ed6293dfbbf9164ee5e89ce3fe598589c2a68d3e26c9d81a55576d91c0", func := "specie/specielaw05.PrimeSound", spec := "primeSound", unfollowed := true, recurses := true, named := ["specie/prime.bases", "math/bits.deBruijn64tab", "math/bits.divideError", "math/bits.overflowError"], loops := true, apart := false, laid := [("math/bits.deBruijn64tab", laid_math_bits_deBruijn64tab), ("specie/prime.bases", laid_specie_prime_bases)], narrowed := true }
def PrimeSoundUptoSaid : Prop := primeSoundUptoRow.holds Tryd.pinned (OpenSpec.upto primeSoundSpec)

end Rows
end Go.Proofs.YtfompolklkehpaaDoor
