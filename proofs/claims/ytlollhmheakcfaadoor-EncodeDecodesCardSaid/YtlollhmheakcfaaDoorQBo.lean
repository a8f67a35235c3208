/- The reader: item, items. -/
import Derived.Test.YtlollhmheakcfaaDoorQBna
import Derived.Test.YtlollhmheakcfaaDoorQBnb
import Derived.Test.YtlollhmheakcfaaDoorQBnc
import Derived.Test.YtlollhmheakcfaaDoorQBnd
import Derived.Test.YtlollhmheakcfaaDoorQBne
import Derived.Test.YtlollhmheakcfaaDoorQBnf
import Derived.Test.YtlollhmheakcfaaDoorQBng
import Derived.Test.YtlollhmheakcfaaDoorQBnh
import Derived.Test.YtlollhmheakcfaaDoorQBni
import Derived.Deep.Cut
namespace Go.Proofs.YtlollhmheakcfaaDoor.Dg
open Go Go.RowKit Go.Proofs.YtlollhmheakcfaaDoor.Ne Go.Proofs.YtlollhmheakcfaaDoor.Kr

theorem item_step {d : Nat} (hd : d ≤ 100) (ih : ∀ e, e + 1 = d → ∀ {w : World} {br b off n c ps : Nat} {l : List (BitVec 8)} (_ : w.heap[br]? = some (.cells (rdr (.slice (some ⟨b, off, none⟩) n c) (ps : Int) 0).toArray 60 (0, 0))) (_ : SrcB (some ⟨b, off, none⟩) l w) (_ : Off br (some ⟨b, off, none⟩)) (_ : l.length = n) (_ : n ≤ 20000) (_ : n ≤ c) (_ : ps ≤ n), Calls Tryd.prog 50 #[.pointer (some ⟨br, 0, none⟩), .int .i64 (e : Int)] w fun o w' => ItemsP w br b off n c ps e l o w') : ∀ {w : World} {br b off n c ps : Nat} {l : List (BitVec 8)} (_ : w.heap[br]? = some (.cells (rdr (.slice (some ⟨b, off, none⟩) n c) (ps : Int) 0).toArray 60 (0, 0))) (_ : SrcB (some ⟨b, off, none⟩) l w) (_ : Off br (some ⟨b, off, none⟩)) (_ : l.length = n) (_ : n ≤ 20000) (_ : n ≤ c) (_ : ps ≤ n), Calls Tryd.prog 40 #[.pointer (some ⟨br, 0, none⟩), .int .i64 (d : Int)] w fun o w' => ItemP w br b off n c ps d l o w' := by
  intro w br b off n c ps l hr hS hO hl hn hc hp
  rcases hL0 : l.drop ps with _ | ⟨kb, L2⟩
  · exact item_nil hr hS hO hl hn hc hp hL0
  by_cases k1 : kb = 1#8
  · subst k1
    by_cases hx : L2.length < 8
    · exact item_k1a hr hS hO hl hn hc hp hL0 hx
    · exact item_k1b hr hS hO hl hn hc hp hL0 hx
  by_cases k2 : kb = 2#8
  · subst k2
    by_cases hx : L2.length < 4
    · exact item_k2a hr hS hO hl hn hc hp hL0 hx
    by_cases hy : (L2.drop 4).length < (nb (L2.take 4)).toNat
    · exact item_k2b hr hS hO hl hn hc hp hL0 hx hy
    · exact item_k2c hr hS hO hl hn hc hp hL0 hx hy
  by_cases k3 : kb = 3#8
  · subst k3
    cases d with
    | zero => exact item_k30 hr hS hO hl hn hc hp hL0
    | succ d => exact item_k3 hr hS hO hl hn hc hp hL0 (by omega) (ih d rfl)
  · exact item_kx hr hS hO hl hn hc hp k1 k2 k3 hL0
theorem item_v : ∀ (d : Nat), d ≤ 100 → ∀ {w : World} {br b off n c ps : Nat} {l : List (BitVec 8)} (_ : w.heap[br]? = some (.cells (rdr (.slice (some ⟨b, off, none⟩) n c) (ps : Int) 0).toArray 60 (0, 0))) (_ : SrcB (some ⟨b, off, none⟩) l w) (_ : Off br (some ⟨b, off, none⟩)) (_ : l.length = n) (_ : n ≤ 20000) (_ : n ≤ c) (_ : ps ≤ n), Calls Tryd.prog 40 #[.pointer (some ⟨br, 0, none⟩), .int .i64 (d : Int)] w fun o w' => ItemP w br b off n c ps d l o w'
  | 0, h => item_step h (fun e he => by omega)
  | d + 1, h => item_step h (fun e he => by
      obtain rfl : e = d := by omega
      exact items_step (item_v e (by omega)))

end Go.Proofs.YtlollhmheakcfaaDoor.Dg
