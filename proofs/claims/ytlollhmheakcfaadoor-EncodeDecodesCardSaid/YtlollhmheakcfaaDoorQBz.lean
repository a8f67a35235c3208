/- The reference's read. -/
import Derived.Test.YtlollhmheakcfaaDoorQBya
import Derived.Test.YtlollhmheakcfaaDoorQByb
import Derived.Test.YtlollhmheakcfaaDoorQByc
import Derived.Test.YtlollhmheakcfaaDoorQByd
import Derived.Test.YtlollhmheakcfaaDoorQBye
import Derived.Test.YtlollhmheakcfaaDoorQByf
import Derived.Test.YtlollhmheakcfaaDoorQByg
import Derived.Test.YtlollhmheakcfaaDoorQByh
import Derived.Test.YtlollhmheakcfaaDoorQByi
import Derived.Test.YtlollhmheakcfaaDoorQByj
import Derived.Test.YtlollhmheakcfaaDoorQByk
import Derived.Test.YtlollhmheakcfaaDoorQByl
import Derived.Deep.Cut
namespace Go.Proofs.YtlollhmheakcfaaDoor.Dg
open Go Go.RowKit Go.Proofs.YtlollhmheakcfaaDoor.Ne Go.Proofs.YtlollhmheakcfaaDoor.Kr

theorem read_step {d : Nat} (ih : ∀ e, e + 1 = d → ∀ {w : World} {b off n c wi : Nat} {l : List (BitVec 8)} (_ : wi + e = 8) (_ : SrcB (some ⟨b, off, none⟩) l w) (_ : l.length = n) (_ : n ≤ 20000) (_ : n ≤ c), Calls Tryd.prog 42 #[.slice (some ⟨b, off, none⟩) n c, .int .i64 (wi : Int)] w fun o w' => ReadP w b e l o w') : ∀ {w : World} {b off n c wi : Nat} {l : List (BitVec 8)} (_ : wi + d = 8) (_ : SrcB (some ⟨b, off, none⟩) l w) (_ : l.length = n) (_ : n ≤ 20000) (_ : n ≤ c), Calls Tryd.prog 42 #[.slice (some ⟨b, off, none⟩) n c, .int .i64 (wi : Int)] w fun o w' => ReadP w b d l o w' := by
  intro w b off n c wi l hw hS hl hn hc
  rcases hL0 : l with _ | ⟨kb, L2⟩
  · subst hL0
    exact read_nil hl.symm rfl
  rw [← hL0]
  obtain ⟨kn, hkn⟩ : ∃ z : Int, (kb.toNat : Int) = z := ⟨_, rfl⟩
  have h0 : 0 ≤ kn := by omega
  by_cases k0 : kn = 0
  · exact read_kx0 hw hS hl hn hc (hkn.trans k0) hL0
  by_cases k1 : kn = 1
  · by_cases hx : L2.length < 8
    · exact read_k1a hw hS hl hn hc (hkn.trans k1) hL0 hx
    · exact read_k1b hw hS hl hn hc (hkn.trans k1) hL0 hx
  by_cases k2 : kn = 2
  · by_cases hx : L2.length < 4
    · exact read_k2a hw hS hl hn hc (hkn.trans k2) hL0 hx
    by_cases hy : (L2.drop 4).length < (nb (L2.take 4)).toNat
    · exact read_k2b hw hS hl hn hc (hkn.trans k2) hL0 hx hy
    · exact read_k2c hw hS hl hn hc (hkn.trans k2) hL0 hx hy
  by_cases k3 : kn = 3
  · cases d with
    | zero => exact read_k30 hw hS hl hn hc (hkn.trans k3) hL0
    | succ d =>
      by_cases hx : L2.length < 4
      · exact read_k3a hw hS hl hn hc (hkn.trans k3) hL0 hx
      by_cases hy : 1000 < (nb (L2.take 4)).toNat
      · exact read_k3b hw hS hl hn hc (hkn.trans k3) hL0 hx hy
      · exact read_k3 (ih d rfl) hw hS hl hn hc (hkn.trans k3) hL0 hx hy
  · exact read_kx4 hw hS hl hn hc hkn hL0 (by omega)
theorem read_v : ∀ (d : Nat), ∀ {w : World} {b off n c wi : Nat} {l : List (BitVec 8)} (_ : wi + d = 8) (_ : SrcB (some ⟨b, off, none⟩) l w) (_ : l.length = n) (_ : n ≤ 20000) (_ : n ≤ c), Calls Tryd.prog 42 #[.slice (some ⟨b, off, none⟩) n c, .int .i64 (wi : Int)] w fun o w' => ReadP w b d l o w'
  | 0 => read_step (fun e he => by omega)
  | d + 1 => read_step (fun e he => by
      obtain rfl : e = d := by omega
      exact read_v e)

end Go.Proofs.YtlollhmheakcfaaDoor.Dg
