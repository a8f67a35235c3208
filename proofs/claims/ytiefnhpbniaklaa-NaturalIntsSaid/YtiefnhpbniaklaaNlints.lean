/- The walk of NaturalInts: Valid, Of, Int, Bits and Bit return what is specified. -/
import Derived.Test.YtiefnhpbniaklaaNlints1
import Derived.Test.YtiefnhpbniaklaaNlints2
import Derived.Deep.RegionHeld3
import Derived.Deep.Cut
namespace Go.Proofs.Ytiefnhpbniaklaa.Nlints
open Go.RowKit Go.Shelf Go.Proofs.Ytiefnhpbniaklaa.Nm Go.Proofs.Ytiefnhpbniaklaa.Ne Go.Proofs.Ytiefnhpbniaklaa.Nf Go.Proofs.Ytiefnhpbniaklaa.Nk Go.Proofs.Ytiefnhpbniaklaa.Nv Go.Proofs.Ytiefnhpbniaklaa.Nl Go.Proofs.Ytiefnhpbniaklaa.Nr2

set_option maxRecDepth 100000 in
set_option maxHeartbeats 8000000 in
theorem great (w : World) (ba : Option Addr) (na ca : Nat) (x i : Int) (hg1 : 100 < na) : Calls Try.prog 3 #[.agg #[.slice ba na ca], .int .i64 x, .int .i64 i] w fun e w' => e = .returned (.bool true) ∧ Gr w w' := by
  have HY := Lib.hid hg1
  have G := Lib.hid (Gr.refl w)
  clear hg1
  have k_a : (w.alloc (.cells #[.slice ba na ca] 24)).cell? ⟨w.heap.size, 0, none⟩ = some (.slice ba na ca) := by simp [go_sem]
  go_enter Try.func3, Try.ntmps3
  go_wp2_with fail
  refine (awake_any _).mono ?_
  rintro e w1 ⟨rfl, hg⟩
  replace k_a := hg.cell k_a
  have gg := ((Gr.refl w).alloc (.cells #[.slice ba na ca] 24)).trans hg
  replace G := Lib.hid (G.out.trans gg)
  clear hg gg
  go_wp2_with fail
  replace k_a := ((Gr.refl w1).alloc (.cells #[.slice ba na ca] 24)).cell k_a
  refine (great_yes (n := 1) (c := 1) rfl (by decide) (nats1 w1 ba na ca) (gt1 HY.out)).mono ?_
  rintro e w2 ⟨rfl, hg⟩
  replace k_a := hg.cell k_a
  have gg := ((Gr.refl w1).alloc (.cells #[.slice ba na ca] 24)).trans hg
  replace G := Lib.hid (G.out.trans gg)
  clear hg gg
  go_wp2
  go_ret
  exact ⟨rfl, G.out⟩

theorem NaturalInts (w : World) (ba : Option Addr) (na ca : Nat) (x i : Int) (h1 : Nin w ba na ca) (wx : (Lit.int .i64 x).wf = true) (wi : (Lit.int .i64 i).wf = true) : Calls Try.prog 3 #[.agg #[.slice ba na ca], .int .i64 x, .int .i64 i] w fun e w' => e = .returned (.bool true) ∧ Gr w w' := by
  by_cases g1 : 100 < na
  · exact great w ba na ca x i g1
  have sa : na ≤ 100 := by omega
  obtain ⟨l, ha⟩ := h1.nw (by omega)
  have hx := i64_bounds wx
  have hi := i64_bounds wi
  rcases Int.lt_or_le x 0 with h0 | h0
  · exact neg w ba na ca x i h0 l ha sa hi.2
  · obtain ⟨x, rfl⟩ := Int.eq_ofNat_of_zero_le h0
    exact pos w ba na ca x i (by omega) l ha sa hi.2
end Go.Proofs.Ytiefnhpbniaklaa.Nlints
