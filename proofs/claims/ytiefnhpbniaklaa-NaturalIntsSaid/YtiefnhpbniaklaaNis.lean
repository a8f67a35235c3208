/- The contract of the laws' is. -/
import Derived.Test.YtiefnhpbniaklaaNref2
namespace Go.Proofs.Ytiefnhpbniaklaa.Nk
open Go.RowKit Go.Shelf Go.Proofs.Ytiefnhpbniaklaa.Nm Go.Proofs.Ytiefnhpbniaklaa.Ne Go.Proofs.Ytiefnhpbniaklaa.Nf

set_option maxHeartbeats 1000000 in
theorem is_any (p q : Option Addr) (n m c d : Nat) (e f : Nat) (l k : List Nat) (w : World) (he : e < 1000) (hf : f < 1000) (hl : Nw w p n c l) (hk : Nw w q m d k) :
    Calls Try.prog 26 #[.agg #[.slice p n c], .int .i64 (e : Int), .agg #[.slice q m d], .int .i64 (f : Int)] w fun r w' => r = .returned (.bool (decide (e = f ∧ l = k))) ∧ Gr w w' := by
  have G0 := Lib.hid (((Gr.refl w).alloc (.cells #[.slice p n c] 24)).alloc (.cells #[.slice q m d] 24))
  have HS := Lib.hid (fun W (hW : Gr w W) => same_any p q n m c d l k W (hl.grow hW) (hk.grow hW))
  have q1 : IntKind.i64.wrap (e : Int) = (e : Int) := IntWalk.i64_in _ (by omega)
  clear hl hk
  by_cases h : e = f
  · subst h
    go_enter Try.func26, Try.ntmps26
    go_wp2_with fail
    refine (HS.out _ (by first | exact G0.out | exact Gr.refl w | exact (Gr.refl w).alloc _)).mono ?_
    rintro r w1 ⟨rfl, hg⟩
    have HG := Lib.hid hg
    clear hg
    go_wp2
    go_ret
    exact ⟨by simp, (by first | exact G0.out.trans HG.out | exact HG.out | exact ((Gr.refl w).alloc _).trans HG.out)⟩
  · have h2 : ((e : Int) == (f : Int)) = false := by simp; omega
    have h3 : ¬ (e : Int) = (f : Int) := by omega
    have HE := Lib.hid h
    clear h
    go_enter Try.func26, Try.ntmps26
    go_wp2
    go_ret
    exact ⟨by simp [HE.out], by first | exact G0.out | exact Gr.refl w | exact (Gr.refl w).alloc _⟩
end Go.Proofs.Ytiefnhpbniaklaa.Nk
