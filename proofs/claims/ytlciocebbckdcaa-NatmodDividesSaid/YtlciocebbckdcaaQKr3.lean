/- A block of two cells among the cells of a walk. -/
import Derived.Test.YtlciocebbckdcaaQKr2
namespace Go.Proofs.Ytlciocebbckdcaa.Kr
open Go Go.RowKit Go.Proofs.Ytlciocebbckdcaa.Nm Go.Proofs.Ytlciocebbckdcaa.Ne Go.Proofs.Ytlciocebbckdcaa.Nf Go.Proofs.Ytlciocebbckdcaa.Nk Go.Proofs.Ytlciocebbckdcaa.Nr2
variable {w W y : World} {cs : List (Nat × Nat × Value)} {fs : List (World → Prop)}
theorem Sta.alloc2 (H : Sta w W cs fs) {v0 v1 : Value} {T b : Nat} (hy : W.alloc (.cells #[v0, v1] T) = y) (hb : W.heap.size = b) (h0 : noData v0 = true) (h1 : noData v1 = true) : Sta w y ((b, 0, v0) :: (b, 1, v1) :: cs) fs := by
  have hg : Gr W y := by rw [← hy]; exact (Gr.refl _).alloc _
  have hlt := cells_lt H.c
  refine ⟨H.g.trans hg, ⟨⟨by rw [← hy, ← hb]; simp [go_sem], by rw [← hy, ← hb]; simp [go_sem]⟩, ⟨by rw [← hy, ← hb]; simp [go_sem], by rw [← hy, ← hb]; simp [go_sem]⟩, H.c.grow hg⟩, ?_, List.Pairwise.cons ?_ (List.Pairwise.cons ?_ H.ne), fun F h => (H.k F h).grow (H.f F h) hg, H.k⟩
  · intro x hx
    rcases List.mem_cons.1 hx with rfl | hx
    · exact ⟨hb ▸ H.g.le, h0⟩
    · rcases List.mem_cons.1 hx with rfl | hx
      · exact ⟨hb ▸ H.g.le, h1⟩
      · exact H.low x hx
  · intro x hx e
    rcases List.mem_cons.1 hx with rfl | hx
    · simp at e
    · have := hlt x hx
      simp only [Prod.mk.injEq] at e
      omega
  · intro x hx e
    have := hlt x hx
    simp only [Prod.mk.injEq] at e
    omega
end Go.Proofs.Ytlciocebbckdcaa.Kr
