/- The contract of the reference's Mul. -/
import Derived.Test.YtiefnhpbniaklaaNrprod
namespace Go.Proofs.Ytiefnhpbniaklaa.Nr2
open Go.RowKit Go.Shelf Go.Proofs.Ytiefnhpbniaklaa.Nm Go.Proofs.Ytiefnhpbniaklaa.Ne Go.Proofs.Ytiefnhpbniaklaa.Nf Go.Proofs.Ytiefnhpbniaklaa.Nk Go.Proofs.Ytiefnhpbniaklaa.Nv

set_option maxRecDepth 100000 in
set_option maxHeartbeats 2000000 in
theorem rmul_v (p q : Option Addr) (n c m d x y z e : Nat) (hS : Fits (x * y) z e) (hn : n ≤ 1000) (hm : m ≤ 1000) (w : World) (h : Nw w p n c (digs x)) (h2 : Nw w q m d (digs y)) :
    Calls Try.prog 44 #[.agg #[.slice p n c], .agg #[.slice q m d]] w (Gives z e w) := by
  have HS := Lib.hid (rproduct_v p q n c m d x y hn hm)
  have HF := Lib.hid hS
  have HA := Lib.hid h
  have HB := Lib.hid h2
  clear h h2 hS
  go_enter Try.func44, Try.ntmps44
  go_wp2_with fail
  have G3 := Lib.hid ((((Gr.refl w).alloc (.cells #[.slice p n c] 24)).alloc (.cells #[.slice q m d] 24)).alloc (.cells #[.slice none 0 0] 24))
  refine (HS.out _ (HA.out.grow G3.out) (HB.out.grow G3.out)).mono ?_
  rintro e' w1 ⟨ps, ns, cs, rfl, hr, hg⟩
  have k1 := hg.cell (p := ⟨w.heap.size + 1 + 1, 0, none⟩) (v := .slice none 0 0) (by simp [go_sem])
  have f1 := hg.frozen (p := ⟨w.heap.size + 1 + 1, 0, none⟩) (v := .slice none 0 0) (by simp [go_sem]) (by simp [go_sem])
  have HR := Lib.hid (hr.mono (show w.heap.size + 1 + 1 + 1 ≤ _ by simp))
  have GG := Lib.hid (G3.out.trans hg)
  clear hr hg
  rcases HF.out with ⟨hx, rfl, rfl⟩ | ⟨hx, rfl, rfl⟩
  · have h64 : ns ≤ 64 := by rw [← HR.out.len]; exact (digs_length_le _ 64).2 hx
    clear hx
    go_wp2_with fail
    refine (sized_ok ps ns cs w1 h64).mono ?_
    rintro e' w2 ⟨rfl, hg⟩
    have k2 := hg.cell k1
    have f2 := hg.frozen k1 f1
    have HR2 := Lib.hid (HR.out.grow hg)
    have G2 := Lib.hid (GG.out.trans hg)
    clear hg k1 f1
    go_wp2
    refine bodyPost_ret (v := .tuple #[.agg #[.slice ps ns cs], .int .i64 0]) (by simp [results, Try.results44, go_sem, k2]) rfl ⟨_, _, _, rfl, ?_, G2.out.setCell (by simp; omega) _⟩
    exact (HR2.out.set' _ _ (fun x e => own_ne HR2.out e) (tight_digs _)).mono (by omega)
  · have h64 : 64 < ns := by
      apply Nat.lt_of_not_le
      intro hh
      have := (digs_length_le (x * y) 64).1 (by rw [HR.out.len]; exact hh)
      omega
    clear hx
    go_wp2_with fail
    refine (sized_big ps ns cs w1 h64).mono ?_
    rintro e' w2 ⟨rfl, hg⟩
    have k2 := hg.cell k1
    have f2 := hg.frozen k1 f1
    have G2 := Lib.hid (GG.out.trans hg)
    clear hg k1 f1
    go_wp2
    exact bodyPost_ret (v := .tuple #[.agg #[.slice none 0 0], .int .i64 9]) (by simp [results, Try.results44, go_sem, k2]) rfl ⟨_, _, _, rfl, nr_nil _ _, G2.out.setCell (by simp; omega) _⟩
end Go.Proofs.Ytiefnhpbniaklaa.Nr2
