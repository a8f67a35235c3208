/- The digest over the padded form. -/
import Derived.Test.YtilbojcghladjaaDoorQEc
import Derived.Deep.Cut
namespace Go.Proofs.YtilbojcghladjaaDoor.Dg
open Go Go.RowKit Go.Proofs.YtilbojcghladjaaDoor.Ne Go.Proofs.YtilbojcghladjaaDoor.Kr

theorem sch_congr {m m2 : Nat → BitVec 32} (h : ∀ i, i < 16 → m i = m2 i) : ∀ {t : Nat}, sch m t = sch m2 t
  | 0 => rfl
  | t + 1 => by
    rw [sch, sch, sch_congr h]
    by_cases h1 : t < 16
    · rw [if_pos h1, if_pos h1, h t h1]
    · rw [if_neg h1, if_neg h1]
theorem getD_app {l t : List (BitVec 8)} {j : Nat} (h : j < l.length) : (l ++ t).getD j 0 = l.getD j 0 := by
  rw [List.getD_eq_getElem?_getD, List.getD_eq_getElem?_getD, List.getElem?_append_left h]
theorem wordOf_app (l t : List (BitVec 8)) {i : Nat} (h : 4 * i + 3 < l.length) : wordOf (l ++ t) i = wordOf l i := by
  unfold wordOf
  rw [getD_app (by omega), getD_app (by omega), getD_app (by omega), getD_app (by omega)]

theorem absB_app : ∀ (n : Nat) (S : S8) (l t : List (BitVec 8)), l.length = n → absB S (l ++ t) = absB (absB S l).1 ((absB S l).2 ++ t)
  | n, S, l, t, hn => by
    by_cases h : 64 ≤ l.length
    · rw [absB_yes (l := l) h, absB_yes (l := l ++ t) (by rw [List.length_append]; omega)]
      have e1 : (l ++ t).drop 64 = l.drop 64 ++ t := List.drop_append_of_le_length h
      have e2 : comp S (wordOf (l ++ t)) = comp S (wordOf l) := by
        unfold comp
        rw [sch_congr (m := wordOf (l ++ t)) (m2 := wordOf l) (fun i hi => wordOf_app l t (by omega))]
      rw [e1, e2]
      exact absB_app (l.drop 64).length _ _ _ rfl
    · rw [absB_no (l := l) (by omega)]
termination_by n => n
decreasing_by rw [List.length_drop]; omega
theorem absB_rest : ∀ (n : Nat) (S : S8) (l : List (BitVec 8)), l.length = n → (absB S l).2.length = n % 64
  | n, S, l, hn => by
    by_cases h : 64 ≤ l.length
    · rw [absB_yes h, absB_rest (l.drop 64).length _ _ rfl, List.length_drop]; omega
    · rw [absB_no (by omega)]; show l.length = n % 64; omega
termination_by n => n
decreasing_by rw [List.length_drop]; omega
theorem pd_end {k : Nat} {r : List (BitVec 8)} (hr : r.length = k % 64) : r ++ ([128#8] ++ List.replicate (zc k) 0#8 ++ be8 (8 * k)) = padEnd (endLen r.length) r (8 * k) := by
  unfold padEnd
  have e : endLen r.length - 8 - (r.length + 1) = zc k := by unfold endLen zc; rw [hr]; split <;> omega
  rw [e]
  simp [List.append_assoc]
/-- The digest, block by block over the padded form. -/
theorem sha_pd (l : List (BitVec 8)) : sha l = outs (absB s0 (pd l)).1.list := by
  have e : pd l = l ++ ([128#8] ++ List.replicate (zc l.length) 0#8 ++ be8 (8 * l.length)) := by unfold pd pre; simp [List.append_assoc]
  rw [sha, shaS, e, absB_app _ _ _ _ rfl, pd_end (absB_rest _ _ _ rfl)]

end Go.Proofs.YtilbojcghladjaaDoor.Dg
