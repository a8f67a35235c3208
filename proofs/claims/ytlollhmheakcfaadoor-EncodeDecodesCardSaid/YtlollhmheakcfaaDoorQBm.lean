/- The reader: item (what it says). -/
import Derived.Test.YtlollhmheakcfaaDoorQBl
import Derived.Deep.Cut
namespace Go.Proofs.YtlollhmheakcfaaDoor.Dg
open Go Go.RowKit Go.Proofs.YtlollhmheakcfaaDoor.Ne Go.Proofs.YtlollhmheakcfaaDoor.Kr

theorem OutL.imp {r : Except Int (List It × Nat)} {a b : Nat} {e : Int} {P Q : List It → Prop} (h : OutL r a b e P) (f : ∀ t, P t → Q t) : OutL r a b e Q := by
  cases r with
  | error c => exact h
  | ok x => exact ⟨h.1, h.2.1, f _ h.2.2⟩
theorem out_sh1 {r : Except Int (List It × Nat)} {ps ps2 : Nat} {e : Int} {P : List It → Prop} {Q : It → Prop} (h : OutL r (ps + 1) ps2 e P) (f : ∀ t, P t → Q (.mk 3 0 [] t)) : Out (sh1 r) ps ps2 e Q := by
  cases r with
  | error c => exact h
  | ok x =>
    obtain ⟨h1, h2, h3⟩ := h
    exact ⟨h1, by rw [h2]; show ps + 1 + x.2 = ps + (1 + x.2); omega, f _ h3⟩
theorem rd_nil : ∀ d, rd d [] = .error 4
  | 0 => rfl
  | _ + 1 => rfl
theorem rd_1 (b : List (BitVec 8)) : ∀ d, rd d (1#8 :: b) = rdN b
  | 0 => rfl
  | _ + 1 => rfl
theorem rd_2 (b : List (BitVec 8)) : ∀ d, rd d (2#8 :: b) = rdS b
  | 0 => rfl
  | _ + 1 => rfl
theorem rd_3 (b : List (BitVec 8)) (d : Nat) : rd (d + 1) (3#8 :: b) = sh1 (rdB (rd d) b) := rfl
theorem rd_30 (b : List (BitVec 8)) : rd 0 (3#8 :: b) = .error 3 := rfl
theorem rd_x {k : BitVec 8} (b : List (BitVec 8)) (h1 : k ≠ 1#8) (h2 : k ≠ 2#8) (h3 : k ≠ 3#8) : ∀ d, rd d (k :: b) = .error 3
  | 0 => by rw [rd, if_neg h1, if_neg h2]
  | _ + 1 => by rw [rd, if_neg h1, if_neg h2, if_neg h3]
theorem nb1 (x : BitVec 8) : (nb [x]).toInt = (x.toNat : Int) := by
  have h := nb_step 0#64 x (by decide)
  have hx := x.isLt
  have e : (nb [x]).toNat = x.toNat := by
    show ((0#64 <<< 8) ||| x.setWidth 64).toNat = _
    rw [h]; simp
  rw [BitVec.toInt_eq_toNat_cond, e, if_pos (by omega)]
theorem inr_nb (q : List (BitVec 8)) : InR (nb q).toInt := ⟨by have := BitVec.le_toInt (nb q); omega, by have := BitVec.toInt_lt (x := nb q); omega⟩
theorem size_set {W : World} {a : Addr} {u : Value} : (W.setCell a u).heap.size = W.heap.size := by simp [World.setCell]
theorem size_put {W : World} {b : Nat} {cs : Array Value} : (W.setRow b cs).heap.size = W.heap.size := by simp [World.setRow]
theorem one4 {k n : Int} {p q : Option Addr} {a b c d : Nat} : ∀ u ∈ ([.int .i64 k, .int .i64 n, .slice p a b, .slice q c d] : List Value), u.oneCell' = true := by
  intro v hv
  simp only [List.mem_cons, List.not_mem_nil, or_false] at hv
  rcases hv with rfl | rfl | rfl | rfl <;> rfl
theorem itv_int {W : World} {d : Nat} {F : Nat → Prop} {n : Int} (h : InR n) : ItV W (d + 1) F (.agg #[.int .i64 1, .int .i64 n, .slice none 0 0, .slice none 0 0]) (.mk 1 n [] []) :=
  ⟨none, 0, none, 0, rfl, ⟨by show (-9223372036854775808 : Int) ≤ 1; decide, by show (1 : Int) < 9223372036854775808; decide⟩, h, fun _ => rfl, Nat.le_refl _, Nat.zero_le _, Nat.zero_le _, .inl rfl, fun j x hx => by simp [It.l] at hx⟩
theorem itv_str {W : World} {d k c : Nat} {F : Nat → Prop} {p : Option Addr} {l : List (BitVec 8)} (hl : l.length = k) (hp : p = none → c = 0) (hc : k ≤ c) (hk : k ≤ 1000000) (hs : l = [] ∨ ∃ b off, p = some ⟨b, off, none⟩ ∧ F b ∧ BytesAt b off l W) : ItV W (d + 1) F (.agg #[.int .i64 2, .int .i64 0, .slice p k c, .slice none 0 0]) (.mk 2 0 l []) := by
  subst hl
  exact ⟨p, c, none, 0, rfl, ⟨by show (-9223372036854775808 : Int) ≤ 2; decide, by show (2 : Int) < 9223372036854775808; decide⟩, ⟨by show (-9223372036854775808 : Int) ≤ 0; decide, by show (0 : Int) < 9223372036854775808; decide⟩, hp, hc, by show l.length ≤ _; omega, Nat.zero_le _, hs, fun j x hx => by simp [It.l] at hx⟩
theorem itv_lst {W : World} {d nl c : Nat} {F : Nat → Prop} {p : Option Addr} {ts : List It} (hl : nl = ts.length) (hk : nl ≤ 1000) (h : LsV W d F p ts) : ItV W (d + 1) F (.agg #[.int .i64 3, .int .i64 0, .slice none 0 0, .slice p nl c]) (.mk 3 0 [] ts) := by
  subst hl
  exact ⟨none, 0, p, c, rfl, ⟨by show (-9223372036854775808 : Int) ≤ 3; decide, by show (3 : Int) < 9223372036854775808; decide⟩, ⟨by show (-9223372036854775808 : Int) ≤ 0; decide, by show (0 : Int) < 9223372036854775808; decide⟩, fun _ => rfl, Nat.le_refl _, Nat.zero_le _, by show ts.length ≤ _; omega, .inl rfl, h⟩
theorem row_bytes {B : Nat} {W : World} {p : Option Addr} {k c : Nat} {l : List (BitVec 8)} (h : RowG 5 B (.slice p k c) (l.map w8) W) (hl : l.length = k) : l = [] ∨ ∃ b off, p = some ⟨b, off, none⟩ ∧ (B ≤ b ∧ b < W.heap.size) ∧ BytesAt b off l W := by
  obtain ⟨p2, c2, e, _, _, hs⟩ := h.src
  rw [List.length_map, hl] at e
  cases e
  rcases srcB_of hs with h0 | ⟨b, off, e, h0⟩
  · exact .inl h0
  · refine .inr ⟨b, off, e, ?_, h0⟩
    exact h.lt b (by rw [e]; rfl)
structure OutK (r : Except Int (List It × Nat)) (a b : Nat) (e : Int) (nl d : Nat) (FF : Nat → Prop) (pl : Option Addr) (W : World) : Prop where
  h : OutL r a b e (fun ts => nl = ts.length ∧ nl ≤ 1000 ∧ LsV W d FF pl ts)
theorem OutK.kept {r : Except Int (List It × Nat)} {a b : Nat} {e : Int} {nl d : Nat} {FF : Nat → Prop} {pl : Option Addr} {W W' : World} (k : OutK r a b e nl d FF pl W) (g : ∀ b, FF b → W'.heap[b]? = W.heap[b]?) : OutK r a b e nl d FF pl W' := ⟨k.h.imp (fun _ ⟨h1, h2, h3⟩ => ⟨h1, h2, h3.kept g⟩)⟩

end Go.Proofs.YtlollhmheakcfaaDoor.Dg
