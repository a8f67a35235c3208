/- Order of bytes: digests and their texts; equality of digests; the library's comparisons. -/
import Derived.Test.YtilbojcghladjaaDoorQDs
import Derived.Shelf.Small.Strs
import Derived.Lib.BytesEntry
import Derived.Laws.Externs
import Derived.ChangeKeysEq
namespace Go.Proofs
open Go.Shelf
shelf_lay Lays.n106 Nm 106 at Tryd as Tryd.lays106
end Go.Proofs
namespace Go.Proofs.YtilbojcghladjaaDoor.Dg
open Go Go.RowKit Go.Proofs.YtilbojcghladjaaDoor.Ne Go.Proofs.YtilbojcghladjaaDoor.Kr

theorem cmp_anti : ∀ a b : List UInt8, Lib.compareBytes b a = - Lib.compareBytes a b
  | [], [] => rfl
  | [], _ :: _ => rfl
  | _ :: _, [] => rfl
  | x :: a, y :: b => by
    unfold Lib.compareBytes
    by_cases h1 : x < y
    · have h2 : ¬ y < x := fun h => UInt8.lt_irrefl x (UInt8.lt_trans h1 h)
      rw [if_pos h1, if_neg h2, if_pos h1]; rfl
    · by_cases h2 : y < x
      · rw [if_pos h2, if_neg h1, if_pos h2]
      · rw [if_neg h2, if_neg h1, if_neg h1, if_neg h2]; exact cmp_anti a b
theorem cmp_zero : ∀ a b : List UInt8, Lib.compareBytes a b = 0 ↔ a = b
  | [], [] => by simp [Lib.compareBytes]
  | [], _ :: _ => by simp [Lib.compareBytes]
  | _ :: _, [] => by simp [Lib.compareBytes]
  | x :: a, y :: b => by
    unfold Lib.compareBytes
    by_cases h1 : x < y
    · rw [if_pos h1]
      refine ⟨fun h => absurd h (by decide), fun h => ?_⟩
      rw [List.cons.injEq] at h
      exact absurd h1 (h.1 ▸ UInt8.lt_irrefl x)
    · by_cases h2 : y < x
      · rw [if_neg h1, if_pos h2]
        refine ⟨fun h => absurd h (by decide), fun h => ?_⟩
        rw [List.cons.injEq] at h
        exact absurd h2 (h.1 ▸ UInt8.lt_irrefl x)
      · rw [if_neg h1, if_neg h2, cmp_zero a b, List.cons.injEq]
        exact ⟨fun h => ⟨UInt8.le_antisymm (UInt8.not_lt.1 h2) (UInt8.not_lt.1 h1), h⟩, fun h => h.2⟩
theorem cmp_trans : ∀ a b c : List UInt8, Lib.compareBytes a b ≤ 0 → Lib.compareBytes b c ≤ 0 → Lib.compareBytes a c ≤ 0
  | [], _, [], _, _ => by simp [Lib.compareBytes]
  | [], _, _ :: _, _, _ => by simp [Lib.compareBytes]
  | _ :: _, [], _, h, _ => absurd h (by simp [Lib.compareBytes])
  | _ :: _, _ :: _, [], _, h => absurd h (by simp [Lib.compareBytes])
  | x :: a, y :: b, z :: c, h1, h2 => by
    unfold Lib.compareBytes at h1 h2 ⊢
    by_cases hxz : x < z
    · rw [if_pos hxz]; decide
    rw [if_neg hxz]
    have hxy : ¬ y < x := fun h => by rw [if_neg (fun h3 => UInt8.lt_irrefl x (UInt8.lt_trans h3 h)), if_pos h] at h1; exact absurd h1 (by decide)
    have hyz : ¬ z < y := fun h => by rw [if_neg (fun h3 => UInt8.lt_irrefl y (UInt8.lt_trans h3 h)), if_pos h] at h2; exact absurd h2 (by decide)
    have e1 : x = y := UInt8.le_antisymm (UInt8.not_lt.1 hxy) (UInt8.le_trans (UInt8.not_lt.1 hyz) (UInt8.not_lt.1 hxz))
    subst e1
    have e2 : x = z := UInt8.le_antisymm (UInt8.not_lt.1 hyz) (UInt8.not_lt.1 hxz)
    subst e2
    rw [if_neg (UInt8.lt_irrefl x), if_neg (UInt8.lt_irrefl x)] at h1 h2
    rw [if_neg (UInt8.lt_irrefl x)]
    exact cmp_trans a b c h1 h2
theorem cmp_range : ∀ a b : List UInt8, -1 ≤ Lib.compareBytes a b ∧ Lib.compareBytes a b ≤ 1
  | [], [] => by simp [Lib.compareBytes]
  | [], _ :: _ => by simp [Lib.compareBytes]
  | _ :: _, [] => by simp [Lib.compareBytes]
  | x :: a, y :: b => by
    unfold Lib.compareBytes
    split
    · decide
    · split
      · decide
      · exact cmp_range a b
/-- Bytes as the library compares them. -/
def u8 (l : List (BitVec 8)) : List UInt8 := l.map UInt8.ofBitVec
theorem u8_inj {l m : List (BitVec 8)} (h : u8 l = u8 m) : l = m := by
  have h3 := congrArg (List.map UInt8.toBitVec) h
  simpa [u8, List.map_map, Function.comp_def] using h3
theorem dig_lt : ∀ q r : Fin 16, (UInt8.ofBitVec (dig q.val) < UInt8.ofBitVec (dig r.val)) ↔ q.val < r.val := by decide
theorem cmp_hex : ∀ a b : List (BitVec 8), a.length = b.length → Lib.compareBytes (u8 (hexL a)) (u8 (hexL b)) = Lib.compareBytes (u8 a) (u8 b)
  | [], [], _ => rfl
  | [], _ :: _, h => by simp at h
  | _ :: _, [], h => by simp at h
  | x :: a, y :: b, h => by
    have ih := cmp_hex a b (by simpa using h)
    have e (z : BitVec 8) (r : List (BitVec 8)) : u8 (hexL (z :: r)) = UInt8.ofBitVec (dig (z.toNat / 16)) :: UInt8.ofBitVec (dig (z.toNat % 16)) :: u8 (hexL r) := rfl
    have hx := x.isLt
    have hy := y.isLt
    have d1 := dig_lt ⟨x.toNat / 16, by omega⟩ ⟨y.toNat / 16, by omega⟩
    have d2 := dig_lt ⟨y.toNat / 16, by omega⟩ ⟨x.toNat / 16, by omega⟩
    have d3 := dig_lt ⟨x.toNat % 16, by omega⟩ ⟨y.toNat % 16, by omega⟩
    have d4 := dig_lt ⟨y.toNat % 16, by omega⟩ ⟨x.toNat % 16, by omega⟩
    have l1 : (UInt8.ofBitVec x < UInt8.ofBitVec y) ↔ x.toNat < y.toNat := Iff.rfl
    have l2 : (UInt8.ofBitVec y < UInt8.ofBitVec x) ↔ y.toNat < x.toNat := Iff.rfl
    show Lib.compareBytes _ _ = Lib.compareBytes (UInt8.ofBitVec x :: u8 a) (UInt8.ofBitVec y :: u8 b)
    rw [e, e]
    simp only [Lib.compareBytes, d1, d2, d3, d4, l1, l2]
    rw [ih]
    by_cases h1 : x.toNat / 16 < y.toNat / 16
    · rw [if_pos h1, if_pos (by omega)]
    rw [if_neg h1]
    by_cases h2 : y.toNat / 16 < x.toNat / 16
    · rw [if_pos h2, if_neg (by omega), if_pos (by omega)]
    rw [if_neg h2]
    by_cases h3 : x.toNat % 16 < y.toNat % 16
    · rw [if_pos h3, if_pos (by omega)]
    rw [if_neg h3]
    by_cases h4 : y.toNat % 16 < x.toNat % 16
    · rw [if_pos h4, if_neg (by omega), if_pos (by omega)]
    rw [if_neg h4, if_neg (by omega), if_neg (by omega)]

theorem eqItems8 {w : World} {d : Nat} {la lb : List (BitVec 8)} : ∀ (n k : Nat), la.length = k + n → lb.length = k + n →
    (Op.eqItems (d + 1) 5 1 (la.map w8).toArray (lb.map w8).toArray (List.range' k n)).run Tryd.prog w = .ok (decide (la.drop k = lb.drop k)) w
  | 0, k, h1, h2 => by
    rw [List.drop_of_length_le (by omega), List.drop_of_length_le (by omega)]
    rfl
  | n + 1, k, h1, h2 => by
    have ih := eqItems8 (w := w) (d := d) (la := la) (lb := lb) n (k + 1) (by omega) (by omega)
    have ha : k < la.length := by omega
    have hb : k < lb.length := by omega
    have pa : (part 5 (la.map w8).toArray (k * 1)).run Tryd.prog w = .ok (w8 la[k]) w := by
      refine run_part_plain w (by kernel_rfl) ?_
      simp [ha]
    have pb : (part 5 (lb.map w8).toArray (k * 1)).run Tryd.prog w = .ok (w8 lb[k]) w := by
      refine run_part_plain w (by kernel_rfl) ?_
      simp [hb]
    rw [List.range'_succ]
    simp only [Op.eqItems, Sem.run_bind, pa, pb, Result.andThen_ok]
    rw [w8, w8, run_equalIn_int w d 5 _ _ _ _ Tryd.underlying5, List.drop_eq_getElem_cons ha, List.drop_eq_getElem_cons hb]
    simp only [Result.andThen_ok]
    by_cases hxy : la[k] = lb[k]
    · have e1 : decide (la[k] :: la.drop (k + 1) = lb[k] :: lb.drop (k + 1)) = decide (la.drop (k + 1) = lb.drop (k + 1)) := decide_eq_decide.2 (by rw [List.cons.injEq]; exact ⟨fun h => h.2, fun h => ⟨hxy, h⟩⟩)
      have hb2 : ((la[k].toNat : Int) == (lb[k].toNat : Int)) = true := by rw [hxy]; exact beq_self_eq_true _
      rw [e1, hb2, ← ih]
      rfl
    · have e1 : decide (la[k] :: la.drop (k + 1) = lb[k] :: lb.drop (k + 1)) = false := decide_eq_false (by rw [List.cons.injEq]; exact fun h => hxy h.1)
      have hne : ¬ ((la[k].toNat : Int) = (lb[k].toNat : Int)) := fun h => hxy (BitVec.eq_of_toNat_eq (by omega))
      have hb2 : ((la[k].toNat : Int) == (lb[k].toNat : Int)) = false := by simpa using hne
      rw [e1, hb2]
      rfl
theorem eqH {w : World} {la lb : List (BitVec 8)} {b : Bool} (ha : la.length = 32) (hb : lb.length = 32) (h : decide (la = lb) = b) : (binOp .eql 25 (.agg (la.map w8).toArray) (.agg (lb.map w8).toArray)).run Tryd.prog w = .ok (.bool b) w := by
  have hi : ∃ i, Tryd.prog.info? 5 = some i := ⟨_, rfl⟩
  obtain ⟨i, hi⟩ := hi
  have hr := run_equalIn_array (P := Tryd.prog) w 9999 (la.map w8).toArray (lb.map w8).toArray Tryd.underlying25 hi
  have hc : Tryd.prog.cellsOf 5 = 1 := by kernel_rfl
  rw [hc, List.range_eq_range', eqItems8 32 0 (by omega) (by omega), List.drop_zero, List.drop_zero, h] at hr
  rw [run_eql_struct, hr]
  rfl
theorem bytesOf_u8 (l : List (BitVec 8)) : Lib.bytesOf (l.map fun x => (x.toNat : Int)) = u8 l := by
  unfold Lib.bytesOf u8
  rw [List.map_map]
  refine List.map_congr_left fun x _ => ?_
  show UInt8.ofNat ((x.toNat : Int).toNat) = UInt8.ofBitVec x
  rw [Int.toNat_natCast]
  apply UInt8.toBitVec_inj.1
  show BitVec.ofNat 8 x.toNat = x
  rw [BitVec.ofNat_toNat, BitVec.setWidth_eq]
theorem run_load8 {w : World} {b off : Nat} {l : List (BitVec 8)} (h : BytesAt b off l w) {n c : Nat} (hn : l.length = n) : (Extern.Bytes.bytesOf (.slice (some ⟨b, off, none⟩) n c)).run Tryd.prog w = .ok ⟨(u8 l).toArray⟩ w := by
  have hl := Lib.run_loadBytesX (P := Tryd.prog) w (l.map fun x => (x.toNat : Int)) ⟨b, off, none⟩ .empty (fun j x hj => by
    rw [List.getElem?_map, Option.map_eq_some_iff] at hj
    obtain ⟨y, h1, rfl⟩ := hj
    rw [addr_add, h j y h1]
    rfl)
  rw [List.length_map, hn, bytesOf_u8] at hl
  have he : (⟨ByteArray.empty.data ++ (u8 l).toArray⟩ : ByteArray) = ⟨(u8 l).toArray⟩ := by
    apply ByteArray.ext
    show (#[] : Array UInt8) ++ (u8 l).toArray = (u8 l).toArray
    simp
  rw [he] at hl
  exact hl
theorem run_cmp8 {w : World} {b1 o1 n1 c1 b2 o2 n2 c2 : Nat} {l m : List (BitVec 8)} (h1 : BytesAt b1 o1 l w) (e1 : l.length = n1) (h2 : BytesAt b2 o2 m w) (e2 : m.length = n2) :
    (Extern.BytealgCompare.compare #[.slice (some ⟨b1, o1, none⟩) n1 c1, .slice (some ⟨b2, o2, none⟩) n2 c2]).run Tryd.prog w = .ok (.int .i64 (Lib.compareBytes (u8 l) (u8 m))) w := by
  change Sem.run Tryd.prog (do pure (goInt (Extern.BytealgCompare.cmp (← Extern.Bytes.bytesOf (.slice (some ⟨b1, o1, none⟩) n1 c1)) (← Extern.Bytes.bytesOf (.slice (some ⟨b2, o2, none⟩) n2 c2))))) w = _
  simp only [Sem.run_bind, Sem.run_pure, run_load8 h1 e1, run_load8 h2 e2, Result.andThen_ok]
  rw [Lib.cmp_eq]
  rfl
theorem bytesCompare_v {w : World} {b1 o1 n1 c1 b2 o2 n2 c2 : Nat} {l m : List (BitVec 8)} (h1 : BytesAt b1 o1 l w) (e1 : l.length = n1) (h2 : BytesAt b2 o2 m w) (e2 : m.length = n2) :
    Calls Tryd.prog 49 #[.slice (some ⟨b1, o1, none⟩) n1 c1, .slice (some ⟨b2, o2, none⟩) n2 c2] w fun e w' => e = .returned (.int .i64 (Lib.compareBytes (u8 l) (u8 m))) ∧ w' = w := by
  have hr := run_cmp8 (c1 := c1) (c2 := c2) h1 e1 h2 e2
  generalize Lib.compareBytes (u8 l) (u8 m) = z at *
  have HR := Lib.hid hr
  clear hr h1 h2 e1 e2
  go_enter Tryd.func49, Tryd.ntmps49
  go_wp2
  rw [run_callFunc_extern Tryd.func58 (by kernel_rfl) (by kernel_rfl) (by kernel_rfl) (e := Extern.BytealgCompare.compare) (by kernel_rfl), HR.out]
  simp only [Result.andThen]
  rw [Oper.upon_value]
  go_wp2
  go_ret
  exact ⟨rfl, rfl⟩
theorem strCompare_v (a b : ByteArray) (w : World) : Calls Tryd.prog 29 #[.string a, .string b] w fun e w' => e = .returned (.int .i64 (Lib.compareBytes a.data.toList b.data.toList)) ∧ w' = w := Go.Proofs.Any.strings_Compare Tryd.lays106 a b w
end Go.Proofs.YtilbojcghladjaaDoor.Dg
