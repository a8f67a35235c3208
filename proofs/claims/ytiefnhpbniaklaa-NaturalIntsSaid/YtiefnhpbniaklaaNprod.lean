/- The contracts of natural's addProduct and takeProduct: words of the call's own, written in place. -/
import Derived.Test.YtiefnhpbniaklaaNtrim
namespace Go.Proofs.Ytiefnhpbniaklaa.Ne
open Go.RowKit Go.Proofs.Ytiefnhpbniaklaa.Nm

/-- w' is w with words of block b, n of them from off on, perhaps written. -/
structure Wr (b off n : Nat) (w w' : World) : Prop where
  os : w'.os = w.os
  tape : w'.tape = w.tape
  output : w'.output = w.output
  size : w'.heap.size = w.heap.size
  block : ∀ k, k ≠ b → w'.heap[k]? = w.heap[k]?
  cell : ∀ i, i < off ∨ off + n ≤ i → w'.cell? ⟨b, i, none⟩ = w.cell? ⟨b, i, none⟩
  frozen : ∀ a, w'.frozen? a = w.frozen? a
theorem Wr.refl (b off n : Nat) (w : World) : Wr b off n w w := ⟨rfl, rfl, rfl, rfl, fun _ _ => rfl, fun _ _ => rfl, fun _ => rfl⟩
theorem Wr.trans {b off n : Nat} {u v w : World} (h : Wr b off n u v) (k : Wr b off n v w) : Wr b off n u w :=
  ⟨k.os.trans h.os, k.tape.trans h.tape, k.output.trans h.output, k.size.trans h.size, fun i hi => (k.block i hi).trans (h.block i hi), fun i hi => (k.cell i hi).trans (h.cell i hi), fun a => (k.frozen a).trans (h.frozen a)⟩
theorem Wr.drewN {b off n : Nat} {u v : World} (h : Wr b off n u v) (m : Nat) : Wr b off n u (v.drewN m) := ⟨h.os, h.tape, h.output, h.size, h.block, h.cell, h.frozen⟩
theorem Wr.setCell {b off n : Nat} {u v : World} (h : Wr b off n u v) (k : Nat) (hk : k < n) (x : Value) : Wr b off n u (v.setCell ⟨b, off + k, none⟩ x) := by
  refine h.trans ⟨rfl, rfl, rfl, by simp [World.setCell], fun i hi => Below.heap_setCell _ _ _ _ hi, fun i hi => ?_, fun a => World.frozen?_setCell _ _ _ _⟩
  exact World.cell?_setCell_other _ _ _ _ (by intro e; simp at e <;> omega)
theorem Wr.gr {b off n : Nat} {u v w : World} (g : Gr u v) (h : Wr b off n v w) (hb : u.heap.size ≤ b) : Gr u w :=
  ⟨h.os.trans g.os, h.tape.trans g.tape, h.output.trans g.output, by rw [h.size]; exact g.size, fun k hk => (h.block k (by omega)).trans (g.block k hk)⟩
theorem Wr.cellOf {b off n : Nat} {u v : World} (h : Wr b off n u v) {b' o : Nat} (hb : b' ≠ b) : v.cell? ⟨b', o, none⟩ = u.cell? ⟨b', o, none⟩ := World.cell?_of_block (w := u) (h.block b' hb)

/-- Block b holds the words l from off on, and they may be written. -/
def Hold (w : World) (b off : Nat) (l : List Nat) : Prop :=
  ∀ i, i < l.length → w.cell? ⟨b, off + i, none⟩ = some (.int .u32 ((l[i]?.getD 0 : Nat) : Int)) ∧ w.frozen? ⟨b, off + i, none⟩ = false
theorem Hold.set {w : World} {b off : Nat} {l : List Nat} (h : Hold w b off l) (k x : Nat) (hk : k < l.length) : Hold (w.setCell ⟨b, off + k, none⟩ (.int .u32 (x : Int))) b off (l.set k x) := by
  intro i hi
  rw [List.length_set] at hi
  refine ⟨?_, by rw [World.frozen?_setCell]; exact (h i hi).2⟩
  by_cases e : i = k
  · subst e
    rw [World.cell?_setCell_same' _ _ _ (by rw [(h i hi).1]; rfl)]
    simp [hi]
  · rw [World.cell?_setCell_other _ _ _ _ (by intro e2; simp at e2 <;> omega), (h i hi).1, List.getElem?_set_ne (by omega)]
/-- The slice at q reads as the words t, and does not lie in block b. -/
def RdN (b : Nat) (w : World) (q : Option Addr) (t : List Nat) : Prop :=
  t = [] ∨ ∃ b' off', q = some ⟨b', off', none⟩ ∧ b' ≠ b ∧ ∀ i, i < t.length → w.cell? ⟨b', off' + i, none⟩ = some (.int .u32 ((t[i]?.getD 0 : Nat) : Int))
theorem RdN.at {b : Nat} {w : World} {q : Option Addr} {t : List Nat} (h : RdN b w q t) (h0 : 0 < t.length) :
    ∃ b' off', q = some ⟨b', off', none⟩ ∧ b' ≠ b ∧ ∀ i, i < t.length → w.cell? ⟨b', off' + i, none⟩ = some (.int .u32 ((t[i]?.getD 0 : Nat) : Int)) := by
  rcases h with rfl | h
  · simp at h0
  · exact h
theorem RdN.wr {b off n : Nat} {w w' : World} {q : Option Addr} {t : List Nat} (h : RdN b w q t) (k : Wr b off n w w') : RdN b w' q t := by
  rcases h with rfl | ⟨b', off', rfl, hb, hc⟩
  · exact .inl rfl
  · exact .inr ⟨b', off', rfl, hb, fun i hi => (k.cellOf hb).trans (hc i hi)⟩
theorem RdN.of {b : Nat} {u w : World} {q : Option Addr} {t : List Nat} (h : Rd u q t) (g : Gr u w) (hb : u.heap.size ≤ b) : RdN b w q t := by
  rcases h with rfl | ⟨b', off', rfl, hc⟩
  · exact .inl rfl
  · by_cases h0 : t = []
    · exact .inl h0
    · refine .inr ⟨b', off', rfl, ?_, fun i hi => g.cell (hc i hi)⟩
      have := World.block_lt_of_cell? u _ (hc 0 (List.length_pos_iff.2 h0))
      simp at this
      omega

/-- k words have been added, the carry is c. -/
def AddAt (b off : Nat) (s : List Nat) (T : Nat) (w : World) (k c : Nat) (wr : World) : Prop :=
  ∃ r : List Nat, r.length = s.length ∧ ok r ∧ Hold wr b off r ∧ r.drop k = s.drop k ∧ val (r.take k) + pw k * c = val (s.take k) + T ∧ Wr b off s.length w wr
theorem val_set_take (r : List Nat) (k v : Nat) (hk : k < r.length) : val ((r.set k v).take (k + 1)) = val (r.take k) + pw k * v := by
  rw [val_take_succ _ _ (by simpa using hk), List.take_set_of_le (Nat.le_refl _)]
  simp [hk]
theorem get_of_drop {r s : List Nat} {k : Nat} (h : r.drop k = s.drop k) : r[k]?.getD 0 = s[k]?.getD 0 := by
  have := congrArg (fun l : List Nat => l[0]?) h
  simp at this
  rw [this]
theorem drop_set {r s : List Nat} {k : Nat} (h : r.drop k = s.drop k) (v : Nat) : (r.set k v).drop (k + 1) = s.drop (k + 1) := by
  rw [List.drop_set_of_lt (by omega)]
  have := congrArg (List.drop 1) h
  simpa [List.drop_drop, Nat.add_comm] using this
theorem AddAt.start {b off : Nat} {s : List Nat} {w : World} (hs : Hold w b off s) (hok : ok s) : AddAt b off s 0 w 0 0 w :=
  ⟨s, rfl, hok, hs, rfl, by simp [pw], Wr.refl _ _ _ _⟩
theorem AddAt.word {b off : Nat} {s : List Nat} {T : Nat} {w : World} {k c : Nat} {wr : World} (h : AddAt b off s T w k c wr) (hk : k < s.length) :
    wr.cell? ⟨b, off + k, none⟩ = some (.int .u32 ((s[k]?.getD 0 : Nat) : Int)) ∧ wr.frozen? ⟨b, off + k, none⟩ = false := by
  obtain ⟨r, hl, _, hh, hd, _⟩ := h
  have := hh k (by omega)
  rwa [get_of_drop hd] at this
theorem AddAt.step {b off : Nat} {s : List Nat} {T T' : Nat} {w : World} {k c c' v : Nat} {wr : World} (h : AddAt b off s T w k c wr) (hk : k < s.length) (hv : v < 4294967296)
    (e : pw k * (v + 4294967296 * c') + T = pw k * (c + s[k]?.getD 0) + T') : AddAt b off s T' w (k + 1) c' (wr.setCell ⟨b, off + k, none⟩ (.int .u32 (v : Int))) := by
  obtain ⟨r, hl, ho, hh, hd, hv1, hw⟩ := h
  refine ⟨r.set k v, by simpa using hl, ok_set ho _ _ hv, hh.set k v (by omega), drop_set hd v, ?_, hw.setCell k (by omega) _⟩
  rw [val_set_take _ _ _ (by omega), val_take_succ _ _ hk]
  simp only [pw]
  rw [Nat.mul_add] at e
  rw [Nat.mul_add] at e
  rw [show 4294967296 * pw k * c' = pw k * (4294967296 * c') by rw [Nat.mul_comm 4294967296, Nat.mul_assoc]]
  omega
/-- The same, subtracting. -/
def SubAt (b off : Nat) (s : List Nat) (T : Nat) (w : World) (k c : Nat) (wr : World) : Prop :=
  ∃ r : List Nat, r.length = s.length ∧ ok r ∧ Hold wr b off r ∧ r.drop k = s.drop k ∧ val (r.take k) + T = val (s.take k) + pw k * c ∧ Wr b off s.length w wr
theorem SubAt.start {b off : Nat} {s : List Nat} {w : World} (hs : Hold w b off s) (hok : ok s) : SubAt b off s 0 w 0 0 w :=
  ⟨s, rfl, hok, hs, rfl, by simp [pw], Wr.refl _ _ _ _⟩
theorem SubAt.word {b off : Nat} {s : List Nat} {T : Nat} {w : World} {k c : Nat} {wr : World} (h : SubAt b off s T w k c wr) (hk : k < s.length) :
    wr.cell? ⟨b, off + k, none⟩ = some (.int .u32 ((s[k]?.getD 0 : Nat) : Int)) ∧ wr.frozen? ⟨b, off + k, none⟩ = false := by
  obtain ⟨r, hl, _, hh, hd, _⟩ := h
  have := hh k (by omega)
  rwa [get_of_drop hd] at this
theorem SubAt.step {b off : Nat} {s : List Nat} {T T' : Nat} {w : World} {k c c' v : Nat} {wr : World} (h : SubAt b off s T w k c wr) (hk : k < s.length) (hv : v < 4294967296)
    (e : pw k * (v + c) + T' = pw k * (s[k]?.getD 0 + 4294967296 * c') + T) : SubAt b off s T' w (k + 1) c' (wr.setCell ⟨b, off + k, none⟩ (.int .u32 (v : Int))) := by
  obtain ⟨r, hl, ho, hh, hd, hv1, hw⟩ := h
  refine ⟨r.set k v, by simpa using hl, ok_set ho _ _ hv, hh.set k v (by omega), drop_set hd v, ?_, hw.setCell k (by omega) _⟩
  rw [val_set_take _ _ _ (by omega), val_take_succ _ _ hk]
  simp only [pw]
  rw [Nat.mul_add, Nat.mul_add] at e
  rw [show 4294967296 * pw k * c' = pw k * (4294967296 * c') by rw [Nat.mul_comm 4294967296, Nat.mul_assoc]]
  omega

/-- The sums of one word of a product: low word v, carry c'. -/
theorem add_word {w x c y hi lo : Nat} (hw : w < 4294967296) (hx : x < 4294967296) (hc : c < 4294967296) (hy : y < 4294967296) (e : hi * 4294967296 + lo = w * x) :
    hi + (lo + c) / 4294967296 + ((lo + c) % 4294967296 + y) / 4294967296 < 4294967296 ∧
    ((lo + c) % 4294967296 + y) % 4294967296 + 4294967296 * (hi + (lo + c) / 4294967296 + ((lo + c) % 4294967296 + y) / 4294967296) = w * x + c + y := by
  have := Nb.mul_lt32 hw hx
  omega
theorem sub_word {w x c y hi lo : Nat} (hw : w < 4294967296) (hx : x < 4294967296) (hc : c < 4294967296) (hy : y < 4294967296) (e : hi * 4294967296 + lo = w * x) :
    hi + (lo + c) / 4294967296 + Nb.bor y ((lo + c) % 4294967296) < 4294967296 ∧
    (y + 4294967296 - (lo + c) % 4294967296) % 4294967296 + (w * x + c) = y + 4294967296 * (hi + (lo + c) / 4294967296 + Nb.bor y ((lo + c) % 4294967296)) := by
  have := Nb.mul_lt32 hw hx
  unfold Nb.bor
  split <;> omega

def Mul32At (x y : Nat) (w : World) (e : Ending) (w' : World) : Prop :=
  ∃ hi lo : Nat, e = .returned (.tuple #[.int .u32 (hi : Int), .int .u32 (lo : Int)]) ∧ w' = w ∧ hi * 4294967296 + lo = x * y ∧ lo < 4294967296 ∧ hi < 4294967296
theorem mul32_at (x y : Nat) (hx : x < 4294967296) (hy : y < 4294967296) (w : World) : Calls Try.prog 127 #[.int .u32 x, .int .u32 y] w (Mul32At x y w) :=
  (Nb.mul32 x y hx hy w).mono fun _ _ ⟨he, hw⟩ => ⟨_, _, he, hw, by have := Nb.mul_lt32 hx hy; omega⟩
def Add32At (x y : Nat) (w : World) (e : Ending) (w' : World) : Prop :=
  ∃ s c : Nat, e = .returned (.tuple #[.int .u32 (s : Int), .int .u32 (c : Int)]) ∧ w' = w ∧ s = (x + y) % 4294967296 ∧ c = (x + y) / 4294967296 ∧ s < 4294967296 ∧ c ≤ 1
theorem add32_at (x y : Nat) (hx : x < 4294967296) (hy : y < 4294967296) (w : World) : Calls Try.prog 128 #[.int .u32 x, .int .u32 y, .int .u32 0] w (Add32At x y w) :=
  (Nb.add32_0 x y hx hy w).mono fun _ _ ⟨he, hw⟩ => ⟨_, _, he, hw, rfl, rfl, by omega⟩
def Sub32At (x y : Nat) (w : World) (e : Ending) (w' : World) : Prop :=
  ∃ s c : Nat, e = .returned (.tuple #[.int .u32 (s : Int), .int .u32 (c : Int)]) ∧ w' = w ∧ s = (x + 4294967296 - y) % 4294967296 ∧ c = Nb.bor x y ∧ s < 4294967296 ∧ c ≤ 1
theorem sub32_at (x y : Nat) (hx : x < 4294967296) (hy : y < 4294967296) (w : World) : Calls Try.prog 129 #[.int .u32 x, .int .u32 y, .int .u32 0] w (Sub32At x y w) :=
  (Nb.sub32_0 x y hx hy w).mono fun _ _ ⟨he, hw⟩ => ⟨_, _, he, hw, rfl, rfl, Nat.mod_lt _ (by decide), Nb.bor_le x y⟩

/-- What addProduct has done when it returns. -/
def Added (b off : Nat) (s : List Nat) (T : Nat) (w : World) (e : Ending) (w' : World) : Prop :=
  ∃ (c : Nat) (r : List Nat), e = .returned (.int .u32 (c : Int)) ∧ r.length = s.length ∧ ok r ∧ Hold w' b off r ∧ val r + pw s.length * c = val s + T ∧ c < 4294967296 ∧ Wr b off s.length w w'
theorem AddAt.done {b off : Nat} {s : List Nat} {T : Nat} {w : World} {c : Nat} {wr : World} (h : AddAt b off s T w s.length c wr) (hc : c < 4294967296) : Added b off s T w (.returned (.int .u32 (c : Int))) wr := by
  obtain ⟨r, hl, ho, hh, _, hv, hw⟩ := h
  rw [List.take_length, ← hl, List.take_length] at hv
  exact ⟨c, r, rfl, hl, ho, hh, by rw [← hl]; exact hv, hc, hw⟩
def Taken (b off : Nat) (s : List Nat) (T : Nat) (w : World) (e : Ending) (w' : World) : Prop :=
  ∃ (c : Nat) (r : List Nat), e = .returned (.int .u32 (c : Int)) ∧ r.length = s.length ∧ ok r ∧ Hold w' b off r ∧ val r + T = val s + pw s.length * c ∧ c < 4294967296 ∧ Wr b off s.length w w'
theorem SubAt.done {b off : Nat} {s : List Nat} {T : Nat} {w : World} {c : Nat} {wr : World} (h : SubAt b off s T w s.length c wr) (hc : c < 4294967296) : Taken b off s T w (.returned (.int .u32 (c : Int))) wr := by
  obtain ⟨r, hl, ho, hh, _, hv, hw⟩ := h
  rw [List.take_length, ← hl, List.take_length] at hv
  exact ⟨c, r, rfl, hl, ho, hh, by rw [← hl]; exact hv, hc, hw⟩

set_option maxRecDepth 100000 in
set_option maxHeartbeats 4000000 in
theorem addProduct_any (b off : Nat) (s : List Nat) (cap : Nat) (q : Option Addr) (t : List Nat) (cap2 : Nat) (x : Nat) (hx : x < 4294967296) (hs : ok s) (ht : ok t) (hn : s.length ≤ 1099511627776) (hl : t.length ≤ s.length)
    (w : World) (h : Hold w b off s) (h2 : RdN b w q t) :
    Calls Try.prog 89 #[.slice (some ⟨b, off, none⟩) s.length cap, .slice q t.length cap2, .int .u32 x] w (Added b off s (val t * x) w) := by
  have HS := Lib.hid hs
  have HT := Lib.hid ht
  have HQ := Lib.hid h2
  have H0 : Hid (AddAt b off s (val (t.take 0) * x) w 0 0 w) := Lib.hid (by simpa [val] using AddAt.start h hs)
  clear hs ht h h2
  obtain ⟨T, hT⟩ : ∃ T : Nat → Nat, T = fun k => val (t.take k) * x := ⟨_, rfl⟩
  have HTk := Lib.hid hT
  have HT0 : Hid (AddAt b off s (T 0) w 0 0 w) := Lib.hid (by rw [hT]; exact H0.out)
  have HTn : Hid (T t.length = val t * x) := Lib.hid (by rw [hT]; simp)
  clear hT H0
  go_enter Try.func89, Try.ntmps89
  go_wp2
  go_loopw [7, 17] (fun cv i wr => ∃ k c : Nat, k ≤ t.length ∧ i = .int .i64 k ∧ cv = .int .u32 c ∧ c < 4294967296 ∧ AddAt b off s (T k) w k c wr) (fun _ i _ => t.length - (intOf i).toNat)
  case atStart => exact ⟨0, 0, Nat.zero_le _, rfl, rfl, by decide, HT0.out⟩
  case round =>
    obtain ⟨k, c, hk, rfl, rfl, hc, hA⟩ := hrel
    have HA := Lib.hid hA
    by_cases hlt : k < t.length
    · obtain ⟨hc1, hf1⟩ := hA.word (by omega)
      obtain ⟨b', off', rfl, hne, hcq⟩ := (HQ.out.wr hA.choose_spec.2.2.2.2.2).at (by omega)
      have hc2 := hcq k hlt
      clear hcq hA HQ
      have hy := ok_get HS.out k
      have hw := ok_get HT.out k
      have E : Hid (T (k + 1) = T k + pw k * (t[k]?.getD 0 * x)) := Lib.hid (by rw [HTk.out]; simp only; rw [val_take_succ _ _ hlt, Nat.add_mul, Nat.mul_assoc])
      have F : Hid (∀ hi lo : Nat, hi * 4294967296 + lo = t[k]?.getD 0 * x → _) := Lib.hid (fun hi lo e => add_word hw hx hc hy e)
      generalize hyy : s[k]?.getD 0 = y at *
      have HY := Lib.hid hyy
      clear hyy
      generalize t[k]?.getD 0 = u at *
      go_wp2_with fail
      refine (mul32_at u x hw hx _).mono ?_
      rintro e w' ⟨hi, lo, rfl, rfl, e1, hlo, hhi⟩
      obtain ⟨F1, F2⟩ := F.out hi lo e1
      have E1 := Lib.hid e1
      have HF2 := Lib.hid F2
      clear e1 F2
      go_wp2_with fail
      refine (add32_at lo c hlo hc _).mono ?_
      rintro e w' ⟨l1, f1, rfl, rfl, e2, e3, hl1, hf⟩
      rw [← e2, ← e3] at F1 HF2
      clear e2 e3
      go_wp2_with fail
      refine (add32_at l1 y hl1 hy _).mono ?_
      rintro e w' ⟨l2, f2, rfl, rfl, e2, e3, hl2, hf2⟩
      rw [← e2, ← e3] at HF2
      rw [← e3] at F1
      clear e2 e3
      go_wp2
      go_roundw
      case rel => exact ⟨k + 1, hi + f1 + f2, by omega, by go_num, by go_num, F1, HA.out.step (by omega) hl2 (by rw [HY.out, E.out, HF2.out, Nat.mul_add, Nat.mul_add, Nat.mul_add]; omega)⟩
      case measure => simp [intOf]; omega
    · obtain rfl : k = t.length := by omega
      have HB : Hid (AddAt b off s (val t * x) w t.length c wr) := Lib.hid (by rw [← HTn.out]; exact hA)
      clear hA HA HT0 HTn HTk HQ
      go_wp2
      go_loopw [7, 14] (fun cv i wr => ∃ k c : Nat, k ≤ s.length ∧ i = .int .i64 k ∧ cv = .int .u32 c ∧ c < 4294967296 ∧ AddAt b off s (val t * x) w k c wr) (fun _ i _ => s.length - (intOf i).toNat)
      case atStart => exact ⟨t.length, c, hl, rfl, rfl, hc, HB.out⟩
      case round =>
        obtain ⟨k, c, hk, rfl, rfl, hc, hA⟩ := hrel
        have HA := Lib.hid hA
        clear HB
        by_cases hlt : k < s.length
        · obtain ⟨hc1, hf1⟩ := hA.word hlt
          clear hA
          have hy := ok_get HS.out k
          generalize hyy : s[k]?.getD 0 = y at *
          have HY := Lib.hid hyy
          clear hyy
          go_wp2_with fail
          refine (add32_at y c hy hc _).mono ?_
          rintro e w' ⟨l1, f1, rfl, rfl, e2, e3, hl1, hf⟩
          have E2 : Hid (l1 + 4294967296 * f1 = y + c) := Lib.hid (by omega)
          clear e2 e3
          go_wp2
          go_roundw
          case rel => exact ⟨k + 1, f1, by omega, by go_num, by go_num, by omega, HA.out.step hlt hl1 (by rw [HY.out, E2.out, Nat.mul_add, Nat.mul_add]; omega)⟩
          case measure => simp [intOf]; omega
        · obtain rfl : k = s.length := by omega
          clear hA
          go_wp2
          go_ret
          exact HA.out.done hc

set_option maxRecDepth 100000 in
set_option maxHeartbeats 4000000 in
theorem takeProduct_any (b off : Nat) (s : List Nat) (cap : Nat) (q : Option Addr) (t : List Nat) (cap2 : Nat) (x : Nat) (hx : x < 4294967296) (hs : ok s) (ht : ok t) (hn : s.length ≤ 1099511627776) (hl : t.length ≤ s.length)
    (w : World) (h : Hold w b off s) (h2 : RdN b w q t) :
    Calls Try.prog 90 #[.slice (some ⟨b, off, none⟩) s.length cap, .slice q t.length cap2, .int .u32 x] w (Taken b off s (val t * x) w) := by
  have HS := Lib.hid hs
  have HT := Lib.hid ht
  have HQ := Lib.hid h2
  have H0 : Hid (SubAt b off s (val (t.take 0) * x) w 0 0 w) := Lib.hid (by simpa [val] using SubAt.start h hs)
  clear hs ht h h2
  obtain ⟨T, hT⟩ : ∃ T : Nat → Nat, T = fun k => val (t.take k) * x := ⟨_, rfl⟩
  have HTk := Lib.hid hT
  have HT0 : Hid (SubAt b off s (T 0) w 0 0 w) := Lib.hid (by rw [hT]; exact H0.out)
  have HTn : Hid (T t.length = val t * x) := Lib.hid (by rw [hT]; simp)
  clear hT H0
  go_enter Try.func90, Try.ntmps90
  go_wp2
  go_loopw [7, 17] (fun cv i wr => ∃ k c : Nat, k ≤ t.length ∧ i = .int .i64 k ∧ cv = .int .u32 c ∧ c < 4294967296 ∧ SubAt b off s (T k) w k c wr) (fun _ i _ => t.length - (intOf i).toNat)
  case atStart => exact ⟨0, 0, Nat.zero_le _, rfl, rfl, by decide, HT0.out⟩
  case round =>
    obtain ⟨k, c, hk, rfl, rfl, hc, hA⟩ := hrel
    have HA := Lib.hid hA
    by_cases hlt : k < t.length
    · obtain ⟨hc1, hf1⟩ := hA.word (by omega)
      obtain ⟨b', off', rfl, hne, hcq⟩ := (HQ.out.wr hA.choose_spec.2.2.2.2.2).at (by omega)
      have hc2 := hcq k hlt
      clear hcq hA HQ
      have hy := ok_get HS.out k
      have hw := ok_get HT.out k
      have E : Hid (T (k + 1) = T k + pw k * (t[k]?.getD 0 * x)) := Lib.hid (by rw [HTk.out]; simp only; rw [val_take_succ _ _ hlt, Nat.add_mul, Nat.mul_assoc])
      have F : Hid (∀ hi lo : Nat, hi * 4294967296 + lo = t[k]?.getD 0 * x → _) := Lib.hid (fun hi lo e => sub_word hw hx hc hy e)
      generalize hyy : s[k]?.getD 0 = y at *
      have HY := Lib.hid hyy
      clear hyy
      generalize t[k]?.getD 0 = u at *
      go_wp2_with fail
      refine (mul32_at u x hw hx _).mono ?_
      rintro e w' ⟨hi, lo, rfl, rfl, e1, hlo, hhi⟩
      obtain ⟨F1, F2⟩ := F.out hi lo e1
      have E1 := Lib.hid e1
      have HF2 := Lib.hid F2
      clear e1 F2
      go_wp2_with fail
      refine (add32_at lo c hlo hc _).mono ?_
      rintro e w' ⟨l1, f1, rfl, rfl, e2, e3, hl1, hf⟩
      rw [← e2, ← e3] at F1 HF2
      clear e2 e3
      go_wp2_with fail
      refine (sub32_at y l1 hy hl1 _).mono ?_
      rintro e w' ⟨l2, f2, rfl, rfl, e2, e3, hl2, hf2⟩
      rw [← e2, ← e3] at HF2
      rw [← e3] at F1
      clear e2 e3
      go_wp2
      go_roundw
      case rel => exact ⟨k + 1, hi + f1 + f2, by omega, by go_num, by go_num, F1, HA.out.step (by omega) hl2 (by rw [HY.out, E.out, ← HF2.out, Nat.mul_add, Nat.mul_add, Nat.mul_add]; omega)⟩
      case measure => simp [intOf]; omega
    · obtain rfl : k = t.length := by omega
      have HB : Hid (SubAt b off s (val t * x) w t.length c wr) := Lib.hid (by rw [← HTn.out]; exact hA)
      clear hA HA HT0 HTn HTk HQ
      go_wp2
      go_loopw [7, 14] (fun cv i wr => ∃ k c : Nat, k ≤ s.length ∧ i = .int .i64 k ∧ cv = .int .u32 c ∧ c < 4294967296 ∧ SubAt b off s (val t * x) w k c wr) (fun _ i _ => s.length - (intOf i).toNat)
      case atStart => exact ⟨t.length, c, hl, rfl, rfl, hc, HB.out⟩
      case round =>
        obtain ⟨k, c, hk, rfl, rfl, hc, hA⟩ := hrel
        have HA := Lib.hid hA
        clear HB
        by_cases hlt : k < s.length
        · obtain ⟨hc1, hf1⟩ := hA.word hlt
          clear hA
          have hy := ok_get HS.out k
          generalize hyy : s[k]?.getD 0 = y at *
          have HY := Lib.hid hyy
          clear hyy
          go_wp2_with fail
          refine (sub32_at y c hy hc _).mono ?_
          rintro e w' ⟨l1, f1, rfl, rfl, e2, e3, hl1, hf⟩
          have E2 : Hid (l1 + c = y + 4294967296 * f1) := Lib.hid (by unfold Nb.bor at e3; split at e3 <;> omega)
          clear e2 e3
          go_wp2
          go_roundw
          case rel => exact ⟨k + 1, f1, by omega, by go_num, by go_num, by omega, HA.out.step hlt hl1 (by rw [HY.out, E2.out])⟩
          case measure => simp [intOf]; omega
        · obtain rfl : k = s.length := by omega
          clear hA
          go_wp2
          go_ret
          exact HA.out.done hc

theorem addProduct_n (b off n : Nat) (s : List Nat) (cap : Nat) (q : Option Addr) (m : Nat) (t : List Nat) (cap2 : Nat) (x : Nat) (en : s.length = n) (em : t.length = m) (hx : x < 4294967296) (hs : ok s) (ht : ok t) (hn : n ≤ 1099511627776) (hl : m ≤ n)
    (w : World) (h : Hold w b off s) (h2 : RdN b w q t) :
    Calls Try.prog 89 #[.slice (some ⟨b, off, none⟩) n cap, .slice q m cap2, .int .u32 x] w (Added b off s (val t * x) w) := by
  subst en; subst em
  exact addProduct_any b off s cap q t cap2 x hx hs ht hn hl w h h2
theorem takeProduct_n (b off n : Nat) (s : List Nat) (cap : Nat) (q : Option Addr) (m : Nat) (t : List Nat) (cap2 : Nat) (x : Nat) (en : s.length = n) (em : t.length = m) (hx : x < 4294967296) (hs : ok s) (ht : ok t) (hn : n ≤ 1099511627776) (hl : m ≤ n)
    (w : World) (h : Hold w b off s) (h2 : RdN b w q t) :
    Calls Try.prog 90 #[.slice (some ⟨b, off, none⟩) n cap, .slice q m cap2, .int .u32 x] w (Taken b off s (val t * x) w) := by
  subst en; subst em
  exact takeProduct_any b off s cap q t cap2 x hx hs ht hn hl w h h2
set_option maxHeartbeats 1000000 in
/-- Nothing from nothing. -/
theorem takeProduct_nil (p q : Option Addr) (cap cap2 x : Nat) (w : World) :
    Calls Try.prog 90 #[.slice p 0 cap, .slice q 0 cap2, .int .u32 x] w fun e w' => e = .returned (.int .u32 0) ∧ w' = w := by
  go_enter Try.func90, Try.ntmps90
  go_wp2
  refine wp_loop_rounds 1 ?_
  rw [rounds_succ]
  go_wp2
  refine wp_loop_rounds 1 ?_
  rw [rounds_succ]
  go_wp2
  go_ret
  exact ⟨rfl, rfl⟩

theorem Hold.append {w : World} {b off : Nat} {l m : List Nat} : Hold w b off (l ++ m) ↔ Hold w b off l ∧ Hold w b (off + l.length) m := by
  constructor
  · intro h
    refine ⟨fun i hi => ?_, fun i hi => ?_⟩
    · have := h i (by simp; omega)
      rwa [List.getElem?_append_left hi] at this
    · have := h (l.length + i) (by simp; omega)
      rw [List.getElem?_append_right (by omega), Nat.add_sub_cancel_left, ← Nat.add_assoc] at this
      exact this
  · rintro ⟨h1, h2⟩ i hi
    by_cases hl : i < l.length
    · rw [List.getElem?_append_left hl]; exact h1 i hl
    · rw [List.getElem?_append_right (by omega)]
      have := h2 (i - l.length) (by simp at hi; omega)
      rwa [show off + l.length + (i - l.length) = off + i by omega] at this
theorem Hold.wr {w w' : World} {b off o n : Nat} {l : List Nat} (h : Hold w b off l) (k : Wr b o n w w') (hd : off + l.length ≤ o ∨ o + n ≤ off) : Hold w' b off l := by
  intro i hi
  rw [k.cell _ (by omega), k.frozen]
  exact h i hi
theorem Hold.grow {w w' : World} {b off : Nat} {l : List Nat} (h : Hold w b off l) (g : Gr w w') : Hold w' b off l :=
  fun i hi => ⟨g.cell (h i hi).1, g.frozen (h i hi).1 (h i hi).2⟩
theorem Hold.own {w : World} {b off B : Nat} {l : List Nat} (h : Hold w b off l) (hb : B ≤ b) : Own B w (some ⟨b, off, none⟩) l := .inr ⟨b, off, rfl, hb, h⟩
theorem Hold.rdN {w : World} {b b' off : Nat} {l : List Nat} (h : Hold w b off l) (hb : b ≠ b') : RdN b' w (some ⟨b, off, none⟩) l := .inr ⟨b, off, rfl, hb, fun i hi => (h i hi).1⟩
theorem Hold.rd {w : World} {b off : Nat} {l : List Nat} (h : Hold w b off l) : Rd w (some ⟨b, off, none⟩) l := .inr ⟨b, off, rfl, fun i hi => (h i hi).1⟩
theorem Hold.wrOther {w w' : World} {b off b' o n : Nat} {l : List Nat} (h : Hold w b off l) (k : Wr b' o n w w') (hb : b ≠ b') : Hold w' b off l :=
  fun i hi => by rw [k.cellOf hb, k.frozen]; exact h i hi
theorem Hold.drewN {w : World} {b off : Nat} {l : List Nat} (h : Hold w b off l) (n : Nat) : Hold (w.drewN n) b off l := h
end Go.Proofs.Ytiefnhpbniaklaa.Ne
