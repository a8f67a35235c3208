/- The reference's number. -/
import Derived.Test.YtcngcdfngifjnaaDoorQCe
import Derived.Deep.Cut
namespace Go.Proofs.YtcngcdfngifjnaaDoor.Dg
open Go Go.RowKit Go.Proofs.YtcngcdfngifjnaaDoor.Ne Go.Proofs.YtcngcdfngifjnaaDoor.Kr

set_option linter.unusedSimpArgs false in
theorem convIU {w : World} {x : Nat} (hx : x < 18446744073709551616) : (convert 3 58 (.int .i64 (x : Int))).run Tryd.prog w = .ok (.int .u64 (x : Int)) w := by
  have : IntKind.u64.wrap (x : Int) = (x : Int) := (by refine (IntWalk.u64_in _ ?_); omega)
  clear hx
  go_simp
theorem apt_rowG {w W W' : World} {T : TypeId} {rs : List Blk} {v : Value} {xs : List Value} (H : Ow w W rs) (h : RowG T W.heap.size v xs W') : Apt v rs := fun k hk x hx e => by
  have h1 := (h.lt k hk).1
  have h2 := H.lt hx
  omega

set_option linter.unusedSimpArgs false in
theorem remU {w : World} {x q : Nat} (hx : x < 18446744073709551616) (hq : x % 256 = q) : (binOp .rem 58 (.int .u64 (x : Int)) (.int .u64 256)).run Tryd.prog w = .ok (.int .u64 (q : Int)) w := by
  have h1 : (x : Int).tmod 256 = (q : Int) := by
    rw [Int.tmod_eq_emod_of_nonneg (by omega)]; omega
  have h3 : IntKind.u64.wrap (q : Int) = (q : Int) := IntWalk.u64_in _ (by omega)
  clear hq hx
  go_simp
set_option linter.unusedSimpArgs false in
theorem quoU {w : World} {x q : Nat} (hx : x < 18446744073709551616) (hq : x / 256 = q) : (binOp .quo 58 (.int .u64 (x : Int)) (.int .u64 256)).run Tryd.prog w = .ok (.int .u64 (q : Int)) w := by
  have h1 : (x : Int).tdiv 256 = (q : Int) := by
    rw [Int.tdiv_eq_ediv_of_nonneg (by omega)]; omega
  have h3 : IntKind.u64.wrap (q : Int) = (q : Int) := IntWalk.u64_in _ (by omega)
  clear hq hx
  go_simp
set_option linter.unusedSimpArgs false in
theorem convUB {w : World} {q : Nat} {z : BitVec 8} (h : BitVec.ofNat 8 q = z) : (convert 58 5 (.int .u64 (q : Int))).run Tryd.prog w = .ok (.int .u8 (z.toNat : Int)) w := by
  have e : IntKind.u8.wrap (q : Int) = (z.toNat : Int) := by
    rw [← h, IntKind.wrap_u8', BitVec.toNat_ofNat]
    omega
  clear h
  go_simp
set_option linter.unusedSimpArgs false in
theorem convNU {w : World} {n : Int} {m : Nat} (h : n % 18446744073709551616 = (m : Int)) : (convert 3 58 (.int .i64 n)).run Tryd.prog w = .ok (.int .u64 (m : Int)) w := by
  have e : IntKind.u64.wrap n = (m : Int) := by
    rw [IntKind.wrap_u64]
    omega
  clear h
  go_simp
/-- A byte of a number. -/
def byN (m j : Nat) : BitVec 8 := BitVec.ofNat 8 (m / 256 ^ j)
/-- A number in so many bytes, the greatest first. -/
def beN (k m : Nat) : List (BitVec 8) := (List.range k).map fun i => byN m (k - 1 - i)
theorem beN_length (k m : Nat) : (beN k m).length = k := by simp [beN]
theorem beN_drop {k j : Nat} (m : Nat) (h : j < k) : (beN k m).drop (k - (j + 1)) = byN m j :: (beN k m).drop (k - j) := by
  rw [List.drop_eq_getElem_cons (by rw [beN_length]; omega), show k - (j + 1) + 1 = k - j by omega]
  congr 1
  simp only [beN, List.getElem_map, List.getElem_range]
  congr 1
  omega
theorem pow256 (j : Nat) : 256 ^ j = 2 ^ (8 * j) := by rw [Nat.pow_mul]
theorem byN_byt {m j : Nat} : byN m j = byt (m : Int) j := by
  unfold byN byt
  rw [pow256]
  have h : (m : Int) / 2 ^ (8 * j) = ((m / 2 ^ (8 * j) : Nat) : Int) := by
    rw [Int.natCast_ediv]; norm_cast
  rw [h, BitVec.ofInt_natCast]
theorem beN_beI (k m : Nat) : beN k m = beI k (m : Int) := by
  unfold beN beI
  simp only [byN_byt]
/-- Behind the sign the bytes of a number are those of its remainder. -/
theorem byt_mod {n : Int} {m j : Nat} (h : n % 18446744073709551616 = (m : Int)) (hj : j < 8) : byt n j = byt (m : Int) j := by
  unfold byt
  apply BitVec.eq_of_toInt_eq
  rw [BitVec.toInt_ofInt, BitVec.toInt_ofInt]
  have h2 : ∃ q : Int, n = (m : Int) + 18446744073709551616 * q := ⟨n / 18446744073709551616, by omega⟩
  obtain ⟨q, rfl⟩ := h2
  clear h
  have h3 : (18446744073709551616 : Int) * q = 2 ^ (8 * j) * (256 * (2 ^ (8 * (7 - j)) * q)) := by
    rw [← Int.mul_assoc, ← Int.mul_assoc]
    congr 1
    match j, hj with
    | 0, _ => decide
    | 1, _ => decide
    | 2, _ => decide
    | 3, _ => decide
    | 4, _ => decide
    | 5, _ => decide
    | 6, _ => decide
    | 7, _ => decide
  have h4 : (0 : Int) < 2 ^ (8 * j) := Int.pow_pos (by decide)
  rw [h3, Int.add_mul_ediv_left _ _ (Int.ne_of_gt h4)]
  generalize (m : Int) / 2 ^ (8 * j) = a
  generalize 2 ^ (8 * (7 - j)) * q = b
  show Int.bmod (a + 256 * b) 256 = Int.bmod a 256
  rw [Int.add_comm, Int.bmod_def, Int.bmod_def]
  have e : (256 * b + a) % (256 : Nat) = a % (256 : Nat) := by omega
  rw [e]
theorem beN_int {n : Int} {m : Nat} (h : n % 18446744073709551616 = (m : Int)) : beN 8 m = beI 8 n := by
  rw [beN_beI]
  unfold beI
  apply List.map_congr_left
  intro i hi
  have := List.mem_range.1 hi
  exact (byt_mod h (by omega)).symm
theorem rowG_lit {W : World} {T : TypeId} {B : Nat} {xs : List Value} (hB : B ≤ W.heap.size) (hs : xs.length ≤ 1000) : RowG T B (.slice (some ⟨W.heap.size, 0, none⟩) xs.length xs.length) xs (W.alloc (.cells xs.toArray T)) :=
  ⟨by rw [Nat.mul_one], .inr ⟨W.heap.size, xs.length, xs.toArray, rfl, hB, heap_alloc_last _ _, Nat.le_refl _, by unfold maxLen; omega, by rw [List.size_toArray, Nat.mul_one], by rw [Nat.mul_one]; exact List.take_length⟩⟩
theorem rowG_ow {w W : World} {T : TypeId} {rs : List Blk} {b : Nat} {xs : List Value} (H : Ow w W ((b, T, xs) :: rs)) (hs : xs.length ≤ 1000000) : RowG T w.heap.size (.slice (some ⟨b, 0, none⟩) xs.length xs.length) xs W :=
  ⟨by rw [Nat.mul_one], .inr ⟨b, xs.length, xs.toArray, rfl, H.low _ (List.mem_cons_self ..), H.at 0 rfl, Nat.le_refl _, by unfold maxLen; omega, by rw [List.size_toArray, Nat.mul_one], by rw [Nat.mul_one]; exact List.take_length⟩⟩
theorem set_rep (i : Nat) (z v : Value) (t : List Value) : (List.replicate (i + 1) z ++ t).set i v = List.replicate i z ++ v :: t := by
  rw [List.replicate_succ', List.append_assoc, List.set_append_right _ _ (by rw [List.length_replicate]; exact Nat.le_refl _), List.length_replicate, Nat.sub_self]
  rfl

set_option linter.unusedSimpArgs false in
set_option maxRecDepth 100000 in
set_option maxHeartbeats 16000000 in
theorem rnum_v {m k : Nat} {w : World} (hm : m < 18446744073709551616) (hk : k ≤ 8) :
    Calls Tryd.prog 39 #[.int .u64 (m : Int), .int .i64 (k : Int)] w fun e w' => ∃ b, e = .returned (.slice (some ⟨b, 0, none⟩) k k) ∧ RowG 5 w.heap.size (.slice (some ⟨b, 0, none⟩) k k) ((beN k m).map w8) w' ∧ SrcB (some ⟨b, 0, none⟩) (beN k m) w' ∧ Gr w w' := by
  obtain ⟨E, hE⟩ : ∃ z, beN k m = z := ⟨_, rfl⟩; have hEl : E.length = k := hE ▸ beN_length _ _; rw [hE]; have HE := Lib.hid hE; clear hE
  have hk1 : IntKind.i64.wrap ((k : Int) - 1) = (k : Int) - 1 := IntWalk.i64_in _ (by omega)
  have H := Ow.start w
  go_enter Tryd.func39, Tryd.ntmps39
  go_upto_region 0 with fail
  refine Kr.seqStartW ?_
  (refine Kr.seqQ (v := ?_) (a' := ?_) (by rfl) ?_ ?_ ?_; rotate_left 2; (focus (go_simp; first | done | rfl)); (focus ((try simp only [Kr.PT]); first | done | rfl)))
  refine Kr.seqDoneW ?_
  go_upto_region 1 with fail
  refine Kr.seqStartW ?_
  (refine Kr.seqQ (v := ?_) (a' := ?_) (by rfl) ?_ ?_ ?_; rotate_left 2; (focus (go_simp; first | done | rfl)); (focus ((try simp only [Kr.PT]); first | done | rfl)))
  refine Kr.seqR (by rfl) (fun K hK => ?_)
  refine wp_runV rfl (mk8 (by omega)) ?_
  obtain ⟨y1, hy⟩ : ∃ y, w.alloc (.cells (List.replicate k (Value.int .u8 0)).toArray 5) = y := ⟨_, rfl⟩
  obtain ⟨bm, hb⟩ : ∃ b, w.heap.size = b := ⟨_, rfl⟩
  rw [hy, hb]
  have hg : Gr w y1 := hy ▸ (Gr.refl _).alloc _
  replace H := H.alloc hy hb
  clear hy hb hg
  (refine Kr.outS hK (a' := ?_) ?_ ?_; rotate_left; (focus ((try simp only [Kr.PT]); first | done | rfl))); clear hK K
  (refine Kr.seqQ (v := ?_) (a' := ?_) (by rfl) ?_ ?_ ?_; rotate_left 2; (focus (go_simp; first | done | rfl)); (focus ((try simp only [Kr.PT]); first | done | rfl)))
  refine Kr.seqDoneW ?_
  go_upto_region 2 with fail
  refine Kr.seqStartW ?_
  (refine Kr.seqQ (v := ?_) (a' := ?_) (by rfl) ?_ ?_ ?_; rotate_left 2; (focus (go_simp; first | done | rfl)); (focus ((try simp only [Kr.PT]); first | done | rfl)))
  (refine Kr.seqQ (v := .int .i64 ((k : Int) - 1)) (a' := ?_) (by rfl) ?_ ?_ ?_; rotate_left 1; (focus (exact Kr.valOf rfl (subI hk1))); (focus ((try simp only [Kr.PT]); first | done | rfl)))
  (refine Kr.seqQ (v := ?_) (a' := ?_) (by rfl) ?_ ?_ ?_; rotate_left 2; (focus (go_simp; first | done | rfl)); (focus ((try simp only [Kr.PT]); first | done | rfl)))
  refine Kr.seqDoneW ?_
  have hl0 : List.replicate k (Value.int .u8 0) = List.replicate (k - 0) (Value.int .u8 0) ++ (E.drop (k - 0)).map w8 := by rw [Nat.sub_zero, List.drop_of_length_le (by omega), List.map_nil, List.append_nil]
  rw [hl0] at H; have H2 := Lib.hid H; clear H hl0 hk1
  go_wp2_with fail
  go_loopw [0, 6] (fun nv iv wr => ∃ (j x : Nat) (i : Int), j ≤ k ∧ i + j = (k : Int) - 1 ∧ iv = .int .i64 i ∧ nv = .int .u64 (x : Int) ∧ Hid (m / 256 ^ j = x) ∧ Hid (Ow w wr [(bm, 5, List.replicate (k - j) (Value.int .u8 0) ++ (E.drop (k - j)).map w8)])) (fun _ iv _ => (intOf iv + 1).toNat)
  case atStart => exact ⟨0, m, (k : Int) - 1, by omega, by omega, rfl, rfl, Lib.hid (by rw [Nat.pow_zero, Nat.div_one]), H2⟩
  case round =>
    clear H2; obtain ⟨j, x, i, hj, hij, rfl, rfl, HX, HH⟩ := hrel; have H := HH.out; clear HH
    by_cases hje : j = k
    · have C1 : decide ((0 : Int) ≤ i) = false := decide_eq_false (by omega)
      have hl9 : List.replicate (k - j) (Value.int .u8 0) ++ (E.drop (k - j)).map w8 = E.map w8 := by rw [hje, Nat.sub_self]; rfl
      rw [hl9] at H; clear hje hl9
      go_upto_region 3 with fail
      refine Kr.seqStartW ?_
      (refine Kr.seqQ (v := ?_) (a' := ?_) (by rfl) ?_ ?_ ?_; rotate_left 2; (focus (go_simp; first | done | rfl)); (focus ((try simp only [Kr.PT]); first | done | rfl)))
      (refine Kr.seqQ (v := .bool false) (a' := ?_) (by rfl) ?_ ?_ ?_; rotate_left 1; (focus (exact Kr.valOf rfl (geqI C1))); (focus ((try simp only [Kr.PT]); first | done | rfl)))
      refine Kr.seqDoneW ?_
      go_upto_region 7 with fail
      refine Kr.seqStartW ?_
      (refine Kr.seqQ (v := ?_) (a' := ?_) (by rfl) ?_ ?_ ?_; rotate_left 2; (focus (go_simp; first | done | rfl)); (focus ((try simp only [Kr.PT]); first | done | rfl)))
      (refine Kr.seqQ (v := ?_) (a' := ?_) (by rfl) ?_ ?_ ?_; rotate_left 2; (focus (go_simp; first | done | rfl)); (focus ((try simp only [Kr.PT]); first | done | rfl)))
      refine Kr.seqDoneW ?_
      have hr := rowG_ow H (by rw [List.length_map]; omega); rw [List.length_map, hEl] at hr
      have hk := trivial
      go_wp2
      refine bodyPost_ret (v := .slice (some ⟨bm, 0, none⟩) k k) (by simp [results, Tryd.results39, go_sem, hk]) rfl ⟨bm, rfl, hr, .inr ⟨bm, 0, rfl, bytesAt_row (H.at 0 rfl)⟩, H.g⟩
    have hjl : j < k := by omega
    obtain ⟨t, rfl⟩ : ∃ t : Nat, i = (t : Int) := ⟨i.toNat, by omega⟩; have htk : t + (j + 1) = k := by omega
    have C1 : decide ((0 : Int) ≤ (t : Int)) = true := decide_eq_true (by omega)
    clear hje
    have hxm : x < 18446744073709551616 := Nat.lt_of_le_of_lt (HX.out ▸ Nat.div_le_self _ _) hm
    obtain ⟨r, hr⟩ : ∃ z, x % 256 = z := ⟨_, rfl⟩; obtain ⟨q, hq⟩ : ∃ z, x / 256 = z := ⟨_, rfl⟩; obtain ⟨z, hz⟩ : ∃ z, BitVec.ofNat 8 r = z := ⟨_, rfl⟩
    have hzb : byN m j = z := by unfold byN; rw [HX.out, ← hz, ← hr]; apply BitVec.eq_of_toNat_eq; rw [BitVec.toNat_ofNat, BitVec.toNat_ofNat, Nat.mod_mod_of_dvd _ (by decide)]
    have hqx : m / 256 ^ (j + 1) = q := by rw [Nat.pow_succ, ← Nat.div_div_eq_div_mul, HX.out, hq]
    have hset : (List.replicate (k - j) (Value.int .u8 0) ++ (E.drop (k - j)).map w8).set t (.int .u8 (z.toNat : Int)) = List.replicate (k - (j + 1)) (Value.int .u8 0) ++ (E.drop (k - (j + 1))).map w8 := by
      have h1 := beN_drop m hjl; rw [HE.out, hzb] at h1
      rw [h1, show k - j = t + 1 by omega, set_rep, show k - (j + 1) = t by omega]; rfl
    have hget : (List.replicate (k - j) (Value.int .u8 0) ++ (E.drop (k - j)).map w8)[t]? = some (.int .u8 0) := by rw [List.getElem?_append_left (by rw [List.length_replicate]; omega), List.getElem?_replicate, if_pos (by omega)]
    obtain ⟨i2, hi2⟩ : ∃ i2 : Int, (t : Int) - 1 = i2 := ⟨_, rfl⟩; have hsub : IntKind.i64.wrap ((t : Int) - 1) = i2 := by rw [hi2]; exact IntWalk.i64_in _ (by omega)
    have htk2 : t < k := (by omega); have HR := Lib.hid hr; have HQ := Lib.hid hq; have HZ := Lib.hid hz; have HQX := Lib.hid hqx; have HSET := Lib.hid hset; have HGET := Lib.hid hget; clear hr hq hz hzb hqx hset hget
    go_upto_region 3 with fail
    refine Kr.seqStartW ?_
    (refine Kr.seqQ (v := ?_) (a' := ?_) (by rfl) ?_ ?_ ?_; rotate_left 2; (focus (go_simp; first | done | rfl)); (focus ((try simp only [Kr.PT]); first | done | rfl)))
    (refine Kr.seqQ (v := .bool true) (a' := ?_) (by rfl) ?_ ?_ ?_; rotate_left 1; (focus (exact Kr.valOf rfl (geqI C1))); (focus ((try simp only [Kr.PT]); first | done | rfl)))
    refine Kr.seqDoneW ?_
    go_upto_region 5 with fail
    refine Kr.seqStartW ?_
    (refine Kr.seqQ (v := ?_) (a' := ?_) (by rfl) ?_ ?_ ?_; rotate_left 2; (focus (go_simp; first | done | rfl)); (focus ((try simp only [Kr.PT]); first | done | rfl)))
    (refine Kr.seqQ (v := ?_) (a' := ?_) (by rfl) ?_ ?_ ?_; rotate_left 2; (focus (go_simp; first | done | rfl)); (focus ((try simp only [Kr.PT]); first | done | rfl)))
    (refine Kr.seqQ (v := ?_) (a' := ?_) (by rfl) ?_ ?_ ?_; rotate_left 2; (focus (go_simp; first | done | rfl)); (focus ((try simp only [Kr.PT]); first | done | rfl)))
    (refine Kr.seqQ (v := .int .u64 (r : Int)) (a' := ?_) (by rfl) ?_ ?_ ?_; rotate_left 1; (focus (exact Kr.valOf rfl (remU hxm HR.out))); (focus ((try simp only [Kr.PT]); first | done | rfl)))
    (refine Kr.seqQ (v := .int .u8 ((z).toNat : Int)) (a' := ?_) (by rfl) ?_ ?_ ?_; rotate_left 1; (focus (exact Kr.valOf rfl (convUB HZ.out))); (focus ((try simp only [Kr.PT]); first | done | rfl)))
    (refine Kr.seqQ (v := .pointer (some ⟨bm, t, none⟩)) (a' := ?_) (by rfl) ?_ ?_ ?_; rotate_left 1; (focus (exact Kr.valOf rfl (ixB0 htk2))); (focus ((try simp only [Kr.PT]); first | done | rfl)))
    refine Kr.seqR (by rfl) (fun K hK => ?_)
    refine wp_run rfl (stE8 (rowCell (H.at 0 rfl) HGET.out) (H.frozen 0 rfl t)) ?_
    obtain ⟨y2, hy⟩ : ∃ y, wr.setCell ⟨bm, t, none⟩ (.int .u8 ((z).toNat : Int)) = y := ⟨_, rfl⟩
    rw [hy]
    replace H := H.set 0 (t) hy rfl
    dsimp only [List.set] at H
    clear hy
    rw [HSET.out] at H
    (refine Kr.outS hK (a' := ?_) ?_ ?_; rotate_left; (focus ((try simp only [Kr.PT]); first | done | rfl))); clear hK K
    refine Kr.seqDoneW ?_
    go_upto_region 6 with fail
    refine Kr.seqStartW ?_
    (refine Kr.seqQ (v := ?_) (a' := ?_) (by rfl) ?_ ?_ ?_; rotate_left 2; (focus (go_simp; first | done | rfl)); (focus ((try simp only [Kr.PT]); first | done | rfl)))
    (refine Kr.seqQ (v := .int .u64 (q : Int)) (a' := ?_) (by rfl) ?_ ?_ ?_; rotate_left 1; (focus (exact Kr.valOf rfl (quoU hxm HQ.out))); (focus ((try simp only [Kr.PT]); first | done | rfl)))
    (refine Kr.seqQ (v := ?_) (a' := ?_) (by rfl) ?_ ?_ ?_; rotate_left 2; (focus (go_simp; first | done | rfl)); (focus ((try simp only [Kr.PT]); first | done | rfl)))
    refine Kr.seqDoneW ?_
    go_upto_region 4 with fail
    refine Kr.seqStartW ?_
    (refine Kr.seqQ (v := ?_) (a' := ?_) (by rfl) ?_ ?_ ?_; rotate_left 2; (focus (go_simp; first | done | rfl)); (focus ((try simp only [Kr.PT]); first | done | rfl)))
    (refine Kr.seqQ (v := .int .i64 i2) (a' := ?_) (by rfl) ?_ ?_ ?_; rotate_left 1; (focus (exact Kr.valOf rfl (subI hsub))); (focus ((try simp only [Kr.PT]); first | done | rfl)))
    (refine Kr.seqQ (v := ?_) (a' := ?_) (by rfl) ?_ ?_ ?_; rotate_left 2; (focus (go_simp; first | done | rfl)); (focus ((try simp only [Kr.PT]); first | done | rfl)))
    refine Kr.seqDoneW ?_
    go_wp2; go_roundw
    case rel =>
      first
      | exact ⟨j + 1, q, i2, by omega, by omega, rfl, rfl, HQX, Lib.hid H⟩
      | (repeat apply Exists.intro); exact ⟨⟨j + 1, q, i2, by omega, by omega, rfl, rfl, HQX, Lib.hid H⟩, rfl⟩
      | (repeat apply Exists.intro); refine ⟨⟨j + 1, q, i2, by omega, by omega, rfl, rfl, HQX, Lib.hid H⟩, ?_⟩; refine ⟨?_, ?_⟩ <;> (repeat apply And.intro) <;> rfl
    case measure => simp [intOf]; omega
end Go.Proofs.YtcngcdfngifjnaaDoor.Dg
