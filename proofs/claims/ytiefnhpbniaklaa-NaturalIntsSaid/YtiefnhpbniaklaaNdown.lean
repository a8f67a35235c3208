/- The contract of natural's down: words divided by a power of 2. -/
import Derived.Test.YtiefnhpbniaklaaNadd
namespace Go.Proofs.Ytiefnhpbniaklaa.Ne
open Go.RowKit Go.Proofs.Ytiefnhpbniaklaa.Nm Go.Proofs.Ytiefnhpbniaklaa.Nf

/-- Words moved down by t bits. -/
def shr (t : Nat) : List Nat → List Nat
  | [] => []
  | [x] => [x / 2 ^ t]
  | x :: y :: l => (x / 2 ^ t + y % 2 ^ t * 2 ^ (32 - t)) :: shr t (y :: l)
theorem shr_length (t : Nat) : ∀ l : List Nat, (shr t l).length = l.length
  | [] => rfl
  | [_] => rfl
  | _ :: y :: l => by simp only [shr, List.length_cons, shr_length t (y :: l)]
theorem pow_split {t : Nat} (ht : t < 32) : 2 ^ t * 2 ^ (32 - t) = 4294967296 := by
  rw [← Nat.pow_add, show t + (32 - t) = 32 by omega]
theorem shr_word {t x y : Nat} (ht : t < 32) (hx : x < 4294967296) : x / 2 ^ t + y % 2 ^ t * 2 ^ (32 - t) < 4294967296 := by
  have h1 : x / 2 ^ t < 2 ^ (32 - t) := Nat.div_lt_of_lt_mul (by rw [pow_split ht]; exact hx)
  have h2 : y % 2 ^ t < 2 ^ t := Nat.mod_lt _ (Nat.pos_of_ne_zero (by simp))
  have h3 := Nat.mul_le_mul_right (2 ^ (32 - t)) h2
  rw [Nat.succ_mul, pow_split ht] at h3
  omega
theorem shr_ok {t : Nat} (ht : t < 32) : ∀ {l : List Nat}, ok l → ok (shr t l)
  | [], _ => ok_nil
  | [_], h => ok_cons.2 ⟨Nat.lt_of_le_of_lt (Nat.div_le_self _ _) (ok_cons.1 h).1, ok_nil⟩
  | _ :: _ :: _, h => ok_cons.2 ⟨shr_word ht (ok_cons.1 h).1, shr_ok ht (ok_cons.1 h).2⟩
theorem shr_val {t : Nat} (ht : t < 32) : ∀ l : List Nat, val (shr t l) = val l / 2 ^ t
  | [] => by simp [shr, val]
  | [x] => by simp [shr, val]
  | x :: y :: l => by
    have ih := shr_val ht (y :: l)
    have hp : 0 < 2 ^ t := Nat.pos_of_ne_zero (by simp)
    have hm : val (y :: l) % 2 ^ t = y % 2 ^ t := by
      simp only [val]
      rw [← pow_split ht, Nat.mul_assoc, Nat.add_mul_mod_self_left]
    have hd := Nat.div_add_mod (val (y :: l)) (2 ^ t)
    simp only [shr, val] at ih ⊢
    rw [ih]
    simp only [val] at hm hd
    generalize y + 4294967296 * val l = V at *
    rw [← pow_split ht, Nat.mul_assoc (2 ^ t) (2 ^ (32 - t)) (V / 2 ^ t), Nat.mul_assoc (2 ^ t) (2 ^ (32 - t)) V, Nat.add_mul_div_left _ _ hp, ← hm]
    have e : 2 ^ (32 - t) * V = V % 2 ^ t * 2 ^ (32 - t) + 2 ^ t * (2 ^ (32 - t) * (V / 2 ^ t)) := by
      conv => lhs; rw [← hd]
      rw [Nat.mul_add, Nat.mul_left_comm, Nat.mul_comm (2 ^ (32 - t)) (V % 2 ^ t)]
      omega
    omega
theorem shr_get {t : Nat} : ∀ (l : List Nat) (i : Nat), i + 1 < l.length → (shr t l)[i]?.getD 0 = l[i]?.getD 0 / 2 ^ t + l[i + 1]?.getD 0 % 2 ^ t * 2 ^ (32 - t)
  | [], i, h => by simp at h
  | [x], i, h => by simp at h
  | x :: y :: l, 0, _ => by simp [shr]
  | x :: y :: l, i + 1, h => by
    have := shr_get (t := t) (y :: l) i (by simpa using h)
    simpa [shr] using this
theorem shr_last {t : Nat} : ∀ (l : List Nat) (i : Nat), i + 1 = l.length → (shr t l)[i]?.getD 0 = l[i]?.getD 0 / 2 ^ t
  | [], i, h => by simp at h
  | [x], i, h => by
    obtain rfl : i = 0 := by simpa using h
    simp [shr]
  | x :: y :: l, 0, h => by simp at h
  | x :: y :: l, i + 1, h => by
    have := shr_last (t := t) (y :: l) i (by simpa using h)
    simpa [shr] using this
/-- k words have been moved. -/
def ShrAt (b off t : Nat) (m : List Nat) (w : World) (k : Nat) (wr : World) : Prop :=
  ∃ r : List Nat, r.length = m.length ∧ Hold wr b off r ∧ r.drop k = m.drop k ∧ r.take k = (shr t m).take k ∧ Wr b off m.length w wr
theorem ShrAt.start {b off t : Nat} {m : List Nat} {w : World} (h : Hold w b off m) : ShrAt b off t m w 0 w := ⟨m, rfl, h, rfl, by simp, Wr.refl _ _ _ _⟩
theorem ShrAt.word {b off t : Nat} {m : List Nat} {w : World} {k : Nat} {wr : World} (h : ShrAt b off t m w k wr) (j : Nat) (hk : k ≤ j) (hj : j < m.length) :
    wr.cell? ⟨b, off + j, none⟩ = some (.int .u32 ((m[j]?.getD 0 : Nat) : Int)) ∧ wr.frozen? ⟨b, off + j, none⟩ = false := by
  obtain ⟨r, hl, hh, hd, _⟩ := h
  have := hh j (by omega)
  have e : r[j]?.getD 0 = m[j]?.getD 0 := by
    have h1 := congrArg (fun l : List Nat => l[j - k]?) hd
    simp only [List.getElem?_drop, show k + (j - k) = j by omega] at h1
    rw [h1]
  rwa [e] at this
theorem ShrAt.step {b off t : Nat} {m : List Nat} {w : World} {k v : Nat} {wr : World} (h : ShrAt b off t m w k wr) (hk : k < m.length) (hv : v = (shr t m)[k]?.getD 0) {w' : World}
    (hw : ∀ r : List Nat, r.length = m.length → Hold wr b off r → Hold w' b off (r.set k v) ∧ Wr b off m.length wr w') : ShrAt b off t m w (k + 1) w' := by
  obtain ⟨r, hl, hh, hd, ht, hwr⟩ := h
  obtain ⟨h1, h2⟩ := hw r hl hh
  refine ⟨r.set k v, by simpa using hl, h1, drop_set hd v, ?_, hwr.trans h2⟩
  have hk2 : k < (shr t m).length := by rw [shr_length]; exact hk
  rw [List.take_succ_eq_append_getElem (by simpa using (show k < r.length by omega)), List.take_set_of_le (Nat.le_refl _), ht, List.take_succ_eq_append_getElem hk2]
  congr 1
  rw [List.getElem?_eq_getElem hk2, Option.getD_some] at hv
  simp [hv]
theorem ShrAt.step1 {b off t : Nat} {m : List Nat} {w : World} {k : Nat} {wr : World} (h : ShrAt b off t m w k wr) (v : Nat) (hk : k < m.length) (hv : v = (shr t m)[k]?.getD 0) : ShrAt b off t m w (k + 1) (wr.setCell ⟨b, off + k, none⟩ (.int .u32 (v : Int))) :=
  h.step hk hv fun r hl hh => ⟨hh.set k v (by omega), (Wr.refl _ _ _ _).setCell k hk _⟩
theorem ShrAt.step2 {b off t : Nat} {m : List Nat} {w : World} {k : Nat} {wr : World} (h : ShrAt b off t m w k wr) (u v : Nat) (hk : k < m.length) (hv : v = (shr t m)[k]?.getD 0) : ShrAt b off t m w (k + 1) ((wr.setCell ⟨b, off + k, none⟩ (.int .u32 (u : Int))).setCell ⟨b, off + k, none⟩ (.int .u32 (v : Int))).drew :=
  h.step hk hv fun r hl hh => ⟨by
    have h1 := (hh.set k u (by omega)).set k v (by simp; omega)
    rw [List.set_set] at h1
    exact h1, (((Wr.refl _ _ _ _).setCell k hk _).setCell k hk _).drewN 1⟩
theorem ShrAt.done {b off t : Nat} {m : List Nat} {w wr : World} (h : ShrAt b off t m w m.length wr) : Hold wr b off (shr t m) ∧ Wr b off m.length w wr := by
  obtain ⟨r, hl, hh, _, ht, hwr⟩ := h
  rw [← hl, List.take_length, hl, ← shr_length t m, List.take_length] at ht
  subst ht
  exact ⟨hh, hwr⟩

theorem or_word {t x y : Nat} (ht : t < 32) (hx : x < 4294967296) :
    bits .or .u32 ((x / 2 ^ t : Nat) : Int) ((y : Int) * 2 ^ (32 - t) % 4294967296) = ((x / 2 ^ t + y % 2 ^ t * 2 ^ (32 - t) : Nat) : Int) := by
  have e1 : (y : Int) * 2 ^ (32 - t) % 4294967296 = ((y % 2 ^ t * 2 ^ (32 - t) : Nat) : Int) := by
    have e2 : y * 2 ^ (32 - t) % 4294967296 = y % 2 ^ t * 2 ^ (32 - t) := by
      rw [← pow_split ht]
      exact Nat.mul_mod_mul_right _ _ _
    rw [← e2, Int.natCast_emod, Int.natCast_mul, Int.natCast_pow]
    rfl
  have h1 : x / 2 ^ t < 2 ^ (32 - t) := Nat.div_lt_of_lt_mul (by rw [pow_split ht]; exact hx)
  have h2 := shr_word (y := y) ht hx
  rw [e1, (Nb.bits_u32 _ _ (by omega) (by omega)).2.1]
  congr 1
  have := Nat.shiftLeft_add_eq_or_of_lt h1 (y % 2 ^ t)
  rw [Nat.shiftLeft_eq] at this
  rw [Nat.or_comm, ← this, Nat.add_comm]

/-- What down has handed back. -/
def DownAt (l : List Nat) (n : Nat) (w : World) (e : Ending) (w' : World) : Prop :=
  ∃ (p : Option Addr) (r : List Nat) (cap : Nat), e = .returned (.slice p r.length cap) ∧ r.length ≤ cap ∧ r.length ≤ l.length ∧ (p = none → r.length = 0 ∧ cap = 0) ∧ ok r ∧ val r = val l / 2 ^ n ∧ Own w.heap.size w' p r ∧ Gr w w'

theorem clone_at (p : Option Addr) (l : List Nat) (n cap : Nat) (en : l.length = n) (hl : n ≤ 1048576) (hp : p = none → n = 0 ∧ cap = 0) (w : World) (h : Rd w p l) :
    Calls Try.prog 48 #[.slice p n cap] w fun e w' => ∃ (q : Option Addr) (c : Nat), e = .returned (.slice q n c) ∧ n ≤ c ∧ (q = none → n = 0 ∧ c = 0) ∧ Own w.heap.size w' q l ∧ Gr w w' := by
  subst en
  exact (clone_any p l l.length cap rfl hl hp w h).mono fun _ _ ⟨q, c, h1, h2, h3, h4, h5⟩ => ⟨q, c, h1, h2, fun e => ⟨by rw [(h3 e).1]; rfl, (h3 e).2⟩, h4, h5⟩

theorem down_val {l : List Nat} {N n sk t : Nat} (hl : ok l) (en : l.length = n) (hs : min (N / 32) n = sk) (ht : N % 32 = t) : val (l.drop sk) / 2 ^ t = val l / 2 ^ N := by
  have e : 2 ^ N = 2 ^ (32 * (N / 32)) * 2 ^ t := by rw [← Nat.pow_add]; congr 1; omega
  rw [e, ← Nat.div_div_eq_div_mul, ← pw_eq]
  congr 1
  by_cases h : N / 32 ≤ n
  · obtain rfl : N / 32 = sk := by omega
    have h1 := val_take_drop l (N / 32) (by omega)
    rw [h1, Nat.add_mul_div_left _ _ (pw_pos _), Nat.div_eq_of_lt (val_take_lt hl _), Nat.zero_add]
  · obtain rfl : n = sk := by omega
    rw [List.drop_eq_nil_of_le (by omega), Nat.div_eq_of_lt]
    · rfl
    · have h1 := val_lt hl
      have h2 := pw_mono (show l.length ≤ N / 32 by omega)
      omega

set_option maxRecDepth 100000 in
set_option maxHeartbeats 4000000 in
/-- The words from sk on, moved by t bits; P is where they begin, C their capacity. -/
theorem down_core (p P : Option Addr) (l : List Nat) (n cap sk t : Nat) (en : l.length = n) (hc : n ≤ 1048576) (hP : P = none → n - sk = 0 ∧ cap - sk = 0)
    (N : Nat) (hN : N ≤ 10000) (hsk : min (N / 32) n = sk) (ht : N % 32 = t) (hok : ok l) (w : World) (hR : Rd w P (l.drop sk))
    (hrun : ∀ w : World, (Instr.slice 22 (.slice p n cap) (some (.int .i64 (sk : Int))) none none).run Try.prog w = .ok (.slice P (n - sk) (cap - sk)) w) :
    Calls Try.prog 97 #[.slice p n cap, .int .i64 N] w (DownAt l N w) := by
  have hsn : sk ≤ n := by omega
  have HOK := Lib.hid hok
  have HRD := Lib.hid hR
  have HPN := Lib.hid hP
  have EN := Lib.hid en
  have d1 : min ((N : Int) / 32) (n : Int) = (sk : Int) := by omega
  have d2 : (N : Int) % 32 = (t : Int) := by omega
  have ht32 : t < 32 := by omega
  have HSK := Lib.hid hsk
  have HT := Lib.hid ht
  clear hok hR hP en hsk ht
  go_enter Try.func97, Try.ntmps97
  go_wp2_with fail
  have hm : (l.drop sk).length = n - sk := by rw [List.length_drop, EN.out]
  have HM := Lib.hid hm
  have HMO : Hid (ok (l.drop sk)) := Lib.hid (ok_drop HOK.out sk)
  have HVAL : Hid (val (l.drop sk) / 2 ^ t = val l / 2 ^ N) := Lib.hid (down_val HOK.out EN.out HSK.out HT.out)
  generalize l.drop sk = m at *
  generalize hMM : n - sk = M at *
  have hMn : M ≤ n := by omega
  clear hm hrun
  refine (clone_at P m M (cap - sk) HM.out (by omega) HPN.out w HRD.out).mono ?_
  rintro e w1 ⟨q, c, rfl, hqc, hqn, ho, hg⟩
  have HO := Lib.hid ho
  have HG := Lib.hid hg
  have HQ := Lib.hid hqn
  clear ho hg hqn
  by_cases hM0 : M = 0
  · subst hM0
    have hm0 : m = [] := List.length_eq_zero_iff.1 HM.out
    go_wp2
    refine wp_loop_rounds 1 ?_
    rw [rounds_succ]
    go_wp2
    go_ret
    refine ⟨q, [], c, rfl, Nat.zero_le _, Nat.zero_le _, fun e => ⟨rfl, (HQ.out e).2⟩, ok_nil, ?_, Own.nil _ _ _, HG.out⟩
    rw [← HVAL.out, hm0]
    simp [val]
  · obtain ⟨g, off, rfl, hgb, hh⟩ : ∃ g off, q = some ⟨g, off, none⟩ ∧ w.heap.size ≤ g ∧ Hold w1 g off m := by
      rcases HO.out with h | ⟨g, off, h1, h2, h3⟩
      · exact absurd (by rw [← HM.out, h]; rfl) hM0
      · exact ⟨g, off, h1, h2, h3⟩
    have H0 := Lib.hid (ShrAt.start (t := t) hh)
    clear hh HO HQ
    have hM1 : 0 < M := by omega
    clear hM0
    go_wp2
    go_loopw [22] (fun i wr => ∃ k : Nat, k ≤ M ∧ i = .int .i64 k ∧ ShrAt g off t m w1 k wr) (fun i _ => M - (intOf i).toNat)
    case atStart => exact ⟨0, Nat.zero_le _, rfl, H0.out⟩
    case round =>
      obtain ⟨k, hk, rfl, hA⟩ := hrel
      have HA := Lib.hid hA
      by_cases hlt : k < M
      · obtain ⟨c1, f1⟩ := hA.word k (Nat.le_refl _) (by rw [HM.out]; exact hlt)
        have hx := ok_get HMO.out k
        have hu : ((m[k]?.getD 0 : Nat) : Int) / 2 ^ t = ((m[k]?.getD 0 / 2 ^ t : Nat) : Int) := by rw [Int.natCast_ediv, Int.natCast_pow]; rfl
        by_cases hl : k + 1 < M
        · obtain ⟨c2, f2⟩ := hA.word (k + 1) (by omega) (by rw [HM.out]; exact hl)
          have E := Lib.hid (or_word (y := m[k + 1]?.getD 0) ht32 hx)
          have EG := Lib.hid (shr_get (t := t) m k (by rw [HM.out]; exact hl))
          clear hA
          generalize m[k]?.getD 0 = x at *
          generalize m[k + 1]?.getD 0 = y at *
          generalize x / 2 ^ t = u at *
          go_wp2
          have k1 : (wr.setCell ⟨g, off + k, none⟩ (.int .u32 (u : Int))).cell? ⟨g, off + k, none⟩ = some (.int .u32 (u : Int)) := World.cell?_setCell_same' _ _ _ (by rw [c1]; rfl)
          have k2 : (wr.setCell ⟨g, off + k, none⟩ (.int .u32 (u : Int))).cell? ⟨g, off + (k + 1), none⟩ = some (.int .u32 (y : Int)) := by
            rw [World.cell?_setCell_other _ _ _ _ (by intro e; injection e with e1 e2; omega)]; exact c2
          have k3 : (wr.setCell ⟨g, off + k, none⟩ (.int .u32 (u : Int))).frozen? ⟨g, off + k, none⟩ = false := by rw [World.frozen?_setCell]; exact f1
          have W2eq : Hid (wr.setCell ⟨g, off + k, none⟩ (.int .u32 (u : Int)) = wr.setCell ⟨g, off + k, none⟩ (.int .u32 (u : Int))) := Lib.hid rfl
          generalize hW : wr.setCell ⟨g, off + k, none⟩ (.int .u32 (u : Int)) = W2 at k1 k2 k3 ⊢
          have HW := Lib.hid hW
          clear hW W2eq c1 c2 f1 f2
          have q1 : IntKind.i64.wrap ((k : Int) + 1) = (k : Int) + 1 := IntWalk.i64_in _ (by omega)
          have q2 : (0 : Int) ≤ (k : Int) + 1 := by omega
          have q3 : ((k : Int) + 1).toNat = k + 1 := by omega
          have q4 : IntKind.i64.wrap ((32 : Int) - (t : Int)) = ((32 - t : Nat) : Int) := by rw [IntWalk.i64_in _ (by omega)]; omega
          have q5 : (0 : Int) ≤ ((32 - t : Nat) : Int) := by omega
          have q6 : (k : Int) + 1 < (M : Int) := by omega
          have q7 : (0 : Int) ≤ (k : Int) := by omega
          have q8 : (k : Int) < (M : Int) := by omega
          go_still_tail 14, (by kernel_rfl)
          change wpList _ _ _ _ _ W2.drew
          have k4 : W2.drew.cell? ⟨g, off + k, none⟩ = some (.int .u32 (u : Int)) := k1
          have k5 : W2.drew.frozen? ⟨g, off + k, none⟩ = false := k3
          clear k1 k2 k3 q1 q2 q3 q4 q5 q6
          go_wp2
          go_roundw
          case rel => exact ⟨k + 1, by omega, by go_num, by rw [E.out, ← HW.out]; exact HA.out.step2 u _ (by rw [HM.out]; exact hlt) EG.out.symm⟩
          case measure => simp [intOf]; omega
        · have EG := Lib.hid (shr_last (t := t) m k (by rw [HM.out]; omega))
          clear hA
          generalize m[k]?.getD 0 = x at *
          generalize x / 2 ^ t = u at *
          go_wp2
          go_roundw
          case rel => exact ⟨k + 1, by omega, by go_num, HA.out.step1 _ (by rw [HM.out]; exact hlt) EG.out.symm⟩
          case measure => simp [intOf]; omega
      · obtain rfl : k = M := by omega
        clear hA
        go_wp2
        go_ret
        have hd := HA.out
        rw [← HM.out] at hd
        obtain ⟨h1, h2⟩ := hd.done
        refine ⟨some ⟨g, off, none⟩, shr t m, c, by rw [shr_length, HM.out]; rfl, by rw [shr_length, HM.out]; exact hqc, by rw [shr_length, HM.out, EN.out]; exact hMn, (fun e => by cases e), shr_ok ht32 HMO.out, by rw [shr_val ht32]; exact HVAL.out, h1.own hgb, Wr.gr HG.out h2 hgb⟩

theorem run_from (a : Addr) (n cap sk : Nat) (h : sk ≤ n) (w : World) : (Instr.slice 22 (.slice (some a) n cap) (some (.int .i64 (sk : Int))) none none).run Try.prog w = .ok (.slice (if cap = sk then some a else some (a.add sk)) (n - sk) (cap - sk)) w := by
  have h1 : (sk : Int) ≤ (n : Int) := by omega
  go_simp
theorem run_from_nil (w : World) : (Instr.slice 22 (.slice none 0 0) (some (.int .i64 ((0 : Nat) : Int))) none none).run Try.prog w = .ok (.slice none 0 0) w := by
  go_simp
theorem rd_from {w : World} {a : Addr} {l : List Nat} {n cap sk : Nat} (en : l.length = n) (hn : n ≤ cap) (h : Rd w (some a) l) : Rd w (if cap = sk then some a else some (a.add sk)) (l.drop sk) := by
  by_cases h0 : sk < n
  · obtain ⟨b, off, e, hc⟩ := h.at (by omega)
    cases e
    rw [if_neg (by omega), addr_add]
    refine .inr ⟨b, off + sk, rfl, fun i hi => ?_⟩
    rw [List.length_drop] at hi
    rw [Nat.add_assoc, hc (sk + i) (by omega), List.getElem?_drop]
  · exact .inl (List.drop_eq_nil_of_le (by omega))
/-- natural's down. -/
theorem down_any (p : Option Addr) (l : List Nat) (n cap : Nat) (N : Nat) (hN : N ≤ 10000) (w : World) (h : Nw w p n cap l) :
    Calls Try.prog 97 #[.slice p n cap, .int .i64 N] w (DownAt l N w) := by
  cases p with
  | none =>
    obtain ⟨rfl, rfl⟩ := h.nil rfl
    refine down_core none none l 0 0 0 (N % 32) h.len (by decide) (fun _ => ⟨rfl, rfl⟩) N hN (by omega) rfl h.ok w ?_ run_from_nil
    exact .inl (by rw [List.length_eq_zero_iff.1 h.len]; rfl)
  | some a =>
    refine down_core (some a) _ l n cap (min (N / 32) n) (N % 32) h.len h.small (fun e => by split at e <;> cases e) N hN rfl rfl h.ok w (rd_from h.len h.le h.rd) (run_from a n cap _ (by omega))
end Go.Proofs.Ytiefnhpbniaklaa.Ne
