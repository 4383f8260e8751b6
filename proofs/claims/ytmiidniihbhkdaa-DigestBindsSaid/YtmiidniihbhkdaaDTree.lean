/- The levels of a tree. -/
import Derived.Test.YtmiidniihbhkdaaDRefs
import Derived.OwnWalk
import Derived.Outline
namespace Go.Proofs.Ytmiidniihbhkdaa
open Go.RowKit

/-- the least k with n ≤ 2 ^ k -/
def lg (n : Nat) : Nat := if n ≤ 1 then 0 else Nat.log2 (n - 1) + 1
theorem le_lg (n : Nat) : n ≤ 2 ^ lg n := by
  unfold lg
  split
  · simp; omega
  · have := Nat.lt_log2_self (n := n - 1)
    omega
theorem lg_least {n k : Nat} (h : 2 ^ k < n) : k < lg n := by
  have hp : 0 < 2 ^ k := Nat.two_pow_pos k
  unfold lg
  rw [if_neg (by omega)]
  have : k ≤ Nat.log2 (n - 1) := (Nat.le_log2 (by omega)).2 (by omega)
  omega
theorem lg_small {n : Nat} (h : n ≤ 1099511627776) : lg n ≤ 40 := by
  by_cases hn : lg n ≤ 40
  · exact hn
  · exfalso
    unfold lg at hn
    split at hn
    · simp at hn
    · have h40 : 40 ≤ Nat.log2 (n - 1) := by omega
      have := (Nat.le_log2 (by omega)).1 h40
      have e : (2 : Nat) ^ 40 = 1099511627776 := by decide
      omega
theorem pow_small {k : Nat} (h : k ≤ 40) : 2 ^ k ≤ 1099511627776 := by
  have e : (2 : Nat) ^ 40 = 1099511627776 := by decide
  rw [← e]
  exact Nat.pow_le_pow_right (by decide) h

set_option maxRecDepth 100000 in
set_option maxHeartbeats 1000000 in
theorem width_any (n : Nat) (hn : n ≤ 1099511627776) (w : World) :
    Calls Try.prog 45 #[.int .i64 (n : Int)] w fun e w' => e = .returned (.int .i64 ((2 ^ lg n : Nat) : Int)) ∧ w = w' := by
  have hl := lg_small hn
  go_enter Try.func45, Try.ntmps45
  go_wp2
  go_loop [3] (fun x => ∃ (k m : Nat), k ≤ lg n ∧ x = .int .i64 (m : Int) ∧ Hid (m = 2 ^ k) ∧ 1 ≤ m ∧ m ≤ 1099511627776) (fun x => n - (intOf x).toNat)
  case atStart => exact ⟨0, 1, Nat.zero_le _, rfl, rfl, by decide, by decide⟩
  case round =>
    obtain ⟨k, m, hk, rfl, hm, hm1, hm2⟩ := hrel
    by_cases hlt : m < n
    · have hm0 : m = 2 ^ k := hm
      have hk1 : k < lg n := lg_least (by omega)
      have h2 : 2 ^ (k + 1) ≤ 1099511627776 := pow_small (by omega)
      have h3 : m * 2 ≤ 1099511627776 := by rw [Nat.pow_succ] at h2; omega
      clear hm0 h2
      go_wp2
      go_round
      case rel => exact ⟨k + 1, m * 2, by omega, by go_num, by show _ = _; rw [show m = 2 ^ k from hm, Nat.pow_succ], by omega, h3⟩
      case measure => simp [intOf]; omega
    · have hm0 : m = 2 ^ k := hm
      have e : k = lg n := by
        rcases Nat.lt_or_ge k (lg n) with h | h
        · exfalso
          unfold lg at h
          split at h
          · omega
          · have := (Nat.le_log2 (n := n - 1) (k := k) (by omega)).1 (by omega)
            omega
        · omega
      have HE : Hid (m = 2 ^ lg n) := by rw [← e]; exact hm0
      clear hm0 hm e
      go_wp2
      go_ret
      exact ⟨by rw [show m = 2 ^ lg n from HE.out]; rfl, rfl⟩

/-- what the digests of the lowest level are of -/
def lowP (S : Nat → ByteArray) (n k : Nat) : List UInt8 := if k < n then 1 :: bs (S k) else [3]
/-- .. and those of the next level -/
def upP (P : Nat → List UInt8) (k : Nat) : List UInt8 := 2 :: (dig (P (2 * k)) ++ dig (P (2 * k + 1)))
/-- a level of n digests in block b -/
def Level (w : World) (b n : Nat) (P : Nat → List UInt8) : Prop := ∀ k, k < n → Dig8 w b (k * 8) (P k)

/-- a block's first N cells may be read and written -/
def Room (w : World) (b N : Nat) : Prop := ∃ v : Nat → Value, (∀ j, j < N → w.cell? ⟨b, j, none⟩ = some (v j)) ∧ ∀ j, j < N → w.frozen? ⟨b, j, none⟩ = false
theorem Room.lt {w : World} {b N : Nat} (h : Room w b N) (hN : 0 < N) : b < w.heap.size := by
  obtain ⟨v, hc, _⟩ := h
  exact lt_of_cell (hc 0 hN)
theorem Room.below {w w' : World} {b N B : Nat} (h : Room w b N) (t : Below B w w') (hB : b < B) : Room w' b N := by
  obtain ⟨v, hc, hf⟩ := h
  exact ⟨v, fun j hj => (t.cell (p := ⟨b, j, none⟩) hB).trans (hc j hj), fun j hj => (t.frozen (p := ⟨b, j, none⟩) hB).trans (hf j hj)⟩
theorem Room.set {w : World} {b N o : Nat} (h : Room w b N) (ho : o + 8 ≤ N) (l : List UInt8) : Room (set8 w b o l) b N := by
  obtain ⟨v, hc, hf⟩ := h
  refine ⟨fun j => if j < o ∨ o + 8 ≤ j then v j else .int .u8 (db l (j - o) : Int), fun j hj => ?_, fun j hj => (set8_frozen _ _ _ _ _).trans (hf j hj)⟩
  by_cases hjo : j < o ∨ o + 8 ≤ j
  · simp only [if_pos hjo]
    rw [set8_other _ _ _ _ _ hjo]; exact hc j hj
  · simp only [if_neg hjo]
    obtain ⟨i, rfl⟩ : ∃ i, j = o + i := ⟨j - o, by omega⟩
    rw [Nat.add_sub_cancel_left]
    exact set8_cell w b o l (fun i hi => by rw [hc (o + i) (by omega)]; rfl) i (by omega)
theorem Room.new (w : World) (M : Array Value) (t : TypeId) : Room (w.alloc (.cells M t)) w.heap.size M.size :=
  ⟨fun j => M.getD j undef, fun j hj => by simp [go_sem, hj], fun j hj => by simp [go_sem]⟩
theorem Dig8.below {w w' : World} {b o B : Nat} {l : List UInt8} (h : Dig8 w b o l) (t : Below B w w') (hB : b < B) : Dig8 w' b o l := fun j hj => (t.cell (p := ⟨b, o + j, none⟩) hB).trans (h j hj)
theorem Dig8.lt {w : World} {b o : Nat} {l : List UInt8} (h : Dig8 w b o l) : b < w.heap.size := lt_of_cell (h 0 (by decide))
theorem Dig8.set_other {w : World} {b c o p : Nat} {l : List UInt8} (h : Dig8 w b o l) (l' : List UInt8) (hne : b ≠ c) : Dig8 (set8 w c p l') b o l := fun j hj => (set8_block w c p b (o + j) l' hne).trans (h j hj)
theorem Level.below {w w' : World} {b n B : Nat} {P : Nat → List UInt8} (h : Level w b n P) (t : Below B w w') (hB : b < B) : Level w' b n P := fun k hk => (h k hk).below t hB
theorem Level.lt {w : World} {b n : Nat} {P : Nat → List UInt8} (h : Level w b n P) (hn : 0 < n) : b < w.heap.size := (h 0 hn).lt
theorem Level.set {w : World} {b k N : Nat} {P : Nat → List UInt8} (h : Level w b k P) (hr : Room w b N) (hk : k * 8 + 8 ≤ N) {l : List UInt8} (hl : l = P k) : Level (set8 w b (k * 8) l) b (k + 1) P := by
  intro j hj i hi
  obtain ⟨v, hc, _⟩ := hr
  by_cases e : j = k
  · subst e
    rw [set8_cell w b (j * 8) l (fun i hi => by rw [hc _ (by omega)]; rfl) i hi, hl]
  · rw [set8_other _ _ _ _ _ (by omega)]
    exact h j (by omega) i hi
theorem Level.zero (w : World) (b : Nat) (P : Nat → List UInt8) : Level w b 0 P := fun k hk => absurd hk (Nat.not_lt_zero k)
theorem Strs.below {w w' : World} {a : Option Addr} {n B : Nat} {S : Nat → ByteArray} (h : Strs w a n S) (t : Below B w w') (hB : w.heap.size ≤ B) : Strs w' a n S := by
  rcases h with h | ⟨b, off, e, h⟩
  · exact .inl h
  · exact .inr ⟨b, off, e, fun j hj => (t.cell (p := ⟨b, off + j, none⟩) (by have := lt_of_cell (h j hj); show b < B; simp only at this; omega)).trans (h j hj)⟩

theorem infoD : (Try.prog.info? 43).map (fun i => (i.zero, i.size, i.bytes)) = some (some (.agg #[.int .u8 0, .int .u8 0, .int .u8 0, .int .u8 0, .int .u8 0, .int .u8 0, .int .u8 0, .int .u8 0]), 8, 8) := by kernel_rfl

set_option maxRecDepth 100000 in
set_option maxHeartbeats 1000000 in
theorem leaves_any (a : Option Addr) (n c : Nat) (hn : n ≤ 1099511627776) (S : Nat → ByteArray) (hs : ∀ j, j < n → (S j).size ≤ 9223372036854775807) (w : World) (hS : Strs w a n S) :
    Calls Try.prog 43 #[.slice a n c] w fun e w' => ∃ b, e = .returned (.slice (some ⟨b, 0, none⟩) (2 ^ lg n) (2 ^ lg n)) ∧ w.heap.size ≤ b ∧ Level w' b (2 ^ lg n) (lowP S n) ∧ Below w.heap.size w w' := by
  obtain ⟨m, hm⟩ : ∃ m, 2 ^ lg n = m := ⟨_, rfl⟩
  have hw := width_any n hn w
  have hnm : n ≤ m := by rw [← hm]; exact le_lg n
  have hm1 : 1 ≤ m := by rw [← hm]; exact Nat.two_pow_pos _
  have hm2 : m ≤ 1099511627776 := by rw [← hm]; exact pow_small (lg_small hn)
  rw [hm] at hw ⊢
  clear hm
  obtain ⟨i0, hi, hz0, hz1, hz2⟩ := info_parts infoD
  obtain ⟨M, hM⟩ : ∃ M, M = madeCells (Value.agg #[.int .u8 0, .int .u8 0, .int .u8 0, .int .u8 0, .int .u8 0, .int .u8 0, .int .u8 0, .int .u8 0]).cells (((m : Nat) : Int).toNat * i0.size) := ⟨_, rfl⟩
  have hMs : M.size = m * 8 := by rw [hM, size_madeCells, hz1]; simp
  have hmk : ∀ W : World, (Instr.makeSlice 48 (.int .i64 (m : Int)) (.int .i64 (m : Int))).run Try.prog W = .ok (.slice (some ⟨W.heap.size, 0, none⟩) m m) (W.alloc (.cells M 43)) := fun W => by
    have h := run_make (P := Try.prog) W 48 43 i0 (.agg #[.int .u8 0, .int .u8 0, .int .u8 0, .int .u8 0, .int .u8 0, .int .u8 0, .int .u8 0, .int .u8 0]) Try.underlying48 hi hz0 .i64 .i64 (m : Int) (m : Int) (by omega) (by omega) (by rw [hz2]; omega) (by omega)
    rw [← hM] at h
    simpa using h
  clear hM hi hz0 hz1 hz2
  have HW := hide hw
  clear hw
  go_enter Try.func43, Try.ntmps43
  go_wp2_with fail
  refine HW.out.mono ?_
  rintro e w' ⟨rfl, rfl⟩
  go_wp2_with fail
  refine (missing_any _).mono ?_
  rintro e w1 ⟨rfl, hb1⟩
  go_wp2_with fail
  have hr0 : Room (w1.alloc (cellsD [3])) w.heap.size (m * 8) := by
    have h1 : Room (w.alloc (.cells M 43)) w.heap.size M.size := Room.new _ _ _
    rw [hMs] at h1
    have h2 := h1.below hb1 (h1.lt (by omega))
    exact h2.below ((Below.refl _ w1).alloc (Nat.le_refl _) _) (h2.lt (by omega))
  have hB0 : Below w.heap.size w (w1.alloc (cellsD [3])) := (((Below.refl _ w).alloc (Nat.le_refl _) _).trans (hb1.mono (by simp))).alloc (by have := hb1.size; simp at this; omega) _
  have hN0 : Dig8 (w1.alloc (cellsD [3])) w1.heap.size 0 [3] := by
    intro j hj
    match j, hj with
    | 0, _ | 1, _ | 2, _ | 3, _ | 4, _ | 5, _ | 6, _ | 7, _ => simp [go_sem]
  have hbb : w.heap.size < w1.heap.size := by have := hb1.size; simp at this; omega
  generalize w1.alloc (cellsD [3]) = W0 at hr0 hB0 hN0 ⊢
  generalize w1.heap.size = B1 at hN0 hbb ⊢
  clear hb1 hmk hMs HW
  go_loopw [13] (fun i wr => ∃ k : Nat, k ≤ m ∧ i = .int .i64 (k : Int) ∧ Room wr w.heap.size (m * 8) ∧ Below w.heap.size w wr ∧ Dig8 wr B1 0 [3] ∧ Level wr w.heap.size k (lowP S n)) (fun i _ => m - (intOf i).toNat)
  case atStart => exact ⟨0, Nat.zero_le _, rfl, hr0, hB0, hN0, Level.zero _ _ _⟩
  case round =>
    obtain ⟨k, hk, rfl, hr, hB, hN, hL⟩ := hrel
    by_cases hlt : k < m
    · by_cases hkn : k < n
      · obtain ⟨b, off, rfl, hc⟩ : ∃ b off, a = some ⟨b, off, none⟩ ∧ ∀ j, j < n → wr.cell? ⟨b, off + j, none⟩ = some (.string (S j)) := by
          rcases hS.below hB (Nat.le_refl _) with h | h
          · omega
          · exact h
        have hck := hc k hkn
        have hsk := hs k hkn
        clear hc hs
        go_wp2_with fail
        refine (leafOf_any _ hsk _).mono ?_
        rintro e w2 ⟨rfl, hb2⟩
        have hr2 := hr.below hb2 (hr.lt (by omega))
        have hL2 : Level w2 w.heap.size k (lowP S n) := hL.below hb2 (hr.lt (by omega))
        have hB2 := hB.trans (hb2.mono hB.size)
        have hN2 := hN.below hb2 hN.lt
        obtain ⟨v, hv, hz⟩ := id hr2
        have q0 := hv (k * 8) (by omega)
        have z0 := hz (k * 8) (by omega)
        have q1 := hv (k * 8 + 1) (by omega)
        have z1 := hz (k * 8 + 1) (by omega)
        have q2 := hv (k * 8 + 2) (by omega)
        have z2 := hz (k * 8 + 2) (by omega)
        have q3 := hv (k * 8 + 3) (by omega)
        have z3 := hz (k * 8 + 3) (by omega)
        have q4 := hv (k * 8 + 4) (by omega)
        have z4 := hz (k * 8 + 4) (by omega)
        have q5 := hv (k * 8 + 5) (by omega)
        have z5 := hz (k * 8 + 5) (by omega)
        have q6 := hv (k * 8 + 6) (by omega)
        have z6 := hz (k * 8 + 6) (by omega)
        have q7 := hv (k * 8 + 7) (by omega)
        have z7 := hz (k * 8 + 7) (by omega)
        clear hv hz
        go_wp2
        go_roundw
        case rel => exact ⟨k + 1, by omega, by go_num, hr2.set (by omega) _, set8_below _ hB2 (Nat.le_refl _), hN2.set_other _ (by omega), hL2.set hr2 (by omega) (by simp [lowP, hkn])⟩
        case measure => simp [intOf]; omega
      · obtain ⟨v, hv, hz⟩ := id hr
        have q0 := hv (k * 8) (by omega)
        have z0 := hz (k * 8) (by omega)
        have q1 := hv (k * 8 + 1) (by omega)
        have z1 := hz (k * 8 + 1) (by omega)
        have q2 := hv (k * 8 + 2) (by omega)
        have z2 := hz (k * 8 + 2) (by omega)
        have q3 := hv (k * 8 + 3) (by omega)
        have z3 := hz (k * 8 + 3) (by omega)
        have q4 := hv (k * 8 + 4) (by omega)
        have z4 := hz (k * 8 + 4) (by omega)
        have q5 := hv (k * 8 + 5) (by omega)
        have z5 := hz (k * 8 + 5) (by omega)
        have q6 := hv (k * 8 + 6) (by omega)
        have z6 := hz (k * 8 + 6) (by omega)
        have q7 := hv (k * 8 + 7) (by omega)
        have z7 := hz (k * 8 + 7) (by omega)
        have n0 : wr.cell? ⟨B1, 0, none⟩ = some (.int .u8 (db [3] 0 : Int)) := by have := hN 0 (by decide); rwa [Nat.zero_add] at this
        have n1 : wr.cell? ⟨B1, 1, none⟩ = some (.int .u8 (db [3] 1 : Int)) := by have := hN 1 (by decide); rwa [Nat.zero_add] at this
        have n2 : wr.cell? ⟨B1, 2, none⟩ = some (.int .u8 (db [3] 2 : Int)) := by have := hN 2 (by decide); rwa [Nat.zero_add] at this
        have n3 : wr.cell? ⟨B1, 3, none⟩ = some (.int .u8 (db [3] 3 : Int)) := by have := hN 3 (by decide); rwa [Nat.zero_add] at this
        have n4 : wr.cell? ⟨B1, 4, none⟩ = some (.int .u8 (db [3] 4 : Int)) := by have := hN 4 (by decide); rwa [Nat.zero_add] at this
        have n5 : wr.cell? ⟨B1, 5, none⟩ = some (.int .u8 (db [3] 5 : Int)) := by have := hN 5 (by decide); rwa [Nat.zero_add] at this
        have n6 : wr.cell? ⟨B1, 6, none⟩ = some (.int .u8 (db [3] 6 : Int)) := by have := hN 6 (by decide); rwa [Nat.zero_add] at this
        have n7 : wr.cell? ⟨B1, 7, none⟩ = some (.int .u8 (db [3] 7 : Int)) := by have := hN 7 (by decide); rwa [Nat.zero_add] at this
        have hr2 := hr
        have hL2 := hL
        have hB2 := hB
        have hN2 := hN
        clear hv hz hS hs
        go_wp2
        go_roundw
        case rel => exact ⟨k + 1, by omega, by go_num, hr2.set (by omega) _, set8_below _ hB2 (Nat.le_refl _), hN2.set_other _ (by omega), hL2.set hr2 (by omega) (by simp [lowP, hkn])⟩
        case measure => simp [intOf]; omega
    · obtain rfl : k = m := by omega
      go_wp2
      go_ret
      exact ⟨_, rfl, Nat.le_refl _, hL, hB⟩
end Go.Proofs.Ytmiidniihbhkdaa
