/- The next level. -/
import Derived.Test.YtmiidniihbhkdaaDTree
import Derived.Deep.RegionHeld3
import Derived.IntWalk
import Derived.Outline
namespace Go.Proofs.Ytmiidniihbhkdaa
open Go.RowKit

/-- a digest's eight cells, one by one -/
theorem Dig8.all {w : World} {b o : Nat} {l : List UInt8} (h : Dig8 w b o l) : w.cell? ⟨b, o, none⟩ = some (.int .u8 (db l 0 : Int)) ∧ w.cell? ⟨b, o + 1, none⟩ = some (.int .u8 (db l 1 : Int)) ∧ w.cell? ⟨b, o + 2, none⟩ = some (.int .u8 (db l 2 : Int)) ∧ w.cell? ⟨b, o + 3, none⟩ = some (.int .u8 (db l 3 : Int)) ∧
    w.cell? ⟨b, o + 4, none⟩ = some (.int .u8 (db l 4 : Int)) ∧ w.cell? ⟨b, o + 5, none⟩ = some (.int .u8 (db l 5 : Int)) ∧ w.cell? ⟨b, o + 6, none⟩ = some (.int .u8 (db l 6 : Int)) ∧ w.cell? ⟨b, o + 7, none⟩ = some (.int .u8 (db l 7 : Int)) :=
  ⟨h 0 (by decide), h 1 (by decide), h 2 (by decide), h 3 (by decide), h 4 (by decide), h 5 (by decide), h 6 (by decide), h 7 (by decide)⟩
theorem dig_size (l : List UInt8) : (⟨(dig l).toArray⟩ : ByteArray).size ≤ 9223372036854775807 := by rw [size_mk, dig_len]; decide

theorem both {w : World} {b o1 o2 : Nat} {l1 l2 : List UInt8} (h : Dig8 w b o1 l1) (g : Dig8 w b o2 l2) : w.cell? ⟨b, o1, none⟩ = some (.int .u8 (db l1 0 : Int)) ∧ w.cell? ⟨b, o1 + 1, none⟩ = some (.int .u8 (db l1 1 : Int)) ∧ w.cell? ⟨b, o1 + 2, none⟩ = some (.int .u8 (db l1 2 : Int)) ∧ w.cell? ⟨b, o1 + 3, none⟩ = some (.int .u8 (db l1 3 : Int)) ∧ w.cell? ⟨b, o1 + 4, none⟩ = some (.int .u8 (db l1 4 : Int)) ∧ w.cell? ⟨b, o1 + 5, none⟩ = some (.int .u8 (db l1 5 : Int)) ∧ w.cell? ⟨b, o1 + 6, none⟩ = some (.int .u8 (db l1 6 : Int)) ∧ w.cell? ⟨b, o1 + 7, none⟩ = some (.int .u8 (db l1 7 : Int)) ∧ w.cell? ⟨b, o2, none⟩ = some (.int .u8 (db l2 0 : Int)) ∧ w.cell? ⟨b, o2 + 1, none⟩ = some (.int .u8 (db l2 1 : Int)) ∧ w.cell? ⟨b, o2 + 2, none⟩ = some (.int .u8 (db l2 2 : Int)) ∧ w.cell? ⟨b, o2 + 3, none⟩ = some (.int .u8 (db l2 3 : Int)) ∧ w.cell? ⟨b, o2 + 4, none⟩ = some (.int .u8 (db l2 4 : Int)) ∧ w.cell? ⟨b, o2 + 5, none⟩ = some (.int .u8 (db l2 5 : Int)) ∧ w.cell? ⟨b, o2 + 6, none⟩ = some (.int .u8 (db l2 6 : Int)) ∧ w.cell? ⟨b, o2 + 7, none⟩ = some (.int .u8 (db l2 7 : Int)) :=
  ⟨h 0 (by decide), h 1 (by decide), h 2 (by decide), h 3 (by decide), h 4 (by decide), h 5 (by decide), h 6 (by decide), h 7 (by decide), g 0 (by decide), g 1 (by decide), g 2 (by decide), g 3 (by decide), g 4 (by decide), g 5 (by decide), g 6 (by decide), g 7 (by decide)⟩
theorem text_below (l : List UInt8) (w : World) : Calls Try.prog 31 #[aggD l] w fun e w' => e = .returned (str (dig l)) ∧ Below w.heap.size w w' := by
  refine (text_any l w).mono ?_
  rintro e w' ⟨rfl, rfl⟩
  exact ⟨rfl, (Below.refl _ w).alloc (Nat.le_refl _) _⟩
theorem innerOf_dig (l1 l2 : List UInt8) (w : World) : Calls Try.prog 39 #[str (dig l1), str (dig l2)] w fun e w' => e = .returned (aggD (2 :: (dig l1 ++ dig l2))) ∧ Below w.heap.size w w' :=
  innerOf_any _ (dig_size l1) _ (dig_size l2) w

set_option maxRecDepth 100000 in
set_option maxHeartbeats 2000000 in
theorem above_any (b m c : Nat) (hm1 : 1 ≤ m) (hm2 : m ≤ 1099511627776) (P : Nat → List UInt8) (w : World) (hL : Level w b (2 * m) P) :
    Calls Try.prog 44 #[.slice (some ⟨b, 0, none⟩) (2 * m) c] w fun e w' => ∃ b', e = .returned (.slice (some ⟨b', 0, none⟩) m m) ∧ w.heap.size ≤ b' ∧ Level w' b' m (upP P) ∧ Below w.heap.size w w' := by
  obtain ⟨i0, hi, hz0, hz1, hz2⟩ := info_parts infoD
  obtain ⟨M, hM⟩ : ∃ M, M = madeCells (Value.agg #[.int .u8 0, .int .u8 0, .int .u8 0, .int .u8 0, .int .u8 0, .int .u8 0, .int .u8 0, .int .u8 0]).cells (((m : Nat) : Int).toNat * i0.size) := ⟨_, rfl⟩
  have hMs : M.size = m * 8 := by rw [hM, size_madeCells, hz1]; simp
  have hmk : ∀ W : World, (Instr.makeSlice 48 (.int .i64 (m : Int)) (.int .i64 (m : Int))).run Try.prog W = .ok (.slice (some ⟨W.heap.size, 0, none⟩) m m) (W.alloc (.cells M 43)) := fun W => by
    have h := run_make (P := Try.prog) W 48 43 i0 (.agg #[.int .u8 0, .int .u8 0, .int .u8 0, .int .u8 0, .int .u8 0, .int .u8 0, .int .u8 0, .int .u8 0]) Try.underlying48 hi hz0 .i64 .i64 (m : Int) (m : Int) (by omega) (by omega) (by rw [hz2]; omega) (by omega)
    rw [← hM] at h
    simpa using h
  clear hM hi hz0 hz1 hz2
  obtain ⟨n, hn⟩ : ∃ n, 2 * m = n := ⟨_, rfl⟩
  rw [hn] at hL ⊢
  have hq : (n : Int) / 2 = (m : Int) := by omega
  have hnu : n ≤ 2199023255552 := by omega
  have hnl : n ≤ 2 * m := by omega
  have hnr : 2 * m ≤ n := by omega
  clear hn
  go_enter Try.func44, Try.ntmps44
  go_wp2_with fail
  have hr0 : Room (w.alloc (.cells M 43)) w.heap.size (m * 8) := by rw [← hMs]; exact Room.new _ _ _
  have hB0 : Below w.heap.size w (w.alloc (.cells M 43)) := (Below.refl _ w).alloc (Nat.le_refl _) _
  generalize w.alloc (.cells M 43) = W0 at hr0 hB0 ⊢
  clear hmk hMs hq
  go_loopw [11] (fun i wr => ∃ k : Nat, k ≤ m ∧ i = .int .i64 (k : Int) ∧ Room wr w.heap.size (m * 8) ∧ Below w.heap.size w wr ∧ Level wr w.heap.size k (upP P)) (fun i _ => m - (intOf i).toNat)
  case atStart => exact ⟨0, Nat.zero_le _, rfl, hr0, hB0, Level.zero _ _ _⟩
  case round =>
    obtain ⟨k, hk, rfl, hr, hB, hU⟩ := hrel
    by_cases hlt : k < m
    · have hLr := hL.below hB (hL.lt (by omega))
      have hbw : b < w.heap.size := hL.lt (by omega)
      have ha := hLr (2 * k) (by omega)
      have hb := hLr (2 * k + 1) (by omega)
      have hw1 : IntKind.i64.wrap (2 * (k : Int)) = 2 * (k : Int) := IntWalk.i64_in _ (by omega)
      have hw2 : IntKind.i64.wrap (2 * (k : Int) + 1) = 2 * (k : Int) + 1 := IntWalk.i64_in _ (by omega)
      have ht1 : (2 * (k : Int)).toNat = 2 * k := by omega
      have ht2 : (2 * (k : Int) + 1).toNat = 2 * k + 1 := by omega
      have hi1 : (0 : Int) ≤ 2 * (k : Int) := by omega
      have hi2 : 2 * (k : Int) < (n : Int) := by omega
      have hi3 : (0 : Int) ≤ 2 * (k : Int) + 1 := by omega
      have hi4 : 2 * (k : Int) + 1 < (n : Int) := by omega
      go_wp2_with fail
      have K0 := both (w := wr.drew) ha hb
      have hrlt := hr.lt (by omega)
      go_region_held3 (fun w' => w'.cell? ⟨b, 2 * k * 8, none⟩ = some (.int .u8 (db (P (2 * k)) 0 : Int)) ∧ w'.cell? ⟨b, 2 * k * 8 + 1, none⟩ = some (.int .u8 (db (P (2 * k)) 1 : Int)) ∧ w'.cell? ⟨b, 2 * k * 8 + 2, none⟩ = some (.int .u8 (db (P (2 * k)) 2 : Int)) ∧ w'.cell? ⟨b, 2 * k * 8 + 3, none⟩ = some (.int .u8 (db (P (2 * k)) 3 : Int)) ∧ w'.cell? ⟨b, 2 * k * 8 + 4, none⟩ = some (.int .u8 (db (P (2 * k)) 4 : Int)) ∧ w'.cell? ⟨b, 2 * k * 8 + 5, none⟩ = some (.int .u8 (db (P (2 * k)) 5 : Int)) ∧ w'.cell? ⟨b, 2 * k * 8 + 6, none⟩ = some (.int .u8 (db (P (2 * k)) 6 : Int)) ∧ w'.cell? ⟨b, 2 * k * 8 + 7, none⟩ = some (.int .u8 (db (P (2 * k)) 7 : Int)) ∧ w'.cell? ⟨b, (2 * k + 1) * 8, none⟩ = some (.int .u8 (db (P (2 * k + 1)) 0 : Int)) ∧ w'.cell? ⟨b, (2 * k + 1) * 8 + 1, none⟩ = some (.int .u8 (db (P (2 * k + 1)) 1 : Int)) ∧ w'.cell? ⟨b, (2 * k + 1) * 8 + 2, none⟩ = some (.int .u8 (db (P (2 * k + 1)) 2 : Int)) ∧ w'.cell? ⟨b, (2 * k + 1) * 8 + 3, none⟩ = some (.int .u8 (db (P (2 * k + 1)) 3 : Int)) ∧ w'.cell? ⟨b, (2 * k + 1) * 8 + 4, none⟩ = some (.int .u8 (db (P (2 * k + 1)) 4 : Int)) ∧ w'.cell? ⟨b, (2 * k + 1) * 8 + 5, none⟩ = some (.int .u8 (db (P (2 * k + 1)) 5 : Int)) ∧ w'.cell? ⟨b, (2 * k + 1) * 8 + 6, none⟩ = some (.int .u8 (db (P (2 * k + 1)) 6 : Int)) ∧ w'.cell? ⟨b, (2 * k + 1) * 8 + 7, none⟩ = some (.int .u8 (db (P (2 * k + 1)) 7 : Int)))
        (first | with_reducible exact K0 | with_reducible exact K1 | with_reducible exact K2 | with_reducible exact K3 | with_reducible exact K4 | go_keep)
        (first
          | (go_at_call 31; (with_reducible refine (text_below (P (2 * k)) _).mono ?_); rintro e w3 ⟨rfl, hb3⟩; have a3 := (show Dig8 wr.drew b (2 * k * 8) (P (2 * k)) from ha).below hb3 ha.lt; have b3 := (show Dig8 wr.drew b ((2 * k + 1) * 8) (P (2 * k + 1)) from hb).below hb3 hb.lt; have K1 := both a3 b3)
          | (go_at_call 31; (with_reducible refine (text_below (P (2 * k + 1)) _).mono ?_); rintro e w4 ⟨rfl, hb4⟩; have a4 := a3.below hb4 a3.lt; have b4 := b3.below hb4 b3.lt; have K2 := both a4 b4)
          | (go_at_call 39; (with_reducible refine (innerOf_dig (P (2 * k)) (P (2 * k + 1)) _).mono ?_); rintro e w5 ⟨rfl, hb5⟩; have a5 := a4.below hb5 a4.lt; have b5 := b4.below hb5 b4.lt; have K3 := both a5 b5; have K4 := both (a5.set_other (c := w.heap.size) (p := k * 8) (2 :: (dig (P (2 * k)) ++ dig (P (2 * k + 1)))) (Nat.ne_of_lt hbw)) (b5.set_other (c := w.heap.size) (p := k * 8) (2 :: (dig (P (2 * k)) ++ dig (P (2 * k + 1)))) (Nat.ne_of_lt hbw)); have r5 := (((show Room wr.drew w.heap.size (m * 8) from hr).below hb3 hrlt).below hb4 (Nat.lt_of_lt_of_le hrlt hb3.size)).below hb5 (Nat.lt_of_lt_of_le hrlt (Nat.le_trans hb3.size hb4.size)); obtain ⟨v5, hv5, hz5⟩ := id r5; have q0 := hv5 (k * 8) (by omega); have z0 := hz5 (k * 8) (by omega); have q1 := hv5 (k * 8 + 1) (by omega); have z1 := hz5 (k * 8 + 1) (by omega); have q2 := hv5 (k * 8 + 2) (by omega); have z2 := hz5 (k * 8 + 2) (by omega); have q3 := hv5 (k * 8 + 3) (by omega); have z3 := hz5 (k * 8 + 3) (by omega); have q4 := hv5 (k * 8 + 4) (by omega); have z4 := hz5 (k * 8 + 4) (by omega); have q5 := hv5 (k * 8 + 5) (by omega); have z5 := hz5 (k * 8 + 5) (by omega); have q6 := hv5 (k * 8 + 6) (by omega); have z6 := hz5 (k * 8 + 6) (by omega); have q7 := hv5 (k * 8 + 7) (by omega); have z7 := hz5 (k * 8 + 7) (by omega); clear hv5 hz5))
      have B5 : Below w.heap.size w w5 := ((hB.trans (below_drewL (hb3.mono hB.size))).trans (hb4.mono (Nat.le_trans hB.size hb3.size))).trans (hb5.mono (Nat.le_trans hB.size (Nat.le_trans hb3.size hb4.size)))
      have U5 : Level w5 w.heap.size k (upP P) := (((show Level wr.drew w.heap.size k (upP P) from hU).below hb3 hrlt).below hb4 (Nat.lt_of_lt_of_le hrlt hb3.size)).below hb5 (Nat.lt_of_lt_of_le hrlt (Nat.le_trans hb3.size hb4.size))
      clear K0 K1 K2 K3 K4 q0 z0 q1 z1 q2 z2 q3 z3 q4 z4 q5 z5 q6 z6 q7 z7 hw1 hw2 ht1 ht2
      go_wp2
      go_roundw
      case rel => exact ⟨k + 1, by omega, by go_num, r5.set (by omega) _, set8_below _ B5 (Nat.le_refl _), U5.set r5 (by omega) rfl⟩
      case measure => simp [intOf]; omega
    · obtain rfl : k = m := by omega
      go_wp2
      go_ret
      exact ⟨_, rfl, Nat.le_refl _, hU, hB⟩
end Go.Proofs.Ytmiidniihbhkdaa
