/- num's Int. -/
import Derived.Test.YtmpdeiopdempcaaGreatDoorNumE
import Derived.Test.YtmpdeiopdempcaaGreatDoorNumK
namespace Go.Proofs.YtmpdeiopdempcaaGreatDoor
open Go.RowKit Go.Shelf

theorem rightB_yes {w : World} {s : Bool} {a : Option Addr} {n : Nat} {z : Int} (h : IsN w s a n z) (hn : n ≤ 64) : rightB s n (dgt z.natAbs) = true := by
  unfold rightB
  split
  · rename_i h0
    subst h0
    have : z.natAbs = 0 := dlen_eq_zero.1 h.dig.len.symm
    rw [h.sign]; simp; omega
  · rename_i h0
    have : z.natAbs ≠ 0 := fun e => h0 (by rw [h.dig.len, e, dlen_zero])
    have ht := dgt_top this
    rw [← h.dig.len] at ht
    simp [hn, ht]
theorem right_yes (s : Bool) (a : Option Addr) (n cap : Nat) (z : Int) (hn : n ≤ 64) (w : World) (h : IsN w s a n z) :
    Calls Tryz.prog 27 #[.agg #[.bool s, .slice a n cap]] w fun e w' => e = .returned (.bool true) ∧ Below w.heap.size w w' := by
  have := right_any s a n cap (dgt z.natAbs) (by omega) w h.dig.dig
  rw [rightB_yes h hn] at this; exact this

theorem dlen_le_two {x : Nat} (h : x < 18446744073709551616) : dlen x ≤ 2 := dlen_le_iff.2 (by rw [bp_two]; exact h)

set_option maxRecDepth 100000 in
set_option maxHeartbeats 1000000 in
theorem int_fit (s : Bool) (a : Option Addr) (n cap : Nat) (z : Int) (h0 : -9223372036854775808 ≤ z) (h1 : z ≤ 9223372036854775807) (w : World) (h : IsN w s a n z) :
    Calls Tryz.prog 31 #[.agg #[.bool s, .slice a n cap]] w fun e w' => e = .returned (.tuple #[.int .i64 z, .bool true]) ∧ Below w.heap.size w w' := by
  have hn2 : n ≤ 2 := by rw [h.dig.len]; exact dlen_le_two (by omega)
  have hb0 : Below w.heap.size w (w.alloc (.cells #[.bool s, .slice a n cap] 27)) := (Below.refl _ w).alloc (Nat.le_refl _) _
  have hv : valF (dgt z.natAbs) n = z.natAbs := by rw [h.dig.len, valF_dlen]
  have HV := hide hv
  have HB0 := hide hb0
  have hn2' : (n : Int) ≤ 2 := by omega
  clear hv hb0
  by_cases hz : z < 0
  · obtain rfl : s = true := by rw [h.sign]; simp [hz]
    go_enter Tryz.func31, Tryz.ntmps31
    go_wp2_with fail
    refine (right_yes true a n cap z (by omega) _ (h.below HB0.out)).mono ?_
    rintro e w1 ⟨rfl, hb⟩
    have c0 : w1.cell? ⟨w.heap.size, 0, none⟩ = some (.bool true) := (hb.cell (p := ⟨w.heap.size, 0, none⟩) (by simp)).trans (by simp [go_sem])
    have c1 : w1.cell? ⟨w.heap.size, 1, none⟩ = some (.slice a n cap) := (hb.cell (p := ⟨w.heap.size, 1, none⟩) (by simp)).trans (by simp [go_sem])
    have hB1 : Below w.heap.size w w1 := HB0.out.trans (hb.mono (by simp))
    go_wp2_with fail
    refine (join_any a n cap (dgt z.natAbs) hn2 (fun _ _ => dgt_lt _ _) _ (h.dig.dig.below hB1)).mono ?_
    rintro e w2 ⟨rfl, hb2⟩
    have c0' := (hb2.cell (p := ⟨w.heap.size, 0, none⟩) (lt_of_cell c0)).trans c0
    rw [HV.out]
    go_wp2
    go_ret2
    refine ⟨?_, hB1.trans (hb2.mono hB1.size)⟩
    have hw : wrap64 (IntKind.u64.wrap (-(z.natAbs : Int))) = z := by
      have e : IntKind.u64.wrap (-(z.natAbs : Int)) = (-(z.natAbs : Int)) % 18446744073709551616 := by simp [IntKind.wrap, IntKind.bits, IntKind.signed]
      rw [e]; unfold wrap64; omega
    simp [hw]
  · obtain rfl : s = false := by rw [h.sign]; simp [hz]
    go_enter Tryz.func31, Tryz.ntmps31
    go_wp2_with fail
    refine (right_yes false a n cap z (by omega) _ (h.below HB0.out)).mono ?_
    rintro e w1 ⟨rfl, hb⟩
    have c0 : w1.cell? ⟨w.heap.size, 0, none⟩ = some (.bool false) := (hb.cell (p := ⟨w.heap.size, 0, none⟩) (by simp)).trans (by simp [go_sem])
    have c1 : w1.cell? ⟨w.heap.size, 1, none⟩ = some (.slice a n cap) := (hb.cell (p := ⟨w.heap.size, 1, none⟩) (by simp)).trans (by simp [go_sem])
    have hB1 : Below w.heap.size w w1 := HB0.out.trans (hb.mono (by simp))
    go_wp2_with fail
    refine (join_any a n cap (dgt z.natAbs) hn2 (fun _ _ => dgt_lt _ _) _ (h.dig.dig.below hB1)).mono ?_
    rintro e w2 ⟨rfl, hb2⟩
    have c0' := (hb2.cell (p := ⟨w.heap.size, 0, none⟩) (lt_of_cell c0)).trans c0
    rw [HV.out]
    go_wp2
    go_ret2
    exact ⟨by simp; omega, hB1.trans (hb2.mono hB1.size)⟩

set_option maxRecDepth 100000 in
set_option maxHeartbeats 1000000 in
theorem int_unfit (s : Bool) (a : Option Addr) (n cap : Nat) (z : Int) (hn : n ≤ 64) (hz : z < -9223372036854775808 ∨ 9223372036854775807 < z) (w : World) (h : IsN w s a n z) :
    Calls Tryz.prog 31 #[.agg #[.bool s, .slice a n cap]] w fun e w' => e = .returned (.tuple #[.int .i64 0, .bool false]) ∧ Below w.heap.size w w' := by
  have hb0 : Below w.heap.size w (w.alloc (.cells #[.bool s, .slice a n cap] 27)) := (Below.refl _ w).alloc (Nat.le_refl _) _
  have HB0 := hide hb0
  clear hb0
  by_cases hn2 : n ≤ 2
  · have hv : valF (dgt z.natAbs) n = z.natAbs := by rw [h.dig.len, valF_dlen]
    have HV := hide hv
    have hn2' : (n : Int) ≤ 2 := by omega
    have hs := h.sign
    clear hv
    rcases hz with hz | hz
    · obtain rfl : s = true := by rw [hs]; simp; omega
      have hbig : (9223372036854775808 : Int) < (z.natAbs : Int) := by omega
      clear hs
      go_enter Tryz.func31, Tryz.ntmps31
      go_wp2_with fail
      refine (right_yes true a n cap z (by omega) _ (h.below HB0.out)).mono ?_
      rintro e w1 ⟨rfl, hb⟩
      have c0 : w1.cell? ⟨w.heap.size, 0, none⟩ = some (.bool true) := (hb.cell (p := ⟨w.heap.size, 0, none⟩) (by simp)).trans (by simp [go_sem])
      have c1 : w1.cell? ⟨w.heap.size, 1, none⟩ = some (.slice a n cap) := (hb.cell (p := ⟨w.heap.size, 1, none⟩) (by simp)).trans (by simp [go_sem])
      have hB1 : Below w.heap.size w w1 := HB0.out.trans (hb.mono (by simp))
      go_wp2_with fail
      refine (join_any a n cap (dgt z.natAbs) hn2 (fun _ _ => dgt_lt _ _) _ (h.dig.dig.below hB1)).mono ?_
      rintro e w2 ⟨rfl, hb2⟩
      have c0' := (hb2.cell (p := ⟨w.heap.size, 0, none⟩) (lt_of_cell c0)).trans c0
      rw [HV.out]
      go_wp2
      go_ret2
      exact ⟨by simp, hB1.trans (hb2.mono hB1.size)⟩
    · obtain rfl : s = false := by rw [hs]; simp; omega
      have hbig : (9223372036854775807 : Int) < (z.natAbs : Int) := by omega
      clear hs
      go_enter Tryz.func31, Tryz.ntmps31
      go_wp2_with fail
      refine (right_yes false a n cap z (by omega) _ (h.below HB0.out)).mono ?_
      rintro e w1 ⟨rfl, hb⟩
      have c0 : w1.cell? ⟨w.heap.size, 0, none⟩ = some (.bool false) := (hb.cell (p := ⟨w.heap.size, 0, none⟩) (by simp)).trans (by simp [go_sem])
      have c1 : w1.cell? ⟨w.heap.size, 1, none⟩ = some (.slice a n cap) := (hb.cell (p := ⟨w.heap.size, 1, none⟩) (by simp)).trans (by simp [go_sem])
      have hB1 : Below w.heap.size w w1 := HB0.out.trans (hb.mono (by simp))
      go_wp2_with fail
      refine (join_any a n cap (dgt z.natAbs) hn2 (fun _ _ => dgt_lt _ _) _ (h.dig.dig.below hB1)).mono ?_
      rintro e w2 ⟨rfl, hb2⟩
      have c0' := (hb2.cell (p := ⟨w.heap.size, 0, none⟩) (lt_of_cell c0)).trans c0
      rw [HV.out]
      go_wp2
      go_ret2
      exact ⟨by simp, hB1.trans (hb2.mono hB1.size)⟩
  · have hn2' : (2 : Int) < n := by omega
    go_enter Tryz.func31, Tryz.ntmps31
    go_wp2_with fail
    refine (right_yes s a n cap z (by omega) _ (h.below HB0.out)).mono ?_
    rintro e w1 ⟨rfl, hb⟩
    have c0 : w1.cell? ⟨w.heap.size, 0, none⟩ = some (.bool s) := (hb.cell (p := ⟨w.heap.size, 0, none⟩) (by simp)).trans (by simp [go_sem])
    have c1 : w1.cell? ⟨w.heap.size, 1, none⟩ = some (.slice a n cap) := (hb.cell (p := ⟨w.heap.size, 1, none⟩) (by simp)).trans (by simp [go_sem])
    have hB1 : Below w.heap.size w w1 := HB0.out.trans (hb.mono (by simp))
    go_wp2
    go_ret2
    exact ⟨by simp, hB1⟩
end Go.Proofs.YtmpdeiopdempcaaGreatDoor
