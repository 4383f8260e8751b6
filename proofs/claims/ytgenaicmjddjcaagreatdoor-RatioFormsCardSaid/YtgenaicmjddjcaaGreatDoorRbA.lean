/- The reference's Of (of ints), Mod; ratio's reference: whole, over, opposite. -/
import Derived.Test.YtgenaicmjddjcaaGreatDoorRaH
namespace Go.Proofs.YtgenaicmjddjcaaGreatDoor
open Go.RowKit Go.Shelf

def OneC (w : World) (z : Int) (e : Ending) (w' : World) : Prop :=
 ∃ (s : Bool) (a : Option Addr) (n c : Nat), e = .returned (.agg #[.bool s, .slice a n c]) ∧ IsN w' s a n z ∧ n ≤ 64 ∧ n ≤ c ∧ Below w.heap.size w w'
set_option maxRecDepth 100000 in
set_option maxHeartbeats 4000000 in
theorem rof_neg (z : Int) (hz : -9223372036854775808 ≤ z) (hz' : z ≤ 9223372036854775807) (h : z < 0) (w : World) :
 Calls Tryz.prog 19 #[.int .i64 z] w (OneC w z) := by
 have HW := hide (show IntKind.u64.wrap (-IntKind.u64.wrap z) = -z by simp only [IntKind.wrap, IntKind.bits, IntKind.signed]; simp; omega)
 have HD := hide (show ∀ W, Calls Tryz.prog 83 #[.int .u64 (-z)] W (DigPost W (-z).toNat) from fun W => by
  have := rdigits_any (-z).toNat (by omega) W
  rw [show (((-z).toNat : Nat) : Int) = -z by omega] at this
  exact this)
 have HS : Hid (signed true (-z).toNat = z) := hide (by unfold signed; simp; omega)
 have HL : Hid (dlen (-z).toNat ≤ 64) := hide (Nat.le_trans (dlen_le_two (by omega)) (by decide))
 have h64 := hide (And.intro hz hz')
 have HH : Hid (decide (z < 0) = true) := hide (by simp; omega)
 clear hz hz'
 go_enter Tryz.func19, Tryz.ntmps19
 go_wp2_with fail
 rw [HW.out]
 clear HW
 obtain ⟨W1, hW1⟩ : ∃ W1, w.alloc (Obj.cells #[.bool false, .slice none 0 0] 25) = W1 := ⟨_, rfl⟩
 have qC : Box2 W1 w.heap.size (.bool false) (.slice none 0 0) := by rw [← hW1]; exact Box2.new _ _ _ _
 have hB : Below w.heap.size w W1 := by rw [← hW1]; exact below_alloc _ _
 try rw [hW1]
 clear hW1
 refine (HD.out W1).mono ?_
 rintro e w1 ⟨a5, n5, c5, rfl, D5, l5, -, hk⟩
 have hB := hB.trans (hk.mono hB.size)
 have qC := qC.below hk qC.lt
 clear hk
 clear HD h
 go_wp2_with fail
 have k5 : n5 ≤ 64 := by rw [D5.len]; exact HL.out
 have cc := rsigned_cap true a5 n5 c5 (dgt (-z).toNat) (by omega) l5 (fun _ _ => dgt_lt _ _) w1 D5.dig (by rw [D5.len, valF_dlen]; exact HL.out)
 rw [show signed true (valF (dgt (-z).toNat) n5) = z from by rw [D5.len, valF_dlen]; exact HS.out] at cc
 try rw [HH.out]
 refine cc.mono ?_
 clear cc
 rintro e w2 ⟨s6, a6, n6, c6, rfl, N6, -, hk, l6⟩
 have k6 := of_len N6 h64.out.1 h64.out.2
 have hB := hB.trans (hk.mono hB.size)
 have qC := qC.below hk qC.lt
 clear hk
 obtain ⟨Z6, hZ6⟩ : ∃ Z, w2.alloc (Obj.cells #[.bool false, .slice none 0 0] 25) = Z := ⟨_, rfl⟩
 obtain ⟨W6, hW6⟩ : ∃ W, (Z6.setCell ⟨w2.heap.size, 0, none⟩ (.bool s6)).setCell ⟨w2.heap.size, 1, none⟩ (.slice a6 n6 c6) = W := ⟨_, rfl⟩
 obtain ⟨H6, hk, bx6⟩ := num_new (c := c6) hZ6 hW6 N6
 clear N6
 obtain ⟨B6, hB6⟩ : ∃ B, w2.heap.size = B := ⟨_, rfl⟩
 have hB := hB.trans (hk.mono hB.size)
 have qC := qC.below hk qC.lt
 clear hk
 rw [hB6] at hW6 H6 bx6
 have P1 := H6.num
 obtain ⟨Wz, hWz⟩ : ∃ W, (W6.setCell ⟨w.heap.size, 0, none⟩ (.bool s6)).setCell ⟨w.heap.size, 1, none⟩ (.slice a6 n6 c6) = W := ⟨_, rfl⟩
 have hQ := qC.set (.bool s6) (.slice a6 n6 c6)
 have hBz := below_set2 hB (B := w.heap.size) (by omega) (.bool s6) (.slice a6 n6 c6)
 have P1 := P1.put qC (.bool s6) (.slice a6 n6 c6)
 rw [hWz] at hQ hBz P1
 have K := hide (And.intro hQ (And.intro P1 hBz))
 have HWz := hide hWz
 clear hQ hBz hWz P1
 obtain ⟨x90, x91, z90, z91⟩ := id qC
 obtain ⟨y60, y61, yz60, yz61⟩ := id bx6
 obtain ⟨x50, x51, -, -⟩ := id H6.box
 go_wp2
 try rw [hW6]
 try rw [hB6]
 obtain ⟨⟨q0, q1, -, -⟩, P1, hBB⟩ := K.out
 rw [HWz.out]
 exact bodyPost_ret (v := .agg #[.bool s6, .slice a6 n6 c6]) (by simp [results, Tryz.results19, go_sem, q0, q1]) rfl ⟨_, _, _, _, rfl, P1, k6, l6, hBB⟩
set_option maxRecDepth 100000 in
set_option maxHeartbeats 4000000 in
theorem rof_pos (z : Int) (hz : -9223372036854775808 ≤ z) (hz' : z ≤ 9223372036854775807) (h : 0 ≤ z) (w : World) :
 Calls Tryz.prog 19 #[.int .i64 z] w (OneC w z) := by
 have HW := hide (show IntKind.u64.wrap z = z by simp only [IntKind.wrap, IntKind.bits, IntKind.signed]; simp; omega)
 have HD := hide (show ∀ W, Calls Tryz.prog 83 #[.int .u64 (z)] W (DigPost W z.toNat) from fun W => by
  have := rdigits_any z.toNat (by omega) W
  rw [show ((z.toNat : Nat) : Int) = z by omega] at this
  exact this)
 have HS : Hid (signed false z.toNat = z) := hide (by unfold signed; simp; omega)
 have HL : Hid (dlen z.toNat ≤ 64) := hide (Nat.le_trans (dlen_le_two (by omega)) (by decide))
 have h64 := hide (And.intro hz hz')
 have HH : Hid (decide (z < 0) = false) := hide (by simp; omega)
 clear hz hz'
 go_enter Tryz.func19, Tryz.ntmps19
 go_wp2_with fail
 rw [HW.out]
 clear HW
 obtain ⟨W1, hW1⟩ : ∃ W1, w.alloc (Obj.cells #[.bool false, .slice none 0 0] 25) = W1 := ⟨_, rfl⟩
 have qC : Box2 W1 w.heap.size (.bool false) (.slice none 0 0) := by rw [← hW1]; exact Box2.new _ _ _ _
 have hB : Below w.heap.size w W1 := by rw [← hW1]; exact below_alloc _ _
 try rw [hW1]
 clear hW1
 refine (HD.out W1).mono ?_
 rintro e w1 ⟨a5, n5, c5, rfl, D5, l5, -, hk⟩
 have hB := hB.trans (hk.mono hB.size)
 have qC := qC.below hk qC.lt
 clear hk
 clear HD h
 go_wp2_with fail
 have k5 : n5 ≤ 64 := by rw [D5.len]; exact HL.out
 have cc := rsigned_cap false a5 n5 c5 (dgt z.toNat) (by omega) l5 (fun _ _ => dgt_lt _ _) w1 D5.dig (by rw [D5.len, valF_dlen]; exact HL.out)
 rw [show signed false (valF (dgt z.toNat) n5) = z from by rw [D5.len, valF_dlen]; exact HS.out] at cc
 try rw [HH.out]
 refine cc.mono ?_
 clear cc
 rintro e w2 ⟨s6, a6, n6, c6, rfl, N6, -, hk, l6⟩
 have k6 := of_len N6 h64.out.1 h64.out.2
 have hB := hB.trans (hk.mono hB.size)
 have qC := qC.below hk qC.lt
 clear hk
 obtain ⟨Z6, hZ6⟩ : ∃ Z, w2.alloc (Obj.cells #[.bool false, .slice none 0 0] 25) = Z := ⟨_, rfl⟩
 obtain ⟨W6, hW6⟩ : ∃ W, (Z6.setCell ⟨w2.heap.size, 0, none⟩ (.bool s6)).setCell ⟨w2.heap.size, 1, none⟩ (.slice a6 n6 c6) = W := ⟨_, rfl⟩
 obtain ⟨H6, hk, bx6⟩ := num_new (c := c6) hZ6 hW6 N6
 clear N6
 obtain ⟨B6, hB6⟩ : ∃ B, w2.heap.size = B := ⟨_, rfl⟩
 have hB := hB.trans (hk.mono hB.size)
 have qC := qC.below hk qC.lt
 clear hk
 rw [hB6] at hW6 H6 bx6
 have P1 := H6.num
 obtain ⟨Wz, hWz⟩ : ∃ W, (W6.setCell ⟨w.heap.size, 0, none⟩ (.bool s6)).setCell ⟨w.heap.size, 1, none⟩ (.slice a6 n6 c6) = W := ⟨_, rfl⟩
 have hQ := qC.set (.bool s6) (.slice a6 n6 c6)
 have hBz := below_set2 hB (B := w.heap.size) (by omega) (.bool s6) (.slice a6 n6 c6)
 have P1 := P1.put qC (.bool s6) (.slice a6 n6 c6)
 rw [hWz] at hQ hBz P1
 have K := hide (And.intro hQ (And.intro P1 hBz))
 have HWz := hide hWz
 clear hQ hBz hWz P1
 obtain ⟨x90, x91, z90, z91⟩ := id qC
 obtain ⟨y60, y61, yz60, yz61⟩ := id bx6
 obtain ⟨x50, x51, -, -⟩ := id H6.box
 go_wp2
 try rw [hW6]
 try rw [hB6]
 obtain ⟨⟨q0, q1, -, -⟩, P1, hBB⟩ := K.out
 rw [HWz.out]
 exact bodyPost_ret (v := .agg #[.bool s6, .slice a6 n6 c6]) (by simp [results, Tryz.results19, go_sem, q0, q1]) rfl ⟨_, _, _, _, rfl, P1, k6, l6, hBB⟩
theorem rof_any (z : Int) (hz : -9223372036854775808 ≤ z) (hz' : z ≤ 9223372036854775807) (w : World) :
 Calls Tryz.prog 19 #[.int .i64 z] w (OneC w z) := by
 by_cases h : z < 0
 · exact rof_neg z hz hz' h w
 · exact rof_pos z hz hz' (by omega) w
set_option maxRecDepth 100000 in
set_option maxHeartbeats 4000000 in
theorem whole_r (z : Int) (hz : -9223372036854775808 ≤ z) (hz' : z ≤ 9223372036854775807) (w : World) :
 Calls Tryz.prog 82 #[.int .i64 z] w (OneC w z) := by
 go_enter Tryz.func82, Tryz.ntmps82
 go_wp2_with fail
 obtain ⟨W1, hW1⟩ : ∃ W1, w.alloc (Obj.cells #[.bool false, .slice none 0 0] 25) = W1 := ⟨_, rfl⟩
 have qC : Box2 W1 w.heap.size (.bool false) (.slice none 0 0) := by rw [← hW1]; exact Box2.new _ _ _ _
 have hB : Below w.heap.size w W1 := by rw [← hW1]; exact below_alloc _ _
 try rw [hW1]
 clear hW1
 refine (rof_any z hz hz' W1).mono ?_
 rintro e w1 ⟨s6, a6, n6, c6, rfl, P1, k6, l6, hk⟩
 have hB := hB.trans (hk.mono hB.size)
 have qC := qC.below hk qC.lt
 clear hk
 obtain ⟨Wz, hWz⟩ : ∃ W, (w1.setCell ⟨w.heap.size, 0, none⟩ (.bool s6)).setCell ⟨w.heap.size, 1, none⟩ (.slice a6 n6 c6) = W := ⟨_, rfl⟩
 have hQ := qC.set (.bool s6) (.slice a6 n6 c6)
 have hBz := below_set2 hB (B := w.heap.size) (by omega) (.bool s6) (.slice a6 n6 c6)
 have P1 := P1.put qC (.bool s6) (.slice a6 n6 c6)
 rw [hWz] at hQ hBz P1
 have K := hide (And.intro hQ (And.intro P1 hBz))
 have HWz := hide hWz
 clear hQ hBz hWz P1
 obtain ⟨x90, x91, z90, z91⟩ := id qC
 go_wp2
 obtain ⟨⟨q0, q1, -, -⟩, P1, hBB⟩ := K.out
 rw [HWz.out]
 exact bodyPost_ret (v := .agg #[.bool s6, .slice a6 n6 c6]) (by simp [results, Tryz.results82, go_sem, q0, q1]) rfl ⟨_, _, _, _, rfl, P1, k6, l6, hBB⟩
end Go.Proofs.YtgenaicmjddjcaaGreatDoor
