/- ratio's allRight of two Nums, isZero, isOne, opposite. -/
import Derived.Test.YtgenaicmjddjcaaGreatDoorPAd
import Derived.Test.YtgenaicmjddjcaaGreatDoorPRf
import Derived.Test.YtgenaicmjddjcaaGreatDoorDsM
namespace Go.Proofs.YtgenaicmjddjcaaGreatDoor
open Go.RowKit Go.Shelf

set_option maxRecDepth 100000 in
set_option maxHeartbeats 2000000 in
theorem isZero_any (s : Bool) (a : Option Addr) (n c : Nat) (z : Int) (hn : n ≤ 64) (w : World) (h : IsN w s a n z) :
 Calls Tryz.prog 92 #[.agg #[.bool s, .slice a n c]] w fun e w' => e = .returned (.bool (decide (z = 0))) ∧ Below w.heap.size w w' := by
 go_enter Tryz.func92, Tryz.ntmps92
 go_wp2_with fail
 have hB := below_alloc w (Obj.cells #[.bool s, .slice a n c] 25)
 have hX := Box2.new w (.bool s) (.slice a n c) 25
 obtain ⟨W0, hW0⟩ : ∃ W0, w.alloc (Obj.cells #[.bool s, .slice a n c] 25) = W0 := ⟨_, rfl⟩
 rw [hW0] at hB hX ⊢
 clear hW0
 have hB : Below w.heap.size w W0.drew := hB.drew
 have hX : Box2 W0.drew w.heap.size (.bool s) (.slice a n c) := hX.below (Below.drew (Below.refl _ _)) hX.lt
 refine wp_region_held_drew (S := fun w' => Below W0.drew.heap.size W0.drew w') (by kernel_rfl) (Below.refl _ _) (fun hHeld => ?_)
 obtain ⟨WD, hWD⟩ : ∃ WD, W0.drew = WD := ⟨_, rfl⟩
 rw [hWD] at hB hX hHeld ⊢
 clear hWD
 have hlt := hX.lt
 obtain ⟨px, py, -, -⟩ := hX
 refine tk 0 (.agg #[.bool s, .slice a n c]) 3 rfl rfl ?_ (Or.inl ⟨by rfl, fun w' hSw => by have qa := (hSw.cell (p := ⟨w.heap.size, 0, none⟩) hlt).trans px; have qb := (hSw.cell (p := ⟨w.heap.size, 1, none⟩) hlt).trans py; go_simp⟩)
 simp only [Act.put, pA, pB, pC]
 refine wpAnyH_one 1 (by kernel_rfl) ?_
 refine wpOp_call (i := 1) (f := 54) (args := #[.int .i64 0]) 4 rfl rfl (by rfl) (by go_simp) ?_
 refine (of_any 0 (by decide) (by decide) WD).mono ?_
 rintro e w1 ⟨so, ao, no, co, rfl, No, ko⟩
 have hno : no ≤ 64 := by rw [No.dig.len]; exact Nat.le_trans (dlen_le_two (by decide)) (by decide)
 refine ⟨_, rfl, ko, ?_⟩
 simp only [Act.put, pA, pB, pC]
 refine wpAnyH_one 2 (by kernel_rfl) ?_
 refine wpOp_call (i := 2) (f := 89) (args := #[.agg #[.bool s, .slice a n c], .agg #[.bool so, .slice ao no co]]) 5 rfl rfl (by rfl) (by go_simp) ?_
 refine (cmp_any s so a ao n no c co z 0 hn hno w1 ((h.below hB).below ko) No).mono ?_
 rintro e w2 ⟨rfl, hk⟩
 have hk2 := ko.trans (hk.mono ko.size)
 obtain ⟨q, hq⟩ : ∃ q, cmpZ z 0 = q := ⟨_, rfl⟩
 have HQ : Hid ((q == 0) = decide (z = 0)) := hide (by
  rw [← hq]; unfold cmpZ
  by_cases h1 : z < 0
  · rw [if_pos h1]; simp; omega
  · by_cases h2 : z = 0
    · rw [if_neg h1, if_pos h2]; simp [h2]
    · rw [if_neg h1, if_neg h2]; simp [h2])
 rw [hq]
 clear hq
 refine ⟨_, rfl, hk2, ?_⟩
 simp only [Act.put, pA, pB, pC]
 refine wpAnyH_one 3 (by kernel_rfl) ?_
 refine wpOp_run (i := 3) rfl ?_
 go_simp
 refine wpAnyH_one 4 (by kernel_rfl) ?_
 refine wpOp_run (i := 4) rfl ?_
 go_simp
 refine wpAnyH_done (by kernel_rfl) ?_ _
 have hB2 := hB.trans (hk2.mono hB.size)
 rw [HQ.out]
 go_wp2
 go_ret
 exact ⟨rfl, hB2⟩
set_option maxRecDepth 100000 in
set_option maxHeartbeats 2000000 in
theorem isOne_any (s : Bool) (a : Option Addr) (n c : Nat) (z : Int) (hn : n ≤ 64) (w : World) (h : IsN w s a n z) :
 Calls Tryz.prog 90 #[.agg #[.bool s, .slice a n c]] w fun e w' => e = .returned (.bool (decide (z = 1))) ∧ Below w.heap.size w w' := by
 go_enter Tryz.func90, Tryz.ntmps90
 go_wp2_with fail
 have hB := below_alloc w (Obj.cells #[.bool s, .slice a n c] 25)
 have hX := Box2.new w (.bool s) (.slice a n c) 25
 obtain ⟨W0, hW0⟩ : ∃ W0, w.alloc (Obj.cells #[.bool s, .slice a n c] 25) = W0 := ⟨_, rfl⟩
 rw [hW0] at hB hX ⊢
 clear hW0
 have hB : Below w.heap.size w W0.drew := hB.drew
 have hX : Box2 W0.drew w.heap.size (.bool s) (.slice a n c) := hX.below (Below.drew (Below.refl _ _)) hX.lt
 refine wp_region_held_drew (S := fun w' => Below W0.drew.heap.size W0.drew w') (by kernel_rfl) (Below.refl _ _) (fun hHeld => ?_)
 obtain ⟨WD, hWD⟩ : ∃ WD, W0.drew = WD := ⟨_, rfl⟩
 rw [hWD] at hB hX hHeld ⊢
 clear hWD
 have hlt := hX.lt
 obtain ⟨px, py, -, -⟩ := hX
 refine tk 0 (.agg #[.bool s, .slice a n c]) 3 rfl rfl ?_ (Or.inl ⟨by rfl, fun w' hSw => by have qa := (hSw.cell (p := ⟨w.heap.size, 0, none⟩) hlt).trans px; have qb := (hSw.cell (p := ⟨w.heap.size, 1, none⟩) hlt).trans py; go_simp⟩)
 simp only [Act.put, pA, pB, pC]
 refine wpAnyH_one 1 (by kernel_rfl) ?_
 refine wpOp_call (i := 1) (f := 54) (args := #[.int .i64 1]) 4 rfl rfl (by rfl) (by go_simp) ?_
 refine (of_any 1 (by decide) (by decide) WD).mono ?_
 rintro e w1 ⟨so, ao, no, co, rfl, No, ko⟩
 have hno : no ≤ 64 := by rw [No.dig.len]; exact Nat.le_trans (dlen_le_two (by decide)) (by decide)
 refine ⟨_, rfl, ko, ?_⟩
 simp only [Act.put, pA, pB, pC]
 refine wpAnyH_one 2 (by kernel_rfl) ?_
 refine wpOp_call (i := 2) (f := 89) (args := #[.agg #[.bool s, .slice a n c], .agg #[.bool so, .slice ao no co]]) 5 rfl rfl (by rfl) (by go_simp) ?_
 refine (cmp_any s so a ao n no c co z 1 hn hno w1 ((h.below hB).below ko) No).mono ?_
 rintro e w2 ⟨rfl, hk⟩
 have hk2 := ko.trans (hk.mono ko.size)
 obtain ⟨q, hq⟩ : ∃ q, cmpZ z 1 = q := ⟨_, rfl⟩
 have HQ : Hid ((q == 0) = decide (z = 1)) := hide (by
  rw [← hq]; unfold cmpZ
  by_cases h1 : z < 1
  · rw [if_pos h1]; simp; omega
  · by_cases h2 : z = 1
    · rw [if_neg h1, if_pos h2]; simp [h2]
    · rw [if_neg h1, if_neg h2]; simp [h2])
 rw [hq]
 clear hq
 refine ⟨_, rfl, hk2, ?_⟩
 simp only [Act.put, pA, pB, pC]
 refine wpAnyH_one 3 (by kernel_rfl) ?_
 refine wpOp_run (i := 3) rfl ?_
 go_simp
 refine wpAnyH_one 4 (by kernel_rfl) ?_
 refine wpOp_run (i := 4) rfl ?_
 go_simp
 refine wpAnyH_done (by kernel_rfl) ?_ _
 have hB2 := hB.trans (hk2.mono hB.size)
 rw [HQ.out]
 go_wp2
 go_ret
 exact ⟨rfl, hB2⟩

set_option maxRecDepth 100000 in
set_option maxHeartbeats 2000000 in
theorem allRight_two (b : Nat) (s1 s2 : Bool) (a1 a2 : Option Addr) (n1 n2 c1 c2 : Nat) (o1 o2 : Option Int) (w : World) (hF : Four w b (.bool s1) (.slice a1 n1 c1) (.bool s2) (.slice a2 n2 c2)) (h1 : Arg w s1 a1 n1 o1) (h2 : Arg w s2 a2 n2 o2) :
 Calls Tryz.prog 88 #[.slice (some ⟨b, 0, none⟩) 2 2] w fun e w' => e = .returned (.bool (o1.isSome && o2.isSome)) ∧ Below w.heap.size w w' := by
 go_enter Tryz.func88, Tryz.ntmps88
 go_wp2_with fail
 refine wp_loop_rounds 3 ?_
 rw [rounds_succ]
 have hB := Below.refl w.heap.size w
 obtain ⟨f0, f1, f2, f3⟩ := id hF
 have hk := below_alloc w (Obj.cells #[.bool s1, .slice a1 n1 c1] 25)
 have bx := Box2.new w (.bool s1) (.slice a1 n1 c1) 25
 obtain ⟨V0, hV⟩ : ∃ W, w.alloc (Obj.cells #[.bool s1, .slice a1 n1 c1] 25) = W := ⟨_, rfl⟩
 obtain ⟨b0, hb⟩ : ∃ b, w.heap.size = b := ⟨_, rfl⟩
 rw [hV] at hk bx
 rw [hb] at bx
 have hB := hB.trans (hk.mono hB.size)
 have hF := hF.below hk
 have h1 := h1.below hk
 have h2 := h2.below hk
 obtain ⟨x, y, -, -⟩ := bx
 go_wp2_with fail
 try rw [hV]
 try rw [hb]
 clear hV hb f0 f1 f2 f3 x y hk
 refine (right_arg s1 a1 n1 c1 o1 V0 h1).mono ?_
 rintro e r0 ⟨rfl, hk⟩
 have hB := hB.trans (hk.mono hB.size)
 have hF := hF.below hk
 have h1 := h1.below hk
 have h2 := h2.below hk
 clear hk
 cases o1 with
 | none =>
   go_wp2
   go_ret
   exact ⟨rfl, hB⟩
 | some z1 =>
   go_wp2_with fail
   rw [rounds_succ]
   obtain ⟨f0, f1, f2, f3⟩ := id hF
   have hk := below_alloc r0 (Obj.cells #[.bool s2, .slice a2 n2 c2] 25)
   have bx := Box2.new r0 (.bool s2) (.slice a2 n2 c2) 25
   obtain ⟨V1, hV⟩ : ∃ W, r0.alloc (Obj.cells #[.bool s2, .slice a2 n2 c2] 25) = W := ⟨_, rfl⟩
   obtain ⟨b1, hb⟩ : ∃ b, r0.heap.size = b := ⟨_, rfl⟩
   rw [hV] at hk bx
   rw [hb] at bx
   have hB := hB.trans (hk.mono hB.size)
   have hF := hF.below hk
   have h1 := h1.below hk
   have h2 := h2.below hk
   obtain ⟨x, y, -, -⟩ := bx
   go_wp2_with fail
   try rw [hV]
   try rw [hb]
   clear hV hb f0 f1 f2 f3 x y hk
   refine (right_arg s2 a2 n2 c2 o2 V1 h2).mono ?_
   rintro e r1 ⟨rfl, hk⟩
   have hB := hB.trans (hk.mono hB.size)
   have hF := hF.below hk
   have h1 := h1.below hk
   have h2 := h2.below hk
   clear hk
   cases o2 with
   | none =>
     go_wp2
     go_ret
     exact ⟨rfl, hB⟩
   | some z2 =>
     go_wp2_with fail
     rw [rounds_succ]
     go_wp2
     go_ret
     exact ⟨rfl, hB⟩
end Go.Proofs.YtgenaicmjddjcaaGreatDoor
