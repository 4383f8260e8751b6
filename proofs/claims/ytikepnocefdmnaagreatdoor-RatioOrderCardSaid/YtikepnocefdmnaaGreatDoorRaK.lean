/- ratio's Ceil. -/
import Derived.Test.YtikepnocefdmnaaGreatDoorRaG
namespace Go.Proofs.YtikepnocefdmnaaGreatDoor
open Go.RowKit Go.Shelf

set_option maxRecDepth 100000 in
set_option maxHeartbeats 16000000 in
theorem ceil_r (s1 s2 : Bool) (a1 a2 : Option Addr) (n1 n2 c1 c2 : Nat) (ox : Option Rat) (w : World) (hx : RArg w s1 a1 n1 s2 a2 n2 ox) :
 Calls Tryz.prog 18 #[.agg #[.bool s1, .slice a1 n1 c1, .bool s2, .slice a2 n2 c2]] w (IntPost w (ceilO ox)) := by
 go_enter Tryz.func18, Tryz.ntmps18
 go_wp2_with fail
 obtain ⟨W1, hW1⟩ : ∃ W1, w.alloc (Obj.cells #[.bool s1, .slice a1 n1 c1, .bool s2, .slice a2 n2 c2] 27) = W1 := ⟨_, rfl⟩
 have qA : Quad W1 w.heap.size (.bool s1) (.slice a1 n1 c1) (.bool s2) (.slice a2 n2 c2) := by rw [← hW1]; exact Quad.new _ _ _ _ _ _
 have hB : Below w.heap.size w W1 := by rw [← hW1]; exact below_alloc _ _
 have hx := hx.below hB
 try rw [hW1]
 clear hW1
 refine (right_r s1 s2 a1 a2 n1 n2 c1 c2 ox W1 hx).mono ?_
 rintro e w1 ⟨rfl, hk⟩
 have hB := hB.trans (hk.mono hB.size)
 have hx := hx.below hk
 have qA := qA.below hk
 clear hk
 cases ox with
 | none =>
   go_wp2
   go_ret2
   exact ⟨rfl, hB⟩
 | some x =>
   have hd0 := hide (rat_den_ne x)
   have pn := len_pos hx.den hd0.out
   go_wp2_with fail
   have hB := hB.drew
   have hx := hx.below (Below.drew (Below.refl _ _))
   have qA : Quad w1.drew _ _ _ _ _ := qA.below (Below.drew (Below.refl _ _))
   refine wp_region_held_drew (S := fun w' => Below (w.heap.size + 1) w1.drew w') (by kernel_rfl) (Below.refl _ _) (fun hHeld => ?_)
   obtain ⟨WE, hWE⟩ : ∃ W, w1.drew = W := ⟨_, rfl⟩
   rw [hWE] at hB hx qA hHeld ⊢
   clear hWE
   have hE := Below.refl WE.heap.size WE
   have lA0 := qA.lt
   have lS : w.heap.size + 1 ≤ WE.heap.size := by omega
   have lA : w.heap.size < w.heap.size + 1 := by omega
   obtain ⟨⟨x10, x11, x12, x13⟩, -, -, -, -⟩ := id qA
   refine tk 0 (.pointer (some ⟨w.heap.size, 0, none⟩)) 11 rfl rfl ?_
   simp only [Act.put, pA, pB, pC]
   refine tk 1 (.agg #[.bool s1, .slice a1 n1 c1]) 12 rfl rfl ?_ (Or.inl ⟨by rfl, fun w' hSw => by have q0 := (hSw.cell (p := ⟨w.heap.size, 0, none⟩) lA).trans x10; have q1 := (hSw.cell (p := ⟨w.heap.size, 1, none⟩) lA).trans x11; go_simp⟩)
   simp only [Act.put, pA, pB, pC]
   refine tk 3 (.pointer (some ⟨w.heap.size, 2, none⟩)) 14 rfl rfl ?_
   simp only [Act.put, pA, pB, pC]
   refine tk 4 (.agg #[.bool s2, .slice a2 n2 c2]) 15 rfl rfl ?_ (Or.inl ⟨by rfl, fun w' hSw => by have q2 := (hSw.cell (p := ⟨w.heap.size, 2, none⟩) lA).trans x12; have q3 := (hSw.cell (p := ⟨w.heap.size, 3, none⟩) lA).trans x13; go_simp⟩)
   simp only [Act.put, pA, pB, pC]
   refine wpAnyH_threeR 2 10 11 (by kernel_rfl) ?g1 ?g2 ?g3
   case' g1 =>
    refine wpOp_call (i := 2) (f := 62) (args := #[.agg #[.bool s1, .slice a1 n1 c1]]) 13 rfl rfl (by rfl) (by go_simp) ?_
    refine (opposite_any s1 a1 n1 c1 x.num hx.l1 WE hx.num).mono ?_
    rintro e r1 ⟨s6, a6, n6, c6, rfl, N6, k6, -, hk⟩
    have hE := hE.trans (hk.mono hE.size)
    have hx := hx.below hk
    have hS : Below (w.heap.size + 1) WE r1 := hE.mono lS
    refine ⟨_, rfl, hS, ?_⟩
    simp only [Act.put, pA, pB, pC]
    refine wpAnyH_threeR 5 10 11 (by kernel_rfl) ?g4 ?g5 ?g6
    case' g4 =>
     refine wpOp_call (i := 5) (f := 58) (args := #[.agg #[.bool s6, .slice a6 n6 c6], .agg #[.bool s2, .slice a2 n2 c2]]) 16 rfl rfl (by rfl) (by go_simp) ?_
     refine (div_num s6 s2 a6 a2 n6 n2 c6 c2 (-x.num) x.den k6 hx.l2 r1 N6 hx.den pn).mono ?_
     rintro e r2 ⟨q8, q9, s8, a8, n8, c8, s9, a9, n9, c9, rfl, e8, e9, e10, N8, N9, -, -, k8, k9, hk⟩
     have hE := hE.trans (hk.mono hE.size)
     have hx := hx.below hk
     have N6 := N6.below hk
     obtain ⟨rfl, rfl⟩ := divs_unique e8 e9 e10 hd0.out
     clear e8 e9 e10
     have hS : Below (w.heap.size + 1) WE r2 := hE.mono lS
     refine ⟨_, rfl, hS, ?_⟩
     simp only [Act.put, pA, pB, pC]
     refine tk 6 (.tuple #[.agg #[.bool s8, .slice a8 n8 c8], .agg #[.bool s9, .slice a9 n9 c9], .bool true]) 10 rfl rfl ?_
     simp only [Act.put, pA, pB, pC]
     refine tk 7 (.agg #[.bool s8, .slice a8 n8 c8]) 17 rfl rfl ?_
     simp only [Act.put, pA, pB, pC]
     refine tk 8 (.agg #[.bool s9, .slice a9 n9 c9]) 18 rfl rfl ?_
     simp only [Act.put, pA, pB, pC]
     refine tk 9 (.bool true) 19 rfl rfl ?_
     simp only [Act.put, pA, pB, pC]
     refine wpAnyH_twoR 10 11 (by kernel_rfl) ?g7 ?g8
     case' g7 =>
      refine wpOp_run (i := 10) rfl ?_
      go_simp
      have br := Box2.new r2 (Value.bool false) (Value.slice none 0 0) 25
      have hk := below_alloc' r2 (Obj.cells #[.bool false, .slice none 0 0] 25)
      obtain ⟨r3, hw⟩ : ∃ W, r2.alloc (Obj.cells #[.bool false, .slice none 0 0] 25) = W := ⟨_, rfl⟩
      obtain ⟨bbr, hbb⟩ : ∃ b, r2.heap.size = b := ⟨_, rfl⟩
      have gbr : WE.heap.size ≤ bbr := by rw [← hbb]; exact hE.size
      rw [hw] at hk br ⊢
      have hE := hE.trans (hk.mono hE.size)
      have hx := hx.below hk
      have N6 := N6.below hk
      have N8 := N8.below hk
      have N9 := N9.below hk
      rw [hbb] at br ⊢
      clear hw hbb hk
      have hS : Below (w.heap.size + 1) WE r3 := hE.mono lS
      refine ⟨hS, ?_⟩
      refine wpAnyH_one 11 (by kernel_rfl) ?_
      refine wpOp_run (i := 11) rfl ?_
      go_simp
      have bs := Box2.new r3 (Value.bool false) (Value.slice none 0 0) 25
      have hk := below_alloc' r3 (Obj.cells #[.bool false, .slice none 0 0] 25)
      obtain ⟨r4, hw⟩ : ∃ W, r3.alloc (Obj.cells #[.bool false, .slice none 0 0] 25) = W := ⟨_, rfl⟩
      obtain ⟨bbs, hbb⟩ : ∃ b, r3.heap.size = b := ⟨_, rfl⟩
      have gbs : WE.heap.size ≤ bbs := by rw [← hbb]; exact hE.size
      have lbsbr : bbr < bbs := by rw [← hbb]; exact br.lt
      rw [hw] at hk bs ⊢
      have hE := hE.trans (hk.mono hE.size)
      have hx := hx.below hk
      have N6 := N6.below hk
      have N8 := N8.below hk
      have N9 := N9.below hk
      have br := br.below hk br.lt
      rw [hbb] at bs ⊢
      clear hw hbb hk
      have hS : Below (w.heap.size + 1) WE r4 := hE.mono lS
      refine ⟨hS, ?_⟩
      refine wpAnyH_one 12 (by kernel_rfl) ?_
      have hne : bbs ≠ bbr := by omega
      have hSz := below_set2 hE gbr (.bool s8) (.slice a8 n8 c8)
      have hS := hSz.mono lS
      have H8 := Held.put (c := c8) N8 br
      have N9 := N9.put br (.bool s8) (.slice a8 n8 c8)
      have bs := bs.other (.bool s8) (.slice a8 n8 c8) hne
      obtain ⟨x90, x91, z90, z91⟩ := id br
      refine wpOp_run (i := 12) rfl ?_
      go_simp
      clear x90 x91 z90 z91 br
      obtain ⟨ws, hws⟩ : ∃ W, (r4.setCell ⟨bbr, 0, none⟩ (.bool s8)).setCell ⟨bbr, 1, none⟩ (.slice a8 n8 c8) = W := ⟨_, rfl⟩
      rw [hws] at hSz hS H8 N9 bs ⊢
      clear hws hE
      have hE := hSz
      clear hSz
      refine wpAnyH_one 13 (by kernel_rfl) ?_
      have hSz := below_set2 hE gbs (.bool s9) (.slice a9 n9 c9)
      have hS := hSz.mono lS
      have H8' : Held ((ws.setCell ⟨bbs, 0, none⟩ (.bool s9)).setCell ⟨bbs, 1, none⟩ (.slice a9 n9 c9)) bbr s8 a8 n8 c8 _ := ⟨H8.box.other (.bool s9) (.slice a9 n9 c9) (Ne.symm hne), H8.num.put bs _ _⟩
      have H8 := H8'
      clear H8'
      obtain ⟨x90, x91, z90, z91⟩ := id bs
      refine wpOp_run (i := 13) rfl ?_
      go_simp
      clear x90 x91 z90 z91 bs
      obtain ⟨wt, hwt⟩ : ∃ W, (ws.setCell ⟨bbs, 0, none⟩ (.bool s9)).setCell ⟨bbs, 1, none⟩ (.slice a9 n9 c9) = W := ⟨_, rfl⟩
      rw [hwt] at hSz hS H8 ⊢
      clear hwt hE hne
      have hE := hSz
      clear hSz
      refine tk 14 (.bool true) 6 rfl rfl ?_
      simp only [Act.put, pA, pB, pC]
      refine wpAnyH_done (by kernel_rfl) ?_ _
     case' g8 =>
      refine wpOp_run (i := 11) rfl ?_
      go_simp
      have bs := Box2.new r2 (Value.bool false) (Value.slice none 0 0) 25
      have hk := below_alloc' r2 (Obj.cells #[.bool false, .slice none 0 0] 25)
      obtain ⟨r5, hw⟩ : ∃ W, r2.alloc (Obj.cells #[.bool false, .slice none 0 0] 25) = W := ⟨_, rfl⟩
      obtain ⟨bbs, hbb⟩ : ∃ b, r2.heap.size = b := ⟨_, rfl⟩
      have gbs : WE.heap.size ≤ bbs := by rw [← hbb]; exact hE.size
      rw [hw] at hk bs ⊢
      have hE := hE.trans (hk.mono hE.size)
      have hx := hx.below hk
      have N6 := N6.below hk
      have N8 := N8.below hk
      have N9 := N9.below hk
      rw [hbb] at bs ⊢
      clear hw hbb hk
      have hS : Below (w.heap.size + 1) WE r5 := hE.mono lS
      refine ⟨hS, ?_⟩
      refine wpAnyH_one 10 (by kernel_rfl) ?_
      refine wpOp_run (i := 10) rfl ?_
      go_simp
      have br := Box2.new r5 (Value.bool false) (Value.slice none 0 0) 25
      have hk := below_alloc' r5 (Obj.cells #[.bool false, .slice none 0 0] 25)
      obtain ⟨r6, hw⟩ : ∃ W, r5.alloc (Obj.cells #[.bool false, .slice none 0 0] 25) = W := ⟨_, rfl⟩
      obtain ⟨bbr, hbb⟩ : ∃ b, r5.heap.size = b := ⟨_, rfl⟩
      have gbr : WE.heap.size ≤ bbr := by rw [← hbb]; exact hE.size
      have lbrbs : bbs < bbr := by rw [← hbb]; exact bs.lt
      rw [hw] at hk br ⊢
      have hE := hE.trans (hk.mono hE.size)
      have hx := hx.below hk
      have N6 := N6.below hk
      have N8 := N8.below hk
      have N9 := N9.below hk
      have bs := bs.below hk bs.lt
      rw [hbb] at br ⊢
      clear hw hbb hk
      have hS : Below (w.heap.size + 1) WE r6 := hE.mono lS
      refine ⟨hS, ?_⟩
      refine wpAnyH_one 12 (by kernel_rfl) ?_
      have hne : bbs ≠ bbr := by omega
      have hSz := below_set2 hE gbr (.bool s8) (.slice a8 n8 c8)
      have hS := hSz.mono lS
      have H8 := Held.put (c := c8) N8 br
      have N9 := N9.put br (.bool s8) (.slice a8 n8 c8)
      have bs := bs.other (.bool s8) (.slice a8 n8 c8) hne
      obtain ⟨x90, x91, z90, z91⟩ := id br
      refine wpOp_run (i := 12) rfl ?_
      go_simp
      clear x90 x91 z90 z91 br
      obtain ⟨ws, hws⟩ : ∃ W, (r6.setCell ⟨bbr, 0, none⟩ (.bool s8)).setCell ⟨bbr, 1, none⟩ (.slice a8 n8 c8) = W := ⟨_, rfl⟩
      rw [hws] at hSz hS H8 N9 bs ⊢
      clear hws hE
      have hE := hSz
      clear hSz
      refine wpAnyH_one 13 (by kernel_rfl) ?_
      have hSz := below_set2 hE gbs (.bool s9) (.slice a9 n9 c9)
      have hS := hSz.mono lS
      have H8' : Held ((ws.setCell ⟨bbs, 0, none⟩ (.bool s9)).setCell ⟨bbs, 1, none⟩ (.slice a9 n9 c9)) bbr s8 a8 n8 c8 _ := ⟨H8.box.other (.bool s9) (.slice a9 n9 c9) (Ne.symm hne), H8.num.put bs _ _⟩
      have H8 := H8'
      clear H8'
      obtain ⟨x90, x91, z90, z91⟩ := id bs
      refine wpOp_run (i := 13) rfl ?_
      go_simp
      clear x90 x91 z90 z91 bs
      obtain ⟨wt, hwt⟩ : ∃ W, (ws.setCell ⟨bbs, 0, none⟩ (.bool s9)).setCell ⟨bbs, 1, none⟩ (.slice a9 n9 c9) = W := ⟨_, rfl⟩
      rw [hwt] at hSz hS H8 ⊢
      clear hwt hE hne
      have hE := hSz
      clear hSz
      refine tk 14 (.bool true) 6 rfl rfl ?_
      simp only [Act.put, pA, pB, pC]
      refine wpAnyH_done (by kernel_rfl) ?_ _
    case' g5 =>
     refine wpOp_run (i := 10) rfl ?_
     go_simp
     have br := Box2.new r1 (Value.bool false) (Value.slice none 0 0) 25
     have hk := below_alloc' r1 (Obj.cells #[.bool false, .slice none 0 0] 25)
     obtain ⟨r7, hw⟩ : ∃ W, r1.alloc (Obj.cells #[.bool false, .slice none 0 0] 25) = W := ⟨_, rfl⟩
     obtain ⟨bbr, hbb⟩ : ∃ b, r1.heap.size = b := ⟨_, rfl⟩
     have gbr : WE.heap.size ≤ bbr := by rw [← hbb]; exact hE.size
     rw [hw] at hk br ⊢
     have hE := hE.trans (hk.mono hE.size)
     have hx := hx.below hk
     have N6 := N6.below hk
     rw [hbb] at br ⊢
     clear hw hbb hk
     have hS : Below (w.heap.size + 1) WE r7 := hE.mono lS
     refine ⟨hS, ?_⟩
     refine wpAnyH_twoR 5 11 (by kernel_rfl) ?g9 ?g10
     case' g9 =>
      refine wpOp_call (i := 5) (f := 58) (args := #[.agg #[.bool s6, .slice a6 n6 c6], .agg #[.bool s2, .slice a2 n2 c2]]) 16 rfl rfl (by rfl) (by go_simp) ?_
      refine (div_num s6 s2 a6 a2 n6 n2 c6 c2 (-x.num) x.den k6 hx.l2 r7 N6 hx.den pn).mono ?_
      rintro e r8 ⟨q8, q9, s8, a8, n8, c8, s9, a9, n9, c9, rfl, e8, e9, e10, N8, N9, -, -, k8, k9, hk⟩
      have hE := hE.trans (hk.mono hE.size)
      have hx := hx.below hk
      have N6 := N6.below hk
      have br := br.below hk br.lt
      obtain ⟨rfl, rfl⟩ := divs_unique e8 e9 e10 hd0.out
      clear e8 e9 e10
      have hS : Below (w.heap.size + 1) WE r8 := hE.mono lS
      refine ⟨_, rfl, hS, ?_⟩
      simp only [Act.put, pA, pB, pC]
      refine tk 6 (.tuple #[.agg #[.bool s8, .slice a8 n8 c8], .agg #[.bool s9, .slice a9 n9 c9], .bool true]) 10 rfl rfl ?_
      simp only [Act.put, pA, pB, pC]
      refine tk 7 (.agg #[.bool s8, .slice a8 n8 c8]) 17 rfl rfl ?_
      simp only [Act.put, pA, pB, pC]
      refine tk 8 (.agg #[.bool s9, .slice a9 n9 c9]) 18 rfl rfl ?_
      simp only [Act.put, pA, pB, pC]
      refine tk 9 (.bool true) 19 rfl rfl ?_
      simp only [Act.put, pA, pB, pC]
      refine wpAnyH_one 11 (by kernel_rfl) ?_
      refine wpOp_run (i := 11) rfl ?_
      go_simp
      have bs := Box2.new r8 (Value.bool false) (Value.slice none 0 0) 25
      have hk := below_alloc' r8 (Obj.cells #[.bool false, .slice none 0 0] 25)
      obtain ⟨r9, hw⟩ : ∃ W, r8.alloc (Obj.cells #[.bool false, .slice none 0 0] 25) = W := ⟨_, rfl⟩
      obtain ⟨bbs, hbb⟩ : ∃ b, r8.heap.size = b := ⟨_, rfl⟩
      have gbs : WE.heap.size ≤ bbs := by rw [← hbb]; exact hE.size
      have lbsbr : bbr < bbs := by rw [← hbb]; exact br.lt
      rw [hw] at hk bs ⊢
      have hE := hE.trans (hk.mono hE.size)
      have hx := hx.below hk
      have N6 := N6.below hk
      have N8 := N8.below hk
      have N9 := N9.below hk
      have br := br.below hk br.lt
      rw [hbb] at bs ⊢
      clear hw hbb hk
      have hS : Below (w.heap.size + 1) WE r9 := hE.mono lS
      refine ⟨hS, ?_⟩
      refine wpAnyH_one 12 (by kernel_rfl) ?_
      have hne : bbs ≠ bbr := by omega
      have hSz := below_set2 hE gbr (.bool s8) (.slice a8 n8 c8)
      have hS := hSz.mono lS
      have H8 := Held.put (c := c8) N8 br
      have N9 := N9.put br (.bool s8) (.slice a8 n8 c8)
      have bs := bs.other (.bool s8) (.slice a8 n8 c8) hne
      obtain ⟨x90, x91, z90, z91⟩ := id br
      refine wpOp_run (i := 12) rfl ?_
      go_simp
      clear x90 x91 z90 z91 br
      obtain ⟨ws, hws⟩ : ∃ W, (r9.setCell ⟨bbr, 0, none⟩ (.bool s8)).setCell ⟨bbr, 1, none⟩ (.slice a8 n8 c8) = W := ⟨_, rfl⟩
      rw [hws] at hSz hS H8 N9 bs ⊢
      clear hws hE
      have hE := hSz
      clear hSz
      refine wpAnyH_one 13 (by kernel_rfl) ?_
      have hSz := below_set2 hE gbs (.bool s9) (.slice a9 n9 c9)
      have hS := hSz.mono lS
      have H8' : Held ((ws.setCell ⟨bbs, 0, none⟩ (.bool s9)).setCell ⟨bbs, 1, none⟩ (.slice a9 n9 c9)) bbr s8 a8 n8 c8 _ := ⟨H8.box.other (.bool s9) (.slice a9 n9 c9) (Ne.symm hne), H8.num.put bs _ _⟩
      have H8 := H8'
      clear H8'
      obtain ⟨x90, x91, z90, z91⟩ := id bs
      refine wpOp_run (i := 13) rfl ?_
      go_simp
      clear x90 x91 z90 z91 bs
      obtain ⟨wt, hwt⟩ : ∃ W, (ws.setCell ⟨bbs, 0, none⟩ (.bool s9)).setCell ⟨bbs, 1, none⟩ (.slice a9 n9 c9) = W := ⟨_, rfl⟩
      rw [hwt] at hSz hS H8 ⊢
      clear hwt hE hne
      have hE := hSz
      clear hSz
      refine tk 14 (.bool true) 6 rfl rfl ?_
      simp only [Act.put, pA, pB, pC]
      refine wpAnyH_done (by kernel_rfl) ?_ _
     case' g10 =>
      refine wpOp_run (i := 11) rfl ?_
      go_simp
      have bs := Box2.new r7 (Value.bool false) (Value.slice none 0 0) 25
      have hk := below_alloc' r7 (Obj.cells #[.bool false, .slice none 0 0] 25)
      obtain ⟨r10, hw⟩ : ∃ W, r7.alloc (Obj.cells #[.bool false, .slice none 0 0] 25) = W := ⟨_, rfl⟩
      obtain ⟨bbs, hbb⟩ : ∃ b, r7.heap.size = b := ⟨_, rfl⟩
      have gbs : WE.heap.size ≤ bbs := by rw [← hbb]; exact hE.size
      have lbsbr : bbr < bbs := by rw [← hbb]; exact br.lt
      rw [hw] at hk bs ⊢
      have hE := hE.trans (hk.mono hE.size)
      have hx := hx.below hk
      have N6 := N6.below hk
      have br := br.below hk br.lt
      rw [hbb] at bs ⊢
      clear hw hbb hk
      have hS : Below (w.heap.size + 1) WE r10 := hE.mono lS
      refine ⟨hS, ?_⟩
      refine wpAnyH_one 5 (by kernel_rfl) ?_
      refine wpOp_call (i := 5) (f := 58) (args := #[.agg #[.bool s6, .slice a6 n6 c6], .agg #[.bool s2, .slice a2 n2 c2]]) 16 rfl rfl (by rfl) (by go_simp) ?_
      refine (div_num s6 s2 a6 a2 n6 n2 c6 c2 (-x.num) x.den k6 hx.l2 r10 N6 hx.den pn).mono ?_
      rintro e r11 ⟨q8, q9, s8, a8, n8, c8, s9, a9, n9, c9, rfl, e8, e9, e10, N8, N9, -, -, k8, k9, hk⟩
      have hE := hE.trans (hk.mono hE.size)
      have hx := hx.below hk
      have N6 := N6.below hk
      have br := br.below hk br.lt
      have bs := bs.below hk bs.lt
      obtain ⟨rfl, rfl⟩ := divs_unique e8 e9 e10 hd0.out
      clear e8 e9 e10
      have hS : Below (w.heap.size + 1) WE r11 := hE.mono lS
      refine ⟨_, rfl, hS, ?_⟩
      simp only [Act.put, pA, pB, pC]
      refine tk 6 (.tuple #[.agg #[.bool s8, .slice a8 n8 c8], .agg #[.bool s9, .slice a9 n9 c9], .bool true]) 10 rfl rfl ?_
      simp only [Act.put, pA, pB, pC]
      refine tk 7 (.agg #[.bool s8, .slice a8 n8 c8]) 17 rfl rfl ?_
      simp only [Act.put, pA, pB, pC]
      refine tk 8 (.agg #[.bool s9, .slice a9 n9 c9]) 18 rfl rfl ?_
      simp only [Act.put, pA, pB, pC]
      refine tk 9 (.bool true) 19 rfl rfl ?_
      simp only [Act.put, pA, pB, pC]
      refine wpAnyH_one 12 (by kernel_rfl) ?_
      have hne : bbs ≠ bbr := by omega
      have hSz := below_set2 hE gbr (.bool s8) (.slice a8 n8 c8)
      have hS := hSz.mono lS
      have H8 := Held.put (c := c8) N8 br
      have N9 := N9.put br (.bool s8) (.slice a8 n8 c8)
      have bs := bs.other (.bool s8) (.slice a8 n8 c8) hne
      obtain ⟨x90, x91, z90, z91⟩ := id br
      refine wpOp_run (i := 12) rfl ?_
      go_simp
      clear x90 x91 z90 z91 br
      obtain ⟨ws, hws⟩ : ∃ W, (r11.setCell ⟨bbr, 0, none⟩ (.bool s8)).setCell ⟨bbr, 1, none⟩ (.slice a8 n8 c8) = W := ⟨_, rfl⟩
      rw [hws] at hSz hS H8 N9 bs ⊢
      clear hws hE
      have hE := hSz
      clear hSz
      refine wpAnyH_one 13 (by kernel_rfl) ?_
      have hSz := below_set2 hE gbs (.bool s9) (.slice a9 n9 c9)
      have hS := hSz.mono lS
      have H8' : Held ((ws.setCell ⟨bbs, 0, none⟩ (.bool s9)).setCell ⟨bbs, 1, none⟩ (.slice a9 n9 c9)) bbr s8 a8 n8 c8 _ := ⟨H8.box.other (.bool s9) (.slice a9 n9 c9) (Ne.symm hne), H8.num.put bs _ _⟩
      have H8 := H8'
      clear H8'
      obtain ⟨x90, x91, z90, z91⟩ := id bs
      refine wpOp_run (i := 13) rfl ?_
      go_simp
      clear x90 x91 z90 z91 bs
      obtain ⟨wt, hwt⟩ : ∃ W, (ws.setCell ⟨bbs, 0, none⟩ (.bool s9)).setCell ⟨bbs, 1, none⟩ (.slice a9 n9 c9) = W := ⟨_, rfl⟩
      rw [hwt] at hSz hS H8 ⊢
      clear hwt hE hne
      have hE := hSz
      clear hSz
      refine tk 14 (.bool true) 6 rfl rfl ?_
      simp only [Act.put, pA, pB, pC]
      refine wpAnyH_done (by kernel_rfl) ?_ _
    case' g6 =>
     refine wpOp_run (i := 11) rfl ?_
     go_simp
     have bs := Box2.new r1 (Value.bool false) (Value.slice none 0 0) 25
     have hk := below_alloc' r1 (Obj.cells #[.bool false, .slice none 0 0] 25)
     obtain ⟨r12, hw⟩ : ∃ W, r1.alloc (Obj.cells #[.bool false, .slice none 0 0] 25) = W := ⟨_, rfl⟩
     obtain ⟨bbs, hbb⟩ : ∃ b, r1.heap.size = b := ⟨_, rfl⟩
     have gbs : WE.heap.size ≤ bbs := by rw [← hbb]; exact hE.size
     rw [hw] at hk bs ⊢
     have hE := hE.trans (hk.mono hE.size)
     have hx := hx.below hk
     have N6 := N6.below hk
     rw [hbb] at bs ⊢
     clear hw hbb hk
     have hS : Below (w.heap.size + 1) WE r12 := hE.mono lS
     refine ⟨hS, ?_⟩
     refine wpAnyH_twoR 5 10 (by kernel_rfl) ?g11 ?g12
     case' g11 =>
      refine wpOp_call (i := 5) (f := 58) (args := #[.agg #[.bool s6, .slice a6 n6 c6], .agg #[.bool s2, .slice a2 n2 c2]]) 16 rfl rfl (by rfl) (by go_simp) ?_
      refine (div_num s6 s2 a6 a2 n6 n2 c6 c2 (-x.num) x.den k6 hx.l2 r12 N6 hx.den pn).mono ?_
      rintro e r13 ⟨q8, q9, s8, a8, n8, c8, s9, a9, n9, c9, rfl, e8, e9, e10, N8, N9, -, -, k8, k9, hk⟩
      have hE := hE.trans (hk.mono hE.size)
      have hx := hx.below hk
      have N6 := N6.below hk
      have bs := bs.below hk bs.lt
      obtain ⟨rfl, rfl⟩ := divs_unique e8 e9 e10 hd0.out
      clear e8 e9 e10
      have hS : Below (w.heap.size + 1) WE r13 := hE.mono lS
      refine ⟨_, rfl, hS, ?_⟩
      simp only [Act.put, pA, pB, pC]
      refine tk 6 (.tuple #[.agg #[.bool s8, .slice a8 n8 c8], .agg #[.bool s9, .slice a9 n9 c9], .bool true]) 10 rfl rfl ?_
      simp only [Act.put, pA, pB, pC]
      refine tk 7 (.agg #[.bool s8, .slice a8 n8 c8]) 17 rfl rfl ?_
      simp only [Act.put, pA, pB, pC]
      refine tk 8 (.agg #[.bool s9, .slice a9 n9 c9]) 18 rfl rfl ?_
      simp only [Act.put, pA, pB, pC]
      refine tk 9 (.bool true) 19 rfl rfl ?_
      simp only [Act.put, pA, pB, pC]
      refine wpAnyH_one 10 (by kernel_rfl) ?_
      refine wpOp_run (i := 10) rfl ?_
      go_simp
      have br := Box2.new r13 (Value.bool false) (Value.slice none 0 0) 25
      have hk := below_alloc' r13 (Obj.cells #[.bool false, .slice none 0 0] 25)
      obtain ⟨r14, hw⟩ : ∃ W, r13.alloc (Obj.cells #[.bool false, .slice none 0 0] 25) = W := ⟨_, rfl⟩
      obtain ⟨bbr, hbb⟩ : ∃ b, r13.heap.size = b := ⟨_, rfl⟩
      have gbr : WE.heap.size ≤ bbr := by rw [← hbb]; exact hE.size
      have lbrbs : bbs < bbr := by rw [← hbb]; exact bs.lt
      rw [hw] at hk br ⊢
      have hE := hE.trans (hk.mono hE.size)
      have hx := hx.below hk
      have N6 := N6.below hk
      have N8 := N8.below hk
      have N9 := N9.below hk
      have bs := bs.below hk bs.lt
      rw [hbb] at br ⊢
      clear hw hbb hk
      have hS : Below (w.heap.size + 1) WE r14 := hE.mono lS
      refine ⟨hS, ?_⟩
      refine wpAnyH_one 12 (by kernel_rfl) ?_
      have hne : bbs ≠ bbr := by omega
      have hSz := below_set2 hE gbr (.bool s8) (.slice a8 n8 c8)
      have hS := hSz.mono lS
      have H8 := Held.put (c := c8) N8 br
      have N9 := N9.put br (.bool s8) (.slice a8 n8 c8)
      have bs := bs.other (.bool s8) (.slice a8 n8 c8) hne
      obtain ⟨x90, x91, z90, z91⟩ := id br
      refine wpOp_run (i := 12) rfl ?_
      go_simp
      clear x90 x91 z90 z91 br
      obtain ⟨ws, hws⟩ : ∃ W, (r14.setCell ⟨bbr, 0, none⟩ (.bool s8)).setCell ⟨bbr, 1, none⟩ (.slice a8 n8 c8) = W := ⟨_, rfl⟩
      rw [hws] at hSz hS H8 N9 bs ⊢
      clear hws hE
      have hE := hSz
      clear hSz
      refine wpAnyH_one 13 (by kernel_rfl) ?_
      have hSz := below_set2 hE gbs (.bool s9) (.slice a9 n9 c9)
      have hS := hSz.mono lS
      have H8' : Held ((ws.setCell ⟨bbs, 0, none⟩ (.bool s9)).setCell ⟨bbs, 1, none⟩ (.slice a9 n9 c9)) bbr s8 a8 n8 c8 _ := ⟨H8.box.other (.bool s9) (.slice a9 n9 c9) (Ne.symm hne), H8.num.put bs _ _⟩
      have H8 := H8'
      clear H8'
      obtain ⟨x90, x91, z90, z91⟩ := id bs
      refine wpOp_run (i := 13) rfl ?_
      go_simp
      clear x90 x91 z90 z91 bs
      obtain ⟨wt, hwt⟩ : ∃ W, (ws.setCell ⟨bbs, 0, none⟩ (.bool s9)).setCell ⟨bbs, 1, none⟩ (.slice a9 n9 c9) = W := ⟨_, rfl⟩
      rw [hwt] at hSz hS H8 ⊢
      clear hwt hE hne
      have hE := hSz
      clear hSz
      refine tk 14 (.bool true) 6 rfl rfl ?_
      simp only [Act.put, pA, pB, pC]
      refine wpAnyH_done (by kernel_rfl) ?_ _
     case' g12 =>
      refine wpOp_run (i := 10) rfl ?_
      go_simp
      have br := Box2.new r12 (Value.bool false) (Value.slice none 0 0) 25
      have hk := below_alloc' r12 (Obj.cells #[.bool false, .slice none 0 0] 25)
      obtain ⟨r15, hw⟩ : ∃ W, r12.alloc (Obj.cells #[.bool false, .slice none 0 0] 25) = W := ⟨_, rfl⟩
      obtain ⟨bbr, hbb⟩ : ∃ b, r12.heap.size = b := ⟨_, rfl⟩
      have gbr : WE.heap.size ≤ bbr := by rw [← hbb]; exact hE.size
      have lbrbs : bbs < bbr := by rw [← hbb]; exact bs.lt
      rw [hw] at hk br ⊢
      have hE := hE.trans (hk.mono hE.size)
      have hx := hx.below hk
      have N6 := N6.below hk
      have bs := bs.below hk bs.lt
      rw [hbb] at br ⊢
      clear hw hbb hk
      have hS : Below (w.heap.size + 1) WE r15 := hE.mono lS
      refine ⟨hS, ?_⟩
      refine wpAnyH_one 5 (by kernel_rfl) ?_
      refine wpOp_call (i := 5) (f := 58) (args := #[.agg #[.bool s6, .slice a6 n6 c6], .agg #[.bool s2, .slice a2 n2 c2]]) 16 rfl rfl (by rfl) (by go_simp) ?_
      refine (div_num s6 s2 a6 a2 n6 n2 c6 c2 (-x.num) x.den k6 hx.l2 r15 N6 hx.den pn).mono ?_
      rintro e r16 ⟨q8, q9, s8, a8, n8, c8, s9, a9, n9, c9, rfl, e8, e9, e10, N8, N9, -, -, k8, k9, hk⟩
      have hE := hE.trans (hk.mono hE.size)
      have hx := hx.below hk
      have N6 := N6.below hk
      have bs := bs.below hk bs.lt
      have br := br.below hk br.lt
      obtain ⟨rfl, rfl⟩ := divs_unique e8 e9 e10 hd0.out
      clear e8 e9 e10
      have hS : Below (w.heap.size + 1) WE r16 := hE.mono lS
      refine ⟨_, rfl, hS, ?_⟩
      simp only [Act.put, pA, pB, pC]
      refine tk 6 (.tuple #[.agg #[.bool s8, .slice a8 n8 c8], .agg #[.bool s9, .slice a9 n9 c9], .bool true]) 10 rfl rfl ?_
      simp only [Act.put, pA, pB, pC]
      refine tk 7 (.agg #[.bool s8, .slice a8 n8 c8]) 17 rfl rfl ?_
      simp only [Act.put, pA, pB, pC]
      refine tk 8 (.agg #[.bool s9, .slice a9 n9 c9]) 18 rfl rfl ?_
      simp only [Act.put, pA, pB, pC]
      refine tk 9 (.bool true) 19 rfl rfl ?_
      simp only [Act.put, pA, pB, pC]
      refine wpAnyH_one 12 (by kernel_rfl) ?_
      have hne : bbs ≠ bbr := by omega
      have hSz := below_set2 hE gbr (.bool s8) (.slice a8 n8 c8)
      have hS := hSz.mono lS
      have H8 := Held.put (c := c8) N8 br
      have N9 := N9.put br (.bool s8) (.slice a8 n8 c8)
      have bs := bs.other (.bool s8) (.slice a8 n8 c8) hne
      obtain ⟨x90, x91, z90, z91⟩ := id br
      refine wpOp_run (i := 12) rfl ?_
      go_simp
      clear x90 x91 z90 z91 br
      obtain ⟨ws, hws⟩ : ∃ W, (r16.setCell ⟨bbr, 0, none⟩ (.bool s8)).setCell ⟨bbr, 1, none⟩ (.slice a8 n8 c8) = W := ⟨_, rfl⟩
      rw [hws] at hSz hS H8 N9 bs ⊢
      clear hws hE
      have hE := hSz
      clear hSz
      refine wpAnyH_one 13 (by kernel_rfl) ?_
      have hSz := below_set2 hE gbs (.bool s9) (.slice a9 n9 c9)
      have hS := hSz.mono lS
      have H8' : Held ((ws.setCell ⟨bbs, 0, none⟩ (.bool s9)).setCell ⟨bbs, 1, none⟩ (.slice a9 n9 c9)) bbr s8 a8 n8 c8 _ := ⟨H8.box.other (.bool s9) (.slice a9 n9 c9) (Ne.symm hne), H8.num.put bs _ _⟩
      have H8 := H8'
      clear H8'
      obtain ⟨x90, x91, z90, z91⟩ := id bs
      refine wpOp_run (i := 13) rfl ?_
      go_simp
      clear x90 x91 z90 z91 bs
      obtain ⟨wt, hwt⟩ : ∃ W, (ws.setCell ⟨bbs, 0, none⟩ (.bool s9)).setCell ⟨bbs, 1, none⟩ (.slice a9 n9 c9) = W := ⟨_, rfl⟩
      rw [hwt] at hSz hS H8 ⊢
      clear hwt hE hne
      have hE := hSz
      clear hSz
      refine tk 14 (.bool true) 6 rfl rfl ?_
      simp only [Act.put, pA, pB, pC]
      refine wpAnyH_done (by kernel_rfl) ?_ _
   case' g2 =>
    refine wpOp_run (i := 10) rfl ?_
    go_simp
    have br := Box2.new WE (Value.bool false) (Value.slice none 0 0) 25
    have hk := below_alloc' WE (Obj.cells #[.bool false, .slice none 0 0] 25)
    obtain ⟨r17, hw⟩ : ∃ W, WE.alloc (Obj.cells #[.bool false, .slice none 0 0] 25) = W := ⟨_, rfl⟩
    obtain ⟨bbr, hbb⟩ : ∃ b, WE.heap.size = b := ⟨_, rfl⟩
    have gbr : WE.heap.size ≤ bbr := by rw [← hbb]; exact hE.size
    rw [hw] at hk br ⊢
    have hE := hE.trans (hk.mono hE.size)
    have hx := hx.below hk
    rw [hbb] at br ⊢
    clear hw hbb hk
    have hS : Below (w.heap.size + 1) WE r17 := hE.mono lS
    refine ⟨hS, ?_⟩
    refine wpAnyH_twoR 2 11 (by kernel_rfl) ?g13 ?g14
    case' g13 =>
     refine wpOp_call (i := 2) (f := 62) (args := #[.agg #[.bool s1, .slice a1 n1 c1]]) 13 rfl rfl (by rfl) (by go_simp) ?_
     refine (opposite_any s1 a1 n1 c1 x.num hx.l1 r17 hx.num).mono ?_
     rintro e r18 ⟨s6, a6, n6, c6, rfl, N6, k6, -, hk⟩
     have hE := hE.trans (hk.mono hE.size)
     have hx := hx.below hk
     have br := br.below hk br.lt
     have hS : Below (w.heap.size + 1) WE r18 := hE.mono lS
     refine ⟨_, rfl, hS, ?_⟩
     simp only [Act.put, pA, pB, pC]
     refine wpAnyH_twoR 5 11 (by kernel_rfl) ?g15 ?g16
     case' g15 =>
      refine wpOp_call (i := 5) (f := 58) (args := #[.agg #[.bool s6, .slice a6 n6 c6], .agg #[.bool s2, .slice a2 n2 c2]]) 16 rfl rfl (by rfl) (by go_simp) ?_
      refine (div_num s6 s2 a6 a2 n6 n2 c6 c2 (-x.num) x.den k6 hx.l2 r18 N6 hx.den pn).mono ?_
      rintro e r19 ⟨q8, q9, s8, a8, n8, c8, s9, a9, n9, c9, rfl, e8, e9, e10, N8, N9, -, -, k8, k9, hk⟩
      have hE := hE.trans (hk.mono hE.size)
      have hx := hx.below hk
      have N6 := N6.below hk
      have br := br.below hk br.lt
      obtain ⟨rfl, rfl⟩ := divs_unique e8 e9 e10 hd0.out
      clear e8 e9 e10
      have hS : Below (w.heap.size + 1) WE r19 := hE.mono lS
      refine ⟨_, rfl, hS, ?_⟩
      simp only [Act.put, pA, pB, pC]
      refine tk 6 (.tuple #[.agg #[.bool s8, .slice a8 n8 c8], .agg #[.bool s9, .slice a9 n9 c9], .bool true]) 10 rfl rfl ?_
      simp only [Act.put, pA, pB, pC]
      refine tk 7 (.agg #[.bool s8, .slice a8 n8 c8]) 17 rfl rfl ?_
      simp only [Act.put, pA, pB, pC]
      refine tk 8 (.agg #[.bool s9, .slice a9 n9 c9]) 18 rfl rfl ?_
      simp only [Act.put, pA, pB, pC]
      refine tk 9 (.bool true) 19 rfl rfl ?_
      simp only [Act.put, pA, pB, pC]
      refine wpAnyH_one 11 (by kernel_rfl) ?_
      refine wpOp_run (i := 11) rfl ?_
      go_simp
      have bs := Box2.new r19 (Value.bool false) (Value.slice none 0 0) 25
      have hk := below_alloc' r19 (Obj.cells #[.bool false, .slice none 0 0] 25)
      obtain ⟨r20, hw⟩ : ∃ W, r19.alloc (Obj.cells #[.bool false, .slice none 0 0] 25) = W := ⟨_, rfl⟩
      obtain ⟨bbs, hbb⟩ : ∃ b, r19.heap.size = b := ⟨_, rfl⟩
      have gbs : WE.heap.size ≤ bbs := by rw [← hbb]; exact hE.size
      have lbsbr : bbr < bbs := by rw [← hbb]; exact br.lt
      rw [hw] at hk bs ⊢
      have hE := hE.trans (hk.mono hE.size)
      have hx := hx.below hk
      have N6 := N6.below hk
      have N8 := N8.below hk
      have N9 := N9.below hk
      have br := br.below hk br.lt
      rw [hbb] at bs ⊢
      clear hw hbb hk
      have hS : Below (w.heap.size + 1) WE r20 := hE.mono lS
      refine ⟨hS, ?_⟩
      refine wpAnyH_one 12 (by kernel_rfl) ?_
      have hne : bbs ≠ bbr := by omega
      have hSz := below_set2 hE gbr (.bool s8) (.slice a8 n8 c8)
      have hS := hSz.mono lS
      have H8 := Held.put (c := c8) N8 br
      have N9 := N9.put br (.bool s8) (.slice a8 n8 c8)
      have bs := bs.other (.bool s8) (.slice a8 n8 c8) hne
      obtain ⟨x90, x91, z90, z91⟩ := id br
      refine wpOp_run (i := 12) rfl ?_
      go_simp
      clear x90 x91 z90 z91 br
      obtain ⟨ws, hws⟩ : ∃ W, (r20.setCell ⟨bbr, 0, none⟩ (.bool s8)).setCell ⟨bbr, 1, none⟩ (.slice a8 n8 c8) = W := ⟨_, rfl⟩
      rw [hws] at hSz hS H8 N9 bs ⊢
      clear hws hE
      have hE := hSz
      clear hSz
      refine wpAnyH_one 13 (by kernel_rfl) ?_
      have hSz := below_set2 hE gbs (.bool s9) (.slice a9 n9 c9)
      have hS := hSz.mono lS
      have H8' : Held ((ws.setCell ⟨bbs, 0, none⟩ (.bool s9)).setCell ⟨bbs, 1, none⟩ (.slice a9 n9 c9)) bbr s8 a8 n8 c8 _ := ⟨H8.box.other (.bool s9) (.slice a9 n9 c9) (Ne.symm hne), H8.num.put bs _ _⟩
      have H8 := H8'
      clear H8'
      obtain ⟨x90, x91, z90, z91⟩ := id bs
      refine wpOp_run (i := 13) rfl ?_
      go_simp
      clear x90 x91 z90 z91 bs
      obtain ⟨wt, hwt⟩ : ∃ W, (ws.setCell ⟨bbs, 0, none⟩ (.bool s9)).setCell ⟨bbs, 1, none⟩ (.slice a9 n9 c9) = W := ⟨_, rfl⟩
      rw [hwt] at hSz hS H8 ⊢
      clear hwt hE hne
      have hE := hSz
      clear hSz
      refine tk 14 (.bool true) 6 rfl rfl ?_
      simp only [Act.put, pA, pB, pC]
      refine wpAnyH_done (by kernel_rfl) ?_ _
     case' g16 =>
      refine wpOp_run (i := 11) rfl ?_
      go_simp
      have bs := Box2.new r18 (Value.bool false) (Value.slice none 0 0) 25
      have hk := below_alloc' r18 (Obj.cells #[.bool false, .slice none 0 0] 25)
      obtain ⟨r21, hw⟩ : ∃ W, r18.alloc (Obj.cells #[.bool false, .slice none 0 0] 25) = W := ⟨_, rfl⟩
      obtain ⟨bbs, hbb⟩ : ∃ b, r18.heap.size = b := ⟨_, rfl⟩
      have gbs : WE.heap.size ≤ bbs := by rw [← hbb]; exact hE.size
      have lbsbr : bbr < bbs := by rw [← hbb]; exact br.lt
      rw [hw] at hk bs ⊢
      have hE := hE.trans (hk.mono hE.size)
      have hx := hx.below hk
      have N6 := N6.below hk
      have br := br.below hk br.lt
      rw [hbb] at bs ⊢
      clear hw hbb hk
      have hS : Below (w.heap.size + 1) WE r21 := hE.mono lS
      refine ⟨hS, ?_⟩
      refine wpAnyH_one 5 (by kernel_rfl) ?_
      refine wpOp_call (i := 5) (f := 58) (args := #[.agg #[.bool s6, .slice a6 n6 c6], .agg #[.bool s2, .slice a2 n2 c2]]) 16 rfl rfl (by rfl) (by go_simp) ?_
      refine (div_num s6 s2 a6 a2 n6 n2 c6 c2 (-x.num) x.den k6 hx.l2 r21 N6 hx.den pn).mono ?_
      rintro e r22 ⟨q8, q9, s8, a8, n8, c8, s9, a9, n9, c9, rfl, e8, e9, e10, N8, N9, -, -, k8, k9, hk⟩
      have hE := hE.trans (hk.mono hE.size)
      have hx := hx.below hk
      have N6 := N6.below hk
      have br := br.below hk br.lt
      have bs := bs.below hk bs.lt
      obtain ⟨rfl, rfl⟩ := divs_unique e8 e9 e10 hd0.out
      clear e8 e9 e10
      have hS : Below (w.heap.size + 1) WE r22 := hE.mono lS
      refine ⟨_, rfl, hS, ?_⟩
      simp only [Act.put, pA, pB, pC]
      refine tk 6 (.tuple #[.agg #[.bool s8, .slice a8 n8 c8], .agg #[.bool s9, .slice a9 n9 c9], .bool true]) 10 rfl rfl ?_
      simp only [Act.put, pA, pB, pC]
      refine tk 7 (.agg #[.bool s8, .slice a8 n8 c8]) 17 rfl rfl ?_
      simp only [Act.put, pA, pB, pC]
      refine tk 8 (.agg #[.bool s9, .slice a9 n9 c9]) 18 rfl rfl ?_
      simp only [Act.put, pA, pB, pC]
      refine tk 9 (.bool true) 19 rfl rfl ?_
      simp only [Act.put, pA, pB, pC]
      refine wpAnyH_one 12 (by kernel_rfl) ?_
      have hne : bbs ≠ bbr := by omega
      have hSz := below_set2 hE gbr (.bool s8) (.slice a8 n8 c8)
      have hS := hSz.mono lS
      have H8 := Held.put (c := c8) N8 br
      have N9 := N9.put br (.bool s8) (.slice a8 n8 c8)
      have bs := bs.other (.bool s8) (.slice a8 n8 c8) hne
      obtain ⟨x90, x91, z90, z91⟩ := id br
      refine wpOp_run (i := 12) rfl ?_
      go_simp
      clear x90 x91 z90 z91 br
      obtain ⟨ws, hws⟩ : ∃ W, (r22.setCell ⟨bbr, 0, none⟩ (.bool s8)).setCell ⟨bbr, 1, none⟩ (.slice a8 n8 c8) = W := ⟨_, rfl⟩
      rw [hws] at hSz hS H8 N9 bs ⊢
      clear hws hE
      have hE := hSz
      clear hSz
      refine wpAnyH_one 13 (by kernel_rfl) ?_
      have hSz := below_set2 hE gbs (.bool s9) (.slice a9 n9 c9)
      have hS := hSz.mono lS
      have H8' : Held ((ws.setCell ⟨bbs, 0, none⟩ (.bool s9)).setCell ⟨bbs, 1, none⟩ (.slice a9 n9 c9)) bbr s8 a8 n8 c8 _ := ⟨H8.box.other (.bool s9) (.slice a9 n9 c9) (Ne.symm hne), H8.num.put bs _ _⟩
      have H8 := H8'
      clear H8'
      obtain ⟨x90, x91, z90, z91⟩ := id bs
      refine wpOp_run (i := 13) rfl ?_
      go_simp
      clear x90 x91 z90 z91 bs
      obtain ⟨wt, hwt⟩ : ∃ W, (ws.setCell ⟨bbs, 0, none⟩ (.bool s9)).setCell ⟨bbs, 1, none⟩ (.slice a9 n9 c9) = W := ⟨_, rfl⟩
      rw [hwt] at hSz hS H8 ⊢
      clear hwt hE hne
      have hE := hSz
      clear hSz
      refine tk 14 (.bool true) 6 rfl rfl ?_
      simp only [Act.put, pA, pB, pC]
      refine wpAnyH_done (by kernel_rfl) ?_ _
    case' g14 =>
     refine wpOp_run (i := 11) rfl ?_
     go_simp
     have bs := Box2.new r17 (Value.bool false) (Value.slice none 0 0) 25
     have hk := below_alloc' r17 (Obj.cells #[.bool false, .slice none 0 0] 25)
     obtain ⟨r23, hw⟩ : ∃ W, r17.alloc (Obj.cells #[.bool false, .slice none 0 0] 25) = W := ⟨_, rfl⟩
     obtain ⟨bbs, hbb⟩ : ∃ b, r17.heap.size = b := ⟨_, rfl⟩
     have gbs : WE.heap.size ≤ bbs := by rw [← hbb]; exact hE.size
     have lbsbr : bbr < bbs := by rw [← hbb]; exact br.lt
     rw [hw] at hk bs ⊢
     have hE := hE.trans (hk.mono hE.size)
     have hx := hx.below hk
     have br := br.below hk br.lt
     rw [hbb] at bs ⊢
     clear hw hbb hk
     have hS : Below (w.heap.size + 1) WE r23 := hE.mono lS
     refine ⟨hS, ?_⟩
     refine wpAnyH_one 2 (by kernel_rfl) ?_
     refine wpOp_call (i := 2) (f := 62) (args := #[.agg #[.bool s1, .slice a1 n1 c1]]) 13 rfl rfl (by rfl) (by go_simp) ?_
     refine (opposite_any s1 a1 n1 c1 x.num hx.l1 r23 hx.num).mono ?_
     rintro e r24 ⟨s6, a6, n6, c6, rfl, N6, k6, -, hk⟩
     have hE := hE.trans (hk.mono hE.size)
     have hx := hx.below hk
     have br := br.below hk br.lt
     have bs := bs.below hk bs.lt
     have hS : Below (w.heap.size + 1) WE r24 := hE.mono lS
     refine ⟨_, rfl, hS, ?_⟩
     simp only [Act.put, pA, pB, pC]
     refine wpAnyH_one 5 (by kernel_rfl) ?_
     refine wpOp_call (i := 5) (f := 58) (args := #[.agg #[.bool s6, .slice a6 n6 c6], .agg #[.bool s2, .slice a2 n2 c2]]) 16 rfl rfl (by rfl) (by go_simp) ?_
     refine (div_num s6 s2 a6 a2 n6 n2 c6 c2 (-x.num) x.den k6 hx.l2 r24 N6 hx.den pn).mono ?_
     rintro e r25 ⟨q8, q9, s8, a8, n8, c8, s9, a9, n9, c9, rfl, e8, e9, e10, N8, N9, -, -, k8, k9, hk⟩
     have hE := hE.trans (hk.mono hE.size)
     have hx := hx.below hk
     have N6 := N6.below hk
     have br := br.below hk br.lt
     have bs := bs.below hk bs.lt
     obtain ⟨rfl, rfl⟩ := divs_unique e8 e9 e10 hd0.out
     clear e8 e9 e10
     have hS : Below (w.heap.size + 1) WE r25 := hE.mono lS
     refine ⟨_, rfl, hS, ?_⟩
     simp only [Act.put, pA, pB, pC]
     refine tk 6 (.tuple #[.agg #[.bool s8, .slice a8 n8 c8], .agg #[.bool s9, .slice a9 n9 c9], .bool true]) 10 rfl rfl ?_
     simp only [Act.put, pA, pB, pC]
     refine tk 7 (.agg #[.bool s8, .slice a8 n8 c8]) 17 rfl rfl ?_
     simp only [Act.put, pA, pB, pC]
     refine tk 8 (.agg #[.bool s9, .slice a9 n9 c9]) 18 rfl rfl ?_
     simp only [Act.put, pA, pB, pC]
     refine tk 9 (.bool true) 19 rfl rfl ?_
     simp only [Act.put, pA, pB, pC]
     refine wpAnyH_one 12 (by kernel_rfl) ?_
     have hne : bbs ≠ bbr := by omega
     have hSz := below_set2 hE gbr (.bool s8) (.slice a8 n8 c8)
     have hS := hSz.mono lS
     have H8 := Held.put (c := c8) N8 br
     have N9 := N9.put br (.bool s8) (.slice a8 n8 c8)
     have bs := bs.other (.bool s8) (.slice a8 n8 c8) hne
     obtain ⟨x90, x91, z90, z91⟩ := id br
     refine wpOp_run (i := 12) rfl ?_
     go_simp
     clear x90 x91 z90 z91 br
     obtain ⟨ws, hws⟩ : ∃ W, (r25.setCell ⟨bbr, 0, none⟩ (.bool s8)).setCell ⟨bbr, 1, none⟩ (.slice a8 n8 c8) = W := ⟨_, rfl⟩
     rw [hws] at hSz hS H8 N9 bs ⊢
     clear hws hE
     have hE := hSz
     clear hSz
     refine wpAnyH_one 13 (by kernel_rfl) ?_
     have hSz := below_set2 hE gbs (.bool s9) (.slice a9 n9 c9)
     have hS := hSz.mono lS
     have H8' : Held ((ws.setCell ⟨bbs, 0, none⟩ (.bool s9)).setCell ⟨bbs, 1, none⟩ (.slice a9 n9 c9)) bbr s8 a8 n8 c8 _ := ⟨H8.box.other (.bool s9) (.slice a9 n9 c9) (Ne.symm hne), H8.num.put bs _ _⟩
     have H8 := H8'
     clear H8'
     obtain ⟨x90, x91, z90, z91⟩ := id bs
     refine wpOp_run (i := 13) rfl ?_
     go_simp
     clear x90 x91 z90 z91 bs
     obtain ⟨wt, hwt⟩ : ∃ W, (ws.setCell ⟨bbs, 0, none⟩ (.bool s9)).setCell ⟨bbs, 1, none⟩ (.slice a9 n9 c9) = W := ⟨_, rfl⟩
     rw [hwt] at hSz hS H8 ⊢
     clear hwt hE hne
     have hE := hSz
     clear hSz
     refine tk 14 (.bool true) 6 rfl rfl ?_
     simp only [Act.put, pA, pB, pC]
     refine wpAnyH_done (by kernel_rfl) ?_ _
   case' g3 =>
    refine wpOp_run (i := 11) rfl ?_
    go_simp
    have bs := Box2.new WE (Value.bool false) (Value.slice none 0 0) 25
    have hk := below_alloc' WE (Obj.cells #[.bool false, .slice none 0 0] 25)
    obtain ⟨r26, hw⟩ : ∃ W, WE.alloc (Obj.cells #[.bool false, .slice none 0 0] 25) = W := ⟨_, rfl⟩
    obtain ⟨bbs, hbb⟩ : ∃ b, WE.heap.size = b := ⟨_, rfl⟩
    have gbs : WE.heap.size ≤ bbs := by rw [← hbb]; exact hE.size
    rw [hw] at hk bs ⊢
    have hE := hE.trans (hk.mono hE.size)
    have hx := hx.below hk
    rw [hbb] at bs ⊢
    clear hw hbb hk
    have hS : Below (w.heap.size + 1) WE r26 := hE.mono lS
    refine ⟨hS, ?_⟩
    refine wpAnyH_twoR 2 10 (by kernel_rfl) ?g17 ?g18
    case' g17 =>
     refine wpOp_call (i := 2) (f := 62) (args := #[.agg #[.bool s1, .slice a1 n1 c1]]) 13 rfl rfl (by rfl) (by go_simp) ?_
     refine (opposite_any s1 a1 n1 c1 x.num hx.l1 r26 hx.num).mono ?_
     rintro e r27 ⟨s6, a6, n6, c6, rfl, N6, k6, -, hk⟩
     have hE := hE.trans (hk.mono hE.size)
     have hx := hx.below hk
     have bs := bs.below hk bs.lt
     have hS : Below (w.heap.size + 1) WE r27 := hE.mono lS
     refine ⟨_, rfl, hS, ?_⟩
     simp only [Act.put, pA, pB, pC]
     refine wpAnyH_twoR 5 10 (by kernel_rfl) ?g19 ?g20
     case' g19 =>
      refine wpOp_call (i := 5) (f := 58) (args := #[.agg #[.bool s6, .slice a6 n6 c6], .agg #[.bool s2, .slice a2 n2 c2]]) 16 rfl rfl (by rfl) (by go_simp) ?_
      refine (div_num s6 s2 a6 a2 n6 n2 c6 c2 (-x.num) x.den k6 hx.l2 r27 N6 hx.den pn).mono ?_
      rintro e r28 ⟨q8, q9, s8, a8, n8, c8, s9, a9, n9, c9, rfl, e8, e9, e10, N8, N9, -, -, k8, k9, hk⟩
      have hE := hE.trans (hk.mono hE.size)
      have hx := hx.below hk
      have N6 := N6.below hk
      have bs := bs.below hk bs.lt
      obtain ⟨rfl, rfl⟩ := divs_unique e8 e9 e10 hd0.out
      clear e8 e9 e10
      have hS : Below (w.heap.size + 1) WE r28 := hE.mono lS
      refine ⟨_, rfl, hS, ?_⟩
      simp only [Act.put, pA, pB, pC]
      refine tk 6 (.tuple #[.agg #[.bool s8, .slice a8 n8 c8], .agg #[.bool s9, .slice a9 n9 c9], .bool true]) 10 rfl rfl ?_
      simp only [Act.put, pA, pB, pC]
      refine tk 7 (.agg #[.bool s8, .slice a8 n8 c8]) 17 rfl rfl ?_
      simp only [Act.put, pA, pB, pC]
      refine tk 8 (.agg #[.bool s9, .slice a9 n9 c9]) 18 rfl rfl ?_
      simp only [Act.put, pA, pB, pC]
      refine tk 9 (.bool true) 19 rfl rfl ?_
      simp only [Act.put, pA, pB, pC]
      refine wpAnyH_one 10 (by kernel_rfl) ?_
      refine wpOp_run (i := 10) rfl ?_
      go_simp
      have br := Box2.new r28 (Value.bool false) (Value.slice none 0 0) 25
      have hk := below_alloc' r28 (Obj.cells #[.bool false, .slice none 0 0] 25)
      obtain ⟨r29, hw⟩ : ∃ W, r28.alloc (Obj.cells #[.bool false, .slice none 0 0] 25) = W := ⟨_, rfl⟩
      obtain ⟨bbr, hbb⟩ : ∃ b, r28.heap.size = b := ⟨_, rfl⟩
      have gbr : WE.heap.size ≤ bbr := by rw [← hbb]; exact hE.size
      have lbrbs : bbs < bbr := by rw [← hbb]; exact bs.lt
      rw [hw] at hk br ⊢
      have hE := hE.trans (hk.mono hE.size)
      have hx := hx.below hk
      have N6 := N6.below hk
      have N8 := N8.below hk
      have N9 := N9.below hk
      have bs := bs.below hk bs.lt
      rw [hbb] at br ⊢
      clear hw hbb hk
      have hS : Below (w.heap.size + 1) WE r29 := hE.mono lS
      refine ⟨hS, ?_⟩
      refine wpAnyH_one 12 (by kernel_rfl) ?_
      have hne : bbs ≠ bbr := by omega
      have hSz := below_set2 hE gbr (.bool s8) (.slice a8 n8 c8)
      have hS := hSz.mono lS
      have H8 := Held.put (c := c8) N8 br
      have N9 := N9.put br (.bool s8) (.slice a8 n8 c8)
      have bs := bs.other (.bool s8) (.slice a8 n8 c8) hne
      obtain ⟨x90, x91, z90, z91⟩ := id br
      refine wpOp_run (i := 12) rfl ?_
      go_simp
      clear x90 x91 z90 z91 br
      obtain ⟨ws, hws⟩ : ∃ W, (r29.setCell ⟨bbr, 0, none⟩ (.bool s8)).setCell ⟨bbr, 1, none⟩ (.slice a8 n8 c8) = W := ⟨_, rfl⟩
      rw [hws] at hSz hS H8 N9 bs ⊢
      clear hws hE
      have hE := hSz
      clear hSz
      refine wpAnyH_one 13 (by kernel_rfl) ?_
      have hSz := below_set2 hE gbs (.bool s9) (.slice a9 n9 c9)
      have hS := hSz.mono lS
      have H8' : Held ((ws.setCell ⟨bbs, 0, none⟩ (.bool s9)).setCell ⟨bbs, 1, none⟩ (.slice a9 n9 c9)) bbr s8 a8 n8 c8 _ := ⟨H8.box.other (.bool s9) (.slice a9 n9 c9) (Ne.symm hne), H8.num.put bs _ _⟩
      have H8 := H8'
      clear H8'
      obtain ⟨x90, x91, z90, z91⟩ := id bs
      refine wpOp_run (i := 13) rfl ?_
      go_simp
      clear x90 x91 z90 z91 bs
      obtain ⟨wt, hwt⟩ : ∃ W, (ws.setCell ⟨bbs, 0, none⟩ (.bool s9)).setCell ⟨bbs, 1, none⟩ (.slice a9 n9 c9) = W := ⟨_, rfl⟩
      rw [hwt] at hSz hS H8 ⊢
      clear hwt hE hne
      have hE := hSz
      clear hSz
      refine tk 14 (.bool true) 6 rfl rfl ?_
      simp only [Act.put, pA, pB, pC]
      refine wpAnyH_done (by kernel_rfl) ?_ _
     case' g20 =>
      refine wpOp_run (i := 10) rfl ?_
      go_simp
      have br := Box2.new r27 (Value.bool false) (Value.slice none 0 0) 25
      have hk := below_alloc' r27 (Obj.cells #[.bool false, .slice none 0 0] 25)
      obtain ⟨r30, hw⟩ : ∃ W, r27.alloc (Obj.cells #[.bool false, .slice none 0 0] 25) = W := ⟨_, rfl⟩
      obtain ⟨bbr, hbb⟩ : ∃ b, r27.heap.size = b := ⟨_, rfl⟩
      have gbr : WE.heap.size ≤ bbr := by rw [← hbb]; exact hE.size
      have lbrbs : bbs < bbr := by rw [← hbb]; exact bs.lt
      rw [hw] at hk br ⊢
      have hE := hE.trans (hk.mono hE.size)
      have hx := hx.below hk
      have N6 := N6.below hk
      have bs := bs.below hk bs.lt
      rw [hbb] at br ⊢
      clear hw hbb hk
      have hS : Below (w.heap.size + 1) WE r30 := hE.mono lS
      refine ⟨hS, ?_⟩
      refine wpAnyH_one 5 (by kernel_rfl) ?_
      refine wpOp_call (i := 5) (f := 58) (args := #[.agg #[.bool s6, .slice a6 n6 c6], .agg #[.bool s2, .slice a2 n2 c2]]) 16 rfl rfl (by rfl) (by go_simp) ?_
      refine (div_num s6 s2 a6 a2 n6 n2 c6 c2 (-x.num) x.den k6 hx.l2 r30 N6 hx.den pn).mono ?_
      rintro e r31 ⟨q8, q9, s8, a8, n8, c8, s9, a9, n9, c9, rfl, e8, e9, e10, N8, N9, -, -, k8, k9, hk⟩
      have hE := hE.trans (hk.mono hE.size)
      have hx := hx.below hk
      have N6 := N6.below hk
      have bs := bs.below hk bs.lt
      have br := br.below hk br.lt
      obtain ⟨rfl, rfl⟩ := divs_unique e8 e9 e10 hd0.out
      clear e8 e9 e10
      have hS : Below (w.heap.size + 1) WE r31 := hE.mono lS
      refine ⟨_, rfl, hS, ?_⟩
      simp only [Act.put, pA, pB, pC]
      refine tk 6 (.tuple #[.agg #[.bool s8, .slice a8 n8 c8], .agg #[.bool s9, .slice a9 n9 c9], .bool true]) 10 rfl rfl ?_
      simp only [Act.put, pA, pB, pC]
      refine tk 7 (.agg #[.bool s8, .slice a8 n8 c8]) 17 rfl rfl ?_
      simp only [Act.put, pA, pB, pC]
      refine tk 8 (.agg #[.bool s9, .slice a9 n9 c9]) 18 rfl rfl ?_
      simp only [Act.put, pA, pB, pC]
      refine tk 9 (.bool true) 19 rfl rfl ?_
      simp only [Act.put, pA, pB, pC]
      refine wpAnyH_one 12 (by kernel_rfl) ?_
      have hne : bbs ≠ bbr := by omega
      have hSz := below_set2 hE gbr (.bool s8) (.slice a8 n8 c8)
      have hS := hSz.mono lS
      have H8 := Held.put (c := c8) N8 br
      have N9 := N9.put br (.bool s8) (.slice a8 n8 c8)
      have bs := bs.other (.bool s8) (.slice a8 n8 c8) hne
      obtain ⟨x90, x91, z90, z91⟩ := id br
      refine wpOp_run (i := 12) rfl ?_
      go_simp
      clear x90 x91 z90 z91 br
      obtain ⟨ws, hws⟩ : ∃ W, (r31.setCell ⟨bbr, 0, none⟩ (.bool s8)).setCell ⟨bbr, 1, none⟩ (.slice a8 n8 c8) = W := ⟨_, rfl⟩
      rw [hws] at hSz hS H8 N9 bs ⊢
      clear hws hE
      have hE := hSz
      clear hSz
      refine wpAnyH_one 13 (by kernel_rfl) ?_
      have hSz := below_set2 hE gbs (.bool s9) (.slice a9 n9 c9)
      have hS := hSz.mono lS
      have H8' : Held ((ws.setCell ⟨bbs, 0, none⟩ (.bool s9)).setCell ⟨bbs, 1, none⟩ (.slice a9 n9 c9)) bbr s8 a8 n8 c8 _ := ⟨H8.box.other (.bool s9) (.slice a9 n9 c9) (Ne.symm hne), H8.num.put bs _ _⟩
      have H8 := H8'
      clear H8'
      obtain ⟨x90, x91, z90, z91⟩ := id bs
      refine wpOp_run (i := 13) rfl ?_
      go_simp
      clear x90 x91 z90 z91 bs
      obtain ⟨wt, hwt⟩ : ∃ W, (ws.setCell ⟨bbs, 0, none⟩ (.bool s9)).setCell ⟨bbs, 1, none⟩ (.slice a9 n9 c9) = W := ⟨_, rfl⟩
      rw [hwt] at hSz hS H8 ⊢
      clear hwt hE hne
      have hE := hSz
      clear hSz
      refine tk 14 (.bool true) 6 rfl rfl ?_
      simp only [Act.put, pA, pB, pC]
      refine wpAnyH_done (by kernel_rfl) ?_ _
    case' g18 =>
     refine wpOp_run (i := 10) rfl ?_
     go_simp
     have br := Box2.new r26 (Value.bool false) (Value.slice none 0 0) 25
     have hk := below_alloc' r26 (Obj.cells #[.bool false, .slice none 0 0] 25)
     obtain ⟨r32, hw⟩ : ∃ W, r26.alloc (Obj.cells #[.bool false, .slice none 0 0] 25) = W := ⟨_, rfl⟩
     obtain ⟨bbr, hbb⟩ : ∃ b, r26.heap.size = b := ⟨_, rfl⟩
     have gbr : WE.heap.size ≤ bbr := by rw [← hbb]; exact hE.size
     have lbrbs : bbs < bbr := by rw [← hbb]; exact bs.lt
     rw [hw] at hk br ⊢
     have hE := hE.trans (hk.mono hE.size)
     have hx := hx.below hk
     have bs := bs.below hk bs.lt
     rw [hbb] at br ⊢
     clear hw hbb hk
     have hS : Below (w.heap.size + 1) WE r32 := hE.mono lS
     refine ⟨hS, ?_⟩
     refine wpAnyH_one 2 (by kernel_rfl) ?_
     refine wpOp_call (i := 2) (f := 62) (args := #[.agg #[.bool s1, .slice a1 n1 c1]]) 13 rfl rfl (by rfl) (by go_simp) ?_
     refine (opposite_any s1 a1 n1 c1 x.num hx.l1 r32 hx.num).mono ?_
     rintro e r33 ⟨s6, a6, n6, c6, rfl, N6, k6, -, hk⟩
     have hE := hE.trans (hk.mono hE.size)
     have hx := hx.below hk
     have bs := bs.below hk bs.lt
     have br := br.below hk br.lt
     have hS : Below (w.heap.size + 1) WE r33 := hE.mono lS
     refine ⟨_, rfl, hS, ?_⟩
     simp only [Act.put, pA, pB, pC]
     refine wpAnyH_one 5 (by kernel_rfl) ?_
     refine wpOp_call (i := 5) (f := 58) (args := #[.agg #[.bool s6, .slice a6 n6 c6], .agg #[.bool s2, .slice a2 n2 c2]]) 16 rfl rfl (by rfl) (by go_simp) ?_
     refine (div_num s6 s2 a6 a2 n6 n2 c6 c2 (-x.num) x.den k6 hx.l2 r33 N6 hx.den pn).mono ?_
     rintro e r34 ⟨q8, q9, s8, a8, n8, c8, s9, a9, n9, c9, rfl, e8, e9, e10, N8, N9, -, -, k8, k9, hk⟩
     have hE := hE.trans (hk.mono hE.size)
     have hx := hx.below hk
     have N6 := N6.below hk
     have bs := bs.below hk bs.lt
     have br := br.below hk br.lt
     obtain ⟨rfl, rfl⟩ := divs_unique e8 e9 e10 hd0.out
     clear e8 e9 e10
     have hS : Below (w.heap.size + 1) WE r34 := hE.mono lS
     refine ⟨_, rfl, hS, ?_⟩
     simp only [Act.put, pA, pB, pC]
     refine tk 6 (.tuple #[.agg #[.bool s8, .slice a8 n8 c8], .agg #[.bool s9, .slice a9 n9 c9], .bool true]) 10 rfl rfl ?_
     simp only [Act.put, pA, pB, pC]
     refine tk 7 (.agg #[.bool s8, .slice a8 n8 c8]) 17 rfl rfl ?_
     simp only [Act.put, pA, pB, pC]
     refine tk 8 (.agg #[.bool s9, .slice a9 n9 c9]) 18 rfl rfl ?_
     simp only [Act.put, pA, pB, pC]
     refine tk 9 (.bool true) 19 rfl rfl ?_
     simp only [Act.put, pA, pB, pC]
     refine wpAnyH_one 12 (by kernel_rfl) ?_
     have hne : bbs ≠ bbr := by omega
     have hSz := below_set2 hE gbr (.bool s8) (.slice a8 n8 c8)
     have hS := hSz.mono lS
     have H8 := Held.put (c := c8) N8 br
     have N9 := N9.put br (.bool s8) (.slice a8 n8 c8)
     have bs := bs.other (.bool s8) (.slice a8 n8 c8) hne
     obtain ⟨x90, x91, z90, z91⟩ := id br
     refine wpOp_run (i := 12) rfl ?_
     go_simp
     clear x90 x91 z90 z91 br
     obtain ⟨ws, hws⟩ : ∃ W, (r34.setCell ⟨bbr, 0, none⟩ (.bool s8)).setCell ⟨bbr, 1, none⟩ (.slice a8 n8 c8) = W := ⟨_, rfl⟩
     rw [hws] at hSz hS H8 N9 bs ⊢
     clear hws hE
     have hE := hSz
     clear hSz
     refine wpAnyH_one 13 (by kernel_rfl) ?_
     have hSz := below_set2 hE gbs (.bool s9) (.slice a9 n9 c9)
     have hS := hSz.mono lS
     have H8' : Held ((ws.setCell ⟨bbs, 0, none⟩ (.bool s9)).setCell ⟨bbs, 1, none⟩ (.slice a9 n9 c9)) bbr s8 a8 n8 c8 _ := ⟨H8.box.other (.bool s9) (.slice a9 n9 c9) (Ne.symm hne), H8.num.put bs _ _⟩
     have H8 := H8'
     clear H8'
     obtain ⟨x90, x91, z90, z91⟩ := id bs
     refine wpOp_run (i := 13) rfl ?_
     go_simp
     clear x90 x91 z90 z91 bs
     obtain ⟨wt, hwt⟩ : ∃ W, (ws.setCell ⟨bbs, 0, none⟩ (.bool s9)).setCell ⟨bbs, 1, none⟩ (.slice a9 n9 c9) = W := ⟨_, rfl⟩
     rw [hwt] at hSz hS H8 ⊢
     clear hwt hE hne
     have hE := hSz
     clear hSz
     refine tk 14 (.bool true) 6 rfl rfl ?_
     simp only [Act.put, pA, pB, pC]
     refine wpAnyH_done (by kernel_rfl) ?_ _
   all_goals
    clear N9
    have hB := hB.trans (hE.mono hB.size)
    obtain ⟨y0, y1, -, -⟩ := id H8.box
    go_wp2_with fail
    clear y0 y1
    refine (opposite_any s8 a8 n8 c8 _ k8 wt H8.num).mono ?_
    rintro e u2 ⟨s5, a5, n5, c5, rfl, N5, k5, -, hk⟩
    have hB := hB.trans (hk.mono hB.size)
    clear hk
    go_wp2_with fail
    obtain ⟨O, hO⟩ : ∃ O, intO (some (-((-x.num) / (x.den : Int)))) = O := ⟨_, rfl⟩
    have cc := int_arg s5 a5 n5 c5 (some (-((-x.num) / (x.den : Int)))) u2 ⟨N5, k5⟩
    rw [hO] at cc
    have HO := hide hO
    clear hO
    refine cc.mono ?_
    clear cc
    rintro e u3 ⟨rfl, hk⟩
    have hB := hB.trans (hk.mono hB.size)
    go_wp2
    go_ret2
    exact ⟨by rw [show ceilO (some x) = O from HO.out]; rfl, hB⟩
end Go.Proofs.YtikepnocefdmnaaGreatDoor
