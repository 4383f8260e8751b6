/- Several texts in one. -/
import Derived.Test.YtgenaicmjddjcaaGreatDoorRdF
import Derived.Test.YtgenaicmjddjcaaGreatDoorPGcd
import Derived.Test.YtgenaicmjddjcaaGreatDoorPDivL
import Derived.Test.YtgenaicmjddjcaaGreatDoorPAd
import Derived.Test.YtgenaicmjddjcaaGreatDoorRaB
namespace Go.Proofs.YtgenaicmjddjcaaGreatDoor
open Go.RowKit Go.Shelf

theorem divs_unique {a b q r : Int} (e : a = q * b + r) (h0 : 0 ≤ r) (h1 : r < b.natAbs) (hb : b ≠ 0) : q = a / b ∧ r = a % b := by
 have e' : r + b * q = a := by rw [Int.mul_comm b q]; omega
 rcases Int.lt_or_gt_of_ne hb with h | h
 · have := (Int.ediv_emod_unique' (a := a) (r := r) (q := q) h).2 ⟨e', h0, by omega⟩
   exact ⟨this.1.symm, this.2.symm⟩
 · have := (Int.ediv_emod_unique (a := a) (r := r) (q := q) h).2 ⟨e', h0, by omega⟩
   exact ⟨this.1.symm, this.2.symm⟩
def kO : Option Int → Option Int → Bool
 | some _, some b => decide (b ≠ 0)
 | _, _ => false
theorem gcd_fit {wa wb : World} {sa sb : Bool} {aa ab : Option Addr} {na nb : Nat} {za zb : Int} (ha : IsN wa sa aa na za) (hb : IsN wb sb ab nb zb) (hna : na ≤ 64) (hnb : nb ≤ 64) : dlen ((Int.gcd za zb : Nat) : Int).natAbs ≤ 64 := by
 rw [Int.natAbs_natCast]
 unfold Int.gcd
 rcases Nat.eq_zero_or_pos za.natAbs with h | h
 · rw [h, Nat.gcd_zero_left, ← hb.dig.len]; exact hnb
 · exact Nat.le_trans (dlen_mono (Nat.le_of_dvd h (Nat.gcd_dvd_left _ _))) (by rw [← ha.dig.len]; exact hna)

end Go.Proofs.YtgenaicmjddjcaaGreatDoor

namespace Go.Proofs.YtgenaicmjddjcaaGreatDoor
open Go.RowKit Go.Shelf

def rightO : Option Int → Option Int → Bool
 | some n, some d => decide (1 ≤ d) && decide (Int.gcd n d = 1)
 | _, _ => false

set_option maxRecDepth 100000 in
set_option maxHeartbeats 4000000 in
theorem ratRight_any (s1 s2 : Bool) (a1 a2 : Option Addr) (n1 n2 c1 c2 : Nat) (o1 o2 : Option Int) (w : World) (h1 : Arg w s1 a1 n1 o1) (h2 : Arg w s2 a2 n2 o2) :
 Calls Tryz.prog 26 #[.agg #[.bool s1, .slice a1 n1 c1, .bool s2, .slice a2 n2 c2]] w fun e w' => e = .returned (.bool (rightO o1 o2)) ∧ Below w.heap.size w w' := by
 go_enter Tryz.func26, Tryz.ntmps26
 go_wp2_with fail
 have hB := below_alloc w (Obj.cells #[.bool s1, .slice a1 n1 c1, .bool s2, .slice a2 n2 c2] 37)
 have hX := Four.new w (.bool s1) (.slice a1 n1 c1) (.bool s2) (.slice a2 n2 c2) 37
 obtain ⟨W0, hW0⟩ : ∃ W0, w.alloc (Obj.cells #[.bool s1, .slice a1 n1 c1, .bool s2, .slice a2 n2 c2] 37) = W0 := ⟨_, rfl⟩
 rw [hW0] at hB hX ⊢
 clear hW0
 have hB : Below w.heap.size w W0.drew := hB.drew
 have hX : Four W0.drew w.heap.size (.bool s1) (.slice a1 n1 c1) (.bool s2) (.slice a2 n2 c2) := hX.below (Below.drew (Below.refl _ _))
 have h1 := h1.below hB
 have h2 := h2.below hB
 refine wp_region_held_drew (S := fun w' => Below W0.drew.heap.size W0.drew w') (by kernel_rfl) (Below.refl _ _) (fun hHeld => ?_)
 obtain ⟨WD, hWD⟩ : ∃ WD, W0.drew = WD := ⟨_, rfl⟩
 rw [hWD] at hB hX h1 h2 hHeld ⊢
 clear hWD
 have hlt := lt_of_cell hX.c0
 obtain ⟨p0, p1, p2, p3⟩ := id hX
 refine tk 0 (.pointer (some ⟨w.heap.size, 0, none⟩)) 5 rfl rfl ?_
 simp only [Act.put, pA, pB, pC]
 refine tk 1 (.agg #[.bool s1, .slice a1 n1 c1]) 6 rfl rfl ?_ (Or.inl ⟨by rfl, fun w' hSw => by have q0 := (hSw.cell (p := ⟨w.heap.size, 0, none⟩) hlt).trans p0; have q1 := (hSw.cell (p := ⟨w.heap.size, 1, none⟩) hlt).trans p1; go_simp⟩)
 simp only [Act.put, pA, pB, pC]
 refine tk 2 (.pointer (some ⟨w.heap.size, 2, none⟩)) 7 rfl rfl ?_
 simp only [Act.put, pA, pB, pC]
 refine tk 3 (.agg #[.bool s2, .slice a2 n2 c2]) 8 rfl rfl ?_ (Or.inl ⟨by rfl, fun w' hSw => by have q2 := (hSw.cell (p := ⟨w.heap.size, 2, none⟩) hlt).trans p2; have q3 := (hSw.cell (p := ⟨w.heap.size, 3, none⟩) hlt).trans p3; go_simp⟩)
 simp only [Act.put, pA, pB, pC]
 refine wpAnyH_one 4 (by kernel_rfl) ?_
 refine wpOp_run (i := 4) rfl ?_
 go_simp
 have hk := below_alloc WD (Obj.cells #[.bool s1, .slice a1 n1 c1, .bool s2, .slice a2 n2 c2] 25)
 have hF := Four.new WD (.bool s1) (.slice a1 n1 c1) (.bool s2) (.slice a2 n2 c2) 25
 refine ⟨hk, ?_⟩
 refine wpAnyH_one 5 (by kernel_rfl) ?_
 refine wpOp_call (i := 5) (f := 88) (args := #[.slice (some ⟨WD.heap.size, 0, none⟩) 2 2]) 10 rfl rfl (by rfl) (by go_simp) ?_
 refine (allRight_two WD.heap.size s1 s2 a1 a2 n1 n2 c1 c2 o1 o2 _ hF (h1.below hk) (h2.below hk)).mono ?_
 rintro e w1 ⟨rfl, hk1⟩
 have hk2 := hk.trans (hk1.mono hk.size)
 clear hk hk1 hF
 refine ⟨_, rfl, hk2, ?_⟩
 simp only [Act.put, pA, pB, pC]
 cases o1 with
 | none =>
   have hr : rightO none o2 = false := rfl
   have HR := hide hr
   clear hr
   refine tk 6 (.bool true) 11 rfl rfl ?_
   simp only [Act.put, pA, pB, pC]
   refine tk 7 (.bool true) 12 rfl rfl ?_
   simp only [Act.put, pA, pB, pC]
   refine tk 8 (undef) 13 rfl rfl ?_ (Or.inr ⟨by rfl, rfl⟩)
   simp only [Act.put, pA, pB, pC]
   refine tk 9 (undef) 14 rfl rfl ?_ (Or.inr ⟨by rfl, rfl⟩)
   simp only [Act.put, pA, pB, pC]
   refine tk 10 (undef) 15 rfl rfl ?_ (Or.inr ⟨by rfl, rfl⟩)
   simp only [Act.put, pA, pB, pC]
   refine tk 11 (undef) 16 rfl rfl ?_ (Or.inr ⟨by rfl, rfl⟩)
   simp only [Act.put, pA, pB, pC]
   refine tk 12 (undef) 17 rfl rfl ?_ (Or.inr ⟨by rfl, rfl⟩)
   simp only [Act.put, pA, pB, pC]
   refine tk 13 (.bool true) 18 rfl rfl ?_
   simp only [Act.put, pA, pB, pC]
   refine wpAnyH_done (by kernel_rfl) ?_ _
   have hB2 := hB.trans (hk2.mono hB.size)
   go_wp2
   go_ret
   exact ⟨by rw [HR.out]; rfl, hB2⟩
 | some n =>
   cases o2 with
   | none =>
     have hr : rightO (some n) none = false := rfl
     have HR := hide hr
     clear hr
     refine tk 6 (.bool true) 11 rfl rfl ?_
     simp only [Act.put, pA, pB, pC]
     refine tk 7 (.bool true) 12 rfl rfl ?_
     simp only [Act.put, pA, pB, pC]
     refine tk 8 (undef) 13 rfl rfl ?_ (Or.inr ⟨by rfl, rfl⟩)
     simp only [Act.put, pA, pB, pC]
     refine tk 9 (undef) 14 rfl rfl ?_ (Or.inr ⟨by rfl, rfl⟩)
     simp only [Act.put, pA, pB, pC]
     refine tk 10 (undef) 15 rfl rfl ?_ (Or.inr ⟨by rfl, rfl⟩)
     simp only [Act.put, pA, pB, pC]
     refine tk 11 (undef) 16 rfl rfl ?_ (Or.inr ⟨by rfl, rfl⟩)
     simp only [Act.put, pA, pB, pC]
     refine tk 12 (undef) 17 rfl rfl ?_ (Or.inr ⟨by rfl, rfl⟩)
     simp only [Act.put, pA, pB, pC]
     refine tk 13 (.bool true) 18 rfl rfl ?_
     simp only [Act.put, pA, pB, pC]
     refine wpAnyH_done (by kernel_rfl) ?_ _
     have hB2 := hB.trans (hk2.mono hB.size)
     go_wp2
     go_ret
     exact ⟨by rw [HR.out]; rfl, hB2⟩
   | some d =>
     refine tk 6 (.bool false) 11 rfl rfl ?_
     simp only [Act.put, pA, pB, pC]
     refine tk 7 (.bool false) 12 rfl rfl ?_
     simp only [Act.put, pA, pB, pC]
     refine tk 8 (.pointer (some ⟨w.heap.size, 2, none⟩)) 13 rfl rfl ?_
     simp only [Act.put, pA, pB, pC]
     refine tk 9 (.agg #[.bool s2, .slice a2 n2 c2]) 14 rfl rfl ?_ (Or.inl ⟨by rfl, fun w' hSw => by have q2 := (hSw.cell (p := ⟨w.heap.size, 2, none⟩) hlt).trans p2; have q3 := (hSw.cell (p := ⟨w.heap.size, 3, none⟩) hlt).trans p3; go_simp⟩)
     simp only [Act.put, pA, pB, pC]
     refine wpAnyH_one 10 (by kernel_rfl) ?_
     refine wpOp_call (i := 10) (f := 54) (args := #[.int .i64 1]) 15 rfl rfl (by rfl) (by go_simp) ?_
     refine (of_any 1 (by decide) (by decide) w1).mono ?_
     rintro e w2 ⟨so, ao, no, co, rfl, No, ko⟩
     have hno : no ≤ 64 := by rw [No.dig.len]; exact Nat.le_trans (dlen_le_two (by decide)) (by decide)
     have hk3 := hk2.trans (ko.mono hk2.size)
     refine ⟨_, rfl, hk3, ?_⟩
     simp only [Act.put, pA, pB, pC]
     refine wpAnyH_one 11 (by kernel_rfl) ?_
     refine wpOp_call (i := 11) (f := 89) (args := #[.agg #[.bool s2, .slice a2 n2 c2], .agg #[.bool so, .slice ao no co]]) 16 rfl rfl (by rfl) (by go_simp) ?_
     refine (cmp_any s2 so a2 ao n2 no c2 co d 1 h2.2 hno w2 (h2.1.below hk3) No).mono ?_
     rintro e w3 ⟨rfl, hk4⟩
     have hk5 := hk3.trans (hk4.mono hk3.size)
     obtain ⟨q, hq⟩ : ∃ q, cmpZ d 1 = q := ⟨_, rfl⟩
     have HQ : Hid (q < 0 ↔ d < 1) := hide (by rw [← hq]; unfold cmpZ; split; (constructor <;> intro _ <;> omega); split <;> (constructor <;> intro _ <;> omega))
     rw [hq]
     clear hq
     refine ⟨_, rfl, hk5, ?_⟩
     simp only [Act.put, pA, pB, pC]
     refine wpAnyH_one 12 (by kernel_rfl) ?_
     refine wpOp_run (i := 12) rfl ?_
     go_simp
     refine wpAnyH_one 13 (by kernel_rfl) ?_
     refine wpOp_run (i := 13) rfl ?_
     go_simp
     refine wpAnyH_done (by kernel_rfl) ?_ _
     have hB2 := hB.trans (hk5.mono hB.size)
     have hX5 := hX.below hk5
     have h15 := h1.below hk5
     have h25 := h2.below hk5
     clear hk2 hk3 hk4 hk5 ko No hX h1 h2 p0 p1 p2 p3 hlt
     by_cases hd : d < 1
     · have hq0 := HQ.out.2 hd
       have hr : rightO (some n) (some d) = false := by unfold rightO; simp; omega
       have HR := hide hr
       clear hd HQ hr
       go_wp2
       go_ret
       exact ⟨by rw [HR.out]; rfl, hB2⟩
     · have hq0 : ¬ q < 0 := fun h => hd (HQ.out.1 h)
       have hr : rightO (some n) (some d) = decide (((Int.gcd n d : Nat) : Int) = 1) := by
        show (decide (1 ≤ d) && decide (Int.gcd n d = 1)) = _
        rw [decide_eq_true (show 1 ≤ d by omega), Bool.true_and]
        exact decide_eq_decide.2 ⟨fun h => by rw [h]; rfl, fun h => Int.ofNat.inj h⟩
       have HR := hide hr
       clear hd HQ hr
       obtain ⟨p0, p1, p2, p3⟩ := id hX5
       go_wp2_with fail
       clear p0 p1 p2 p3
       refine (gcd_num s1 s2 a1 a2 n1 n2 c1 c2 n d h15.2 h25.2 w3 h15.1 h25.1).mono ?_
       rintro e w4 ⟨sg, ag, ng, cg, rfl, Ng, -, hk⟩
       have kg : ng ≤ 64 := by rw [Ng.dig.len]; exact gcd_fit h15.1 h25.1 h15.2 h25.2
       have hB3 := hB2.trans (hk.mono hB2.size)
       have Hg := Held.new cg Ng 25
       have hk := below_alloc w4 (Obj.cells #[.bool sg, .slice ag ng cg] 25)
       obtain ⟨W5, hW5⟩ : ∃ W, w4.alloc (Obj.cells #[.bool sg, .slice ag ng cg] 25) = W := ⟨_, rfl⟩
       obtain ⟨B5, hB5⟩ : ∃ B, w4.heap.size = B := ⟨_, rfl⟩
       rw [hW5] at hk Hg
       rw [hB5] at Hg
       have hB4 := hB3.trans (hk.mono hB3.size)
       obtain ⟨x, y, -, -⟩ := Hg.box
       go_wp2_with fail
       try rw [hW5]
       try rw [hB5]
       clear hW5 hB5 x y
       refine (isOne_any sg ag ng cg _ kg W5 Hg.num).mono ?_
       rintro e w6 ⟨rfl, hk6⟩
       have hB6 := hB4.trans (hk6.mono hB4.size)
       go_wp2
       go_ret
       exact ⟨by rw [HR.out]; rfl, hB6⟩
end Go.Proofs.YtgenaicmjddjcaaGreatDoor

