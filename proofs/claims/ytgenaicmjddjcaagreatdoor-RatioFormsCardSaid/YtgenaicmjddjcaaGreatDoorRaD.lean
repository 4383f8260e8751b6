/- ratio's Of. -/
import Derived.Test.YtgenaicmjddjcaaGreatDoorRaC
namespace Go.Proofs.YtgenaicmjddjcaaGreatDoor
open Go.RowKit Go.Shelf

structure Quad (w : World) (b : Nat) (v0 v1 v2 v3 : Value) : Prop where
 four : Four w b v0 v1 v2 v3
 z0 : w.frozen? ⟨b, 0, none⟩ = false
 z1 : w.frozen? ⟨b, 1, none⟩ = false
 z2 : w.frozen? ⟨b, 2, none⟩ = false
 z3 : w.frozen? ⟨b, 3, none⟩ = false
theorem Quad.lt {w : World} {b : Nat} {v0 v1 v2 v3 : Value} (h : Quad w b v0 v1 v2 v3) : b < w.heap.size := lt_of_cell h.four.c0
theorem Quad.below {w w' : World} {b : Nat} {v0 v1 v2 v3 : Value} (h : Quad w b v0 v1 v2 v3) (t : Below w.heap.size w w') : Quad w' b v0 v1 v2 v3 :=
 ⟨h.four.below t, (t.frozen (p := ⟨b, 0, none⟩) h.lt).trans h.z0, (t.frozen (p := ⟨b, 1, none⟩) h.lt).trans h.z1, (t.frozen (p := ⟨b, 2, none⟩) h.lt).trans h.z2, (t.frozen (p := ⟨b, 3, none⟩) h.lt).trans h.z3⟩
theorem Quad.under {w w' : World} {b B : Nat} {v0 v1 v2 v3 : Value} (h : Quad w b v0 v1 v2 v3) (t : Below B w w') (hb : b < B) : Quad w' b v0 v1 v2 v3 :=
 ⟨⟨(t.cell (p := ⟨b, 0, none⟩) hb).trans h.four.c0, (t.cell (p := ⟨b, 1, none⟩) hb).trans h.four.c1, (t.cell (p := ⟨b, 2, none⟩) hb).trans h.four.c2, (t.cell (p := ⟨b, 3, none⟩) hb).trans h.four.c3⟩, (t.frozen (p := ⟨b, 0, none⟩) hb).trans h.z0, (t.frozen (p := ⟨b, 1, none⟩) hb).trans h.z1, (t.frozen (p := ⟨b, 2, none⟩) hb).trans h.z2, (t.frozen (p := ⟨b, 3, none⟩) hb).trans h.z3⟩
theorem Quad.new (w : World) (v0 v1 v2 v3 : Value) (t : TypeId) : Quad (w.alloc (Obj.cells #[v0, v1, v2, v3] t)) w.heap.size v0 v1 v2 v3 := ⟨Four.new w v0 v1 v2 v3 t, by simp [go_sem], by simp [go_sem], by simp [go_sem], by simp [go_sem]⟩
theorem below_set4 {C B : Nat} {w W : World} (h : Below C w W) (hB : C ≤ B) (v0 v1 v2 v3 : Value) : Below C w ((((W.setCell ⟨B, 0, none⟩ v0).setCell ⟨B, 1, none⟩ v1).setCell ⟨B, 2, none⟩ v2).setCell ⟨B, 3, none⟩ v3) :=
 (((h.setCell (p := ⟨B, 0, none⟩) hB _).setCell (p := ⟨B, 1, none⟩) hB _).setCell (p := ⟨B, 2, none⟩) hB _).setCell (p := ⟨B, 3, none⟩) hB _
theorem Quad.set {w : World} {b : Nat} {v0 v1 v2 v3 : Value} (u0 u1 u2 u3 : Value) (h : Quad w b v0 v1 v2 v3) {W : World}
 (hW : (((w.setCell ⟨b, 0, none⟩ u0).setCell ⟨b, 1, none⟩ u1).setCell ⟨b, 2, none⟩ u2).setCell ⟨b, 3, none⟩ u3 = W) : Quad W b u0 u1 u2 u3 ∧ Touch b 0 4 w W := by
 subst hW
 have ne : ∀ i j : Nat, i ≠ j → (⟨b, i, none⟩ : Addr) ≠ ⟨b, j, none⟩ := fun i j hij e => hij (by have := congrArg Addr.off e; simpa using this)
 have fz : ∀ k, ((((w.setCell ⟨b, 0, none⟩ u0).setCell ⟨b, 1, none⟩ u1).setCell ⟨b, 2, none⟩ u2).setCell ⟨b, 3, none⟩ u3).frozen? ⟨b, k, none⟩ = w.frozen? ⟨b, k, none⟩ := fun k => by
  rw [World.frozen?_setCell, World.frozen?_setCell, World.frozen?_setCell, World.frozen?_setCell]
 refine ⟨⟨⟨?_, ?_, ?_, ?_⟩, (fz 0).trans h.z0, (fz 1).trans h.z1, (fz 2).trans h.z2, (fz 3).trans h.z3⟩, ?_⟩
 · rw [cell_setCell_ne _ _ _ _ (ne 0 3 (by decide)) rfl rfl, cell_setCell_ne _ _ _ _ (ne 0 2 (by decide)) rfl rfl, cell_setCell_ne _ _ _ _ (ne 0 1 (by decide)) rfl rfl]
   exact World.cell?_setCell_same' _ _ _ (by rw [h.four.c0]; rfl)
 · rw [cell_setCell_ne _ _ _ _ (ne 1 3 (by decide)) rfl rfl, cell_setCell_ne _ _ _ _ (ne 1 2 (by decide)) rfl rfl]
   exact World.cell?_setCell_same' _ _ _ (by rw [cell_setCell_ne _ _ _ _ (ne 1 0 (by decide)) rfl rfl, h.four.c1]; rfl)
 · rw [cell_setCell_ne _ _ _ _ (ne 2 3 (by decide)) rfl rfl]
   exact World.cell?_setCell_same' _ _ _ (by rw [cell_setCell_ne _ _ _ _ (ne 2 1 (by decide)) rfl rfl, cell_setCell_ne _ _ _ _ (ne 2 0 (by decide)) rfl rfl, h.four.c2]; rfl)
 · exact World.cell?_setCell_same' _ _ _ (by rw [cell_setCell_ne _ _ _ _ (ne 3 2 (by decide)) rfl rfl, cell_setCell_ne _ _ _ _ (ne 3 1 (by decide)) rfl rfl, cell_setCell_ne _ _ _ _ (ne 3 0 (by decide)) rfl rfl, h.four.c3]; rfl)
 · exact (((Touch.setCell w u0 (Nat.le_refl _) (by omega)).trans (Touch.setCell _ u1 (by omega) (by omega))).trans (Touch.setCell _ u2 (by omega) (by omega))).trans (Touch.setCell _ u3 (by omega) (by omega))
theorem IsN.touch {w W : World} {s : Bool} {a : Option Addr} {n b lo hi : Nat} {z : Int} (h : IsN w s a n z) (t : Touch b lo hi w W) (hne : n = 0 ∨ ∀ ad, a = some ad → ad.block ≠ b) : IsN W s a n z :=
 ⟨h.sign, h.dig.len, h.dig.dig.touch' t hne⟩

def RatOut (w : World) (N D : Int) (ok : Bool) (e : Ending) (w' : World) : Prop :=
 ∃ (s1 : Bool) (a1 : Option Addr) (n1 c1 : Nat) (s2 : Bool) (a2 : Option Addr) (n2 c2 : Nat), e = .returned (.tuple #[.agg #[.bool s1, .slice a1 n1 c1, .bool s2, .slice a2 n2 c2], .bool ok]) ∧
  IsN w' s1 a1 n1 N ∧ IsN w' s2 a2 n2 D ∧ n1 ≤ 64 ∧ n2 ≤ 64 ∧ Below w.heap.size w w'

theorem of_boxes (w : World) (u0 u1 v0 v1 : Value) (tN tR : TypeId) {W1 : World} (hW : ((((w.alloc (Obj.cells #[u0, u1] tN)).alloc (Obj.cells #[v0, v1] tN)).alloc (Obj.cells #[.bool false, .slice none 0 0, .bool false, .slice none 0 0] tR)).alloc (Obj.cells #[u0, u1, v0, v1] tN)) = W1) :
 Box2 W1 w.heap.size u0 u1 ∧ Box2 W1 (w.heap.size + 1) v0 v1 ∧ Quad W1 (w.heap.size + 1 + 1) (.bool false) (.slice none 0 0) (.bool false) (.slice none 0 0) ∧ Four W1 (w.heap.size + 1 + 1 + 1) u0 u1 v0 v1 ∧ Below w.heap.size w W1 := by
 subst hW
 refine ⟨(((Box2.new w _ _ _).alloc _).alloc _).alloc _, ?_, ?_, ?_, ((((Below.refl _ w).alloc (Nat.le_refl _) _).alloc (by simp) _).alloc (by simp; omega) _).alloc (by simp; omega) _⟩
 · have := ((Box2.new (w.alloc (Obj.cells #[u0, u1] tN)) v0 v1 tN).alloc (Obj.cells #[.bool false, .slice none 0 0, .bool false, .slice none 0 0] tR)).alloc (Obj.cells #[u0, u1, v0, v1] tN)
   rw [World.size_alloc] at this; exact this
 · have := (Quad.new ((w.alloc (Obj.cells #[u0, u1] tN)).alloc (Obj.cells #[v0, v1] tN)) (.bool false) (.slice none 0 0) (.bool false) (.slice none 0 0) tR).below (below_alloc _ (Obj.cells #[u0, u1, v0, v1] tN))
   rw [World.size_alloc, World.size_alloc] at this; exact this
 · have := Four.new (((w.alloc (Obj.cells #[u0, u1] tN)).alloc (Obj.cells #[v0, v1] tN)).alloc (Obj.cells #[.bool false, .slice none 0 0, .bool false, .slice none 0 0] tR)) u0 u1 v0 v1 tN
   rw [World.size_alloc, World.size_alloc, World.size_alloc] at this; exact this

set_option maxRecDepth 100000 in
set_option maxHeartbeats 4000000 in
theorem ratOf_no (s1 s2 : Bool) (a1 a2 : Option Addr) (n1 n2 c1 c2 : Nat) (o1 o2 : Option Int) (w : World) (hno : (o1.isSome && o2.isSome) = false) (h1 : Arg w s1 a1 n1 o1) (h2 : Arg w s2 a2 n2 o2) :
 Calls Tryz.prog 30 #[.agg #[.bool s1, .slice a1 n1 c1], .agg #[.bool s2, .slice a2 n2 c2]] w (RatOut w 0 0 false) := by
 go_enter Tryz.func30, Tryz.ntmps30
 go_wp2_with fail
 obtain ⟨W1, hW1⟩ : ∃ W1, (((w.alloc (Obj.cells #[.bool s1, .slice a1 n1 c1] 25)).alloc (Obj.cells #[.bool s2, .slice a2 n2 c2] 25)).alloc (Obj.cells #[.bool false, .slice none 0 0, .bool false, .slice none 0 0] 37)).alloc (Obj.cells #[.bool s1, .slice a1 n1 c1, .bool s2, .slice a2 n2 c2] 25) = W1 := ⟨_, rfl⟩
 obtain ⟨bA, bB, bC, hF, hB⟩ := of_boxes w _ _ _ _ _ _ hW1
 rw [hW1]
 clear hW1
 have h1 := h1.below hB
 have h2 := h2.below hB
 refine (allRight_two _ s1 s2 a1 a2 n1 n2 c1 c2 o1 o2 W1 hF h1 h2).mono ?_
 rintro e w1 ⟨rfl, hk⟩
 rw [hno]
 have hB := hB.trans (hk.mono hB.size)
 have bA := bA.below hk bA.lt
 have bB := bB.below hk bB.lt
 have bC := bC.below hk
 have h1 := h1.below hk
 have h2 := h2.below hk
 clear hk
 obtain ⟨Wz, hWz⟩ : ∃ W, (((w1.setCell ⟨w.heap.size + 1 + 1, 0, none⟩ (.bool false)).setCell ⟨w.heap.size + 1 + 1, 1, none⟩ (.slice none 0 0)).setCell ⟨w.heap.size + 1 + 1, 2, none⟩ (.bool false)).setCell ⟨w.heap.size + 1 + 1, 3, none⟩ (.slice none 0 0) = W := ⟨_, rfl⟩
 have hQ := (bC.set _ _ _ _ hWz).1
 have hBz : Below w.heap.size w Wz := by rw [← hWz]; exact (((hB.setCell (p := ⟨w.heap.size + 1 + 1, 0, none⟩) (by show w.heap.size ≤ w.heap.size + 1 + 1; omega) _).setCell (p := ⟨w.heap.size + 1 + 1, 1, none⟩) (by show w.heap.size ≤ w.heap.size + 1 + 1; omega) _).setCell (p := ⟨w.heap.size + 1 + 1, 2, none⟩) (by show w.heap.size ≤ w.heap.size + 1 + 1; omega) _).setCell (p := ⟨w.heap.size + 1 + 1, 3, none⟩) (by show w.heap.size ≤ w.heap.size + 1 + 1; omega) _
 have K := hide (And.intro hQ hBz)
 have HWz := hide hWz
 obtain ⟨⟨r0, r1, r2, r3⟩, z0, z1, z2, z3⟩ := bC
 clear hQ hBz hWz
 go_wp2
 obtain ⟨⟨⟨q0, q1, q2, q3⟩, -, -, -, -⟩, hBB⟩ := K.out
 rw [HWz.out]
 exact bodyPost_ret (v := .tuple #[.agg #[.bool false, .slice none 0 0, .bool false, .slice none 0 0], .bool false]) (by simp [results, Tryz.results30, go_sem, q0, q1, q2, q3]) rfl ⟨_, _, _, _, _, _, _, _, rfl, zero_num _, zero_num _, by decide, by decide, hBB⟩

set_option maxRecDepth 100000 in
set_option maxHeartbeats 4000000 in
theorem ratOf_zero (s1 s2 : Bool) (a1 a2 : Option Addr) (n1 n2 c1 c2 : Nat) (n : Int) (w : World) (h1 : Arg w s1 a1 n1 (some n)) (h2 : Arg w s2 a2 n2 (some 0)) :
 Calls Tryz.prog 30 #[.agg #[.bool s1, .slice a1 n1 c1], .agg #[.bool s2, .slice a2 n2 c2]] w (RatOut w 0 0 false) := by
 go_enter Tryz.func30, Tryz.ntmps30
 go_wp2_with fail
 obtain ⟨W1, hW1⟩ : ∃ W1, (((w.alloc (Obj.cells #[.bool s1, .slice a1 n1 c1] 25)).alloc (Obj.cells #[.bool s2, .slice a2 n2 c2] 25)).alloc (Obj.cells #[.bool false, .slice none 0 0, .bool false, .slice none 0 0] 37)).alloc (Obj.cells #[.bool s1, .slice a1 n1 c1, .bool s2, .slice a2 n2 c2] 25) = W1 := ⟨_, rfl⟩
 obtain ⟨bA, bB, bC, hF, hB⟩ := of_boxes w _ _ _ _ _ _ hW1
 rw [hW1]
 clear hW1
 have h1 := h1.below hB
 have h2 := h2.below hB
 refine (allRight_two _ s1 s2 a1 a2 n1 n2 c1 c2 (some n) (some 0) W1 hF h1 h2).mono ?_
 rintro e w1 ⟨rfl, hk⟩
 have hB := hB.trans (hk.mono hB.size)
 have bA := bA.below hk bA.lt
 have bB := bB.below hk bB.lt
 have bC := bC.below hk
 have h1 := h1.below hk
 have h2 := h2.below hk
 clear hk
 obtain ⟨x0, x1, -, -⟩ := id bA
 obtain ⟨y0, y1, -, -⟩ := id bB
 go_wp2_with fail
 clear x0 x1 y0 y1
 refine (isZero_any s2 a2 n2 c2 0 h2.2 w1 h2.1).mono ?_
 rintro e w2 ⟨rfl, hk⟩
 have hB := hB.trans (hk.mono hB.size)
 have bA := bA.below hk bA.lt
 have bB := bB.below hk bB.lt
 have bC := bC.below hk
 have h1 := h1.below hk
 have h2 := h2.below hk
 clear hk
 obtain ⟨Wz, hWz⟩ : ∃ W, (((w2.setCell ⟨w.heap.size + 1 + 1, 0, none⟩ (.bool false)).setCell ⟨w.heap.size + 1 + 1, 1, none⟩ (.slice none 0 0)).setCell ⟨w.heap.size + 1 + 1, 2, none⟩ (.bool false)).setCell ⟨w.heap.size + 1 + 1, 3, none⟩ (.slice none 0 0) = W := ⟨_, rfl⟩
 have hQ := (bC.set _ _ _ _ hWz).1
 have hBz : Below w.heap.size w Wz := by rw [← hWz]; exact (((hB.setCell (p := ⟨w.heap.size + 1 + 1, 0, none⟩) (by show w.heap.size ≤ w.heap.size + 1 + 1; omega) _).setCell (p := ⟨w.heap.size + 1 + 1, 1, none⟩) (by show w.heap.size ≤ w.heap.size + 1 + 1; omega) _).setCell (p := ⟨w.heap.size + 1 + 1, 2, none⟩) (by show w.heap.size ≤ w.heap.size + 1 + 1; omega) _).setCell (p := ⟨w.heap.size + 1 + 1, 3, none⟩) (by show w.heap.size ≤ w.heap.size + 1 + 1; omega) _
 have K := hide (And.intro hQ hBz)
 have HWz := hide hWz
 obtain ⟨⟨r0, r1, r2, r3⟩, z0, z1, z2, z3⟩ := bC
 clear hQ hBz hWz
 go_wp2
 obtain ⟨⟨⟨q0, q1, q2, q3⟩, -, -, -, -⟩, hBB⟩ := K.out
 rw [HWz.out]
 exact bodyPost_ret (v := .tuple #[.agg #[.bool false, .slice none 0 0, .bool false, .slice none 0 0], .bool false]) (by simp [results, Tryz.results30, go_sem, q0, q1, q2, q3]) rfl ⟨_, _, _, _, _, _, _, _, rfl, zero_num _, zero_num _, by decide, by decide, hBB⟩

def ofG (n d : Int) : Int := if d < 0 then -((Int.gcd n d : Nat) : Int) else ((Int.gcd n d : Nat) : Int)
theorem ofG_ne {n d : Int} (hd : d ≠ 0) : ofG n d ≠ 0 := fun e => by
 have h : Int.gcd n d ≠ 0 := fun h => hd (Int.gcd_eq_zero_iff.1 h).2
 unfold ofG at e
 split at e <;> omega

set_option maxRecDepth 100000 in
set_option maxHeartbeats 4000000 in
theorem ratOf_pos (s1 : Bool) (a1 a2 : Option Addr) (n1 n2 c1 c2 : Nat) (n d : Int) (hd : 0 < d) (w : World) (h1 : Arg w s1 a1 n1 (some n)) (h2 : Arg w false a2 n2 (some d)) :
 Calls Tryz.prog 30 #[.agg #[.bool s1, .slice a1 n1 c1], .agg #[.bool false, .slice a2 n2 c2]] w (RatOut w (n / ofG n d) (d / ofG n d) true) := by
 have h1w := h1
 have h2w := h2
 have HD := hide (show d ≠ 0 by omega)
 have hG0 := hide (ofG_ne (n := n) HD.out)
 obtain ⟨G, hG⟩ : ∃ G, ofG n d = G := ⟨_, rfl⟩
 have HGG := hide hG
 have HGV : Hid (G = ((Int.gcd n d : Nat) : Int)) := hide (by rw [← hG]; unfold ofG; rw [if_neg (by omega)])
 rw [hG] at hG0
 clear hG hd
 go_enter Tryz.func30, Tryz.ntmps30
 go_wp2_with fail
 obtain ⟨W1, hW1⟩ : ∃ W1, (((w.alloc (Obj.cells #[.bool s1, .slice a1 n1 c1] 25)).alloc (Obj.cells #[.bool false, .slice a2 n2 c2] 25)).alloc (Obj.cells #[.bool false, .slice none 0 0, .bool false, .slice none 0 0] 37)).alloc (Obj.cells #[.bool s1, .slice a1 n1 c1, .bool false, .slice a2 n2 c2] 25) = W1 := ⟨_, rfl⟩
 obtain ⟨bA, bB, bC, hF, hB⟩ := of_boxes w _ _ _ _ _ _ hW1
 rw [hW1]
 clear hW1
 have h1 := h1.below hB
 have h2 := h2.below hB
 refine (allRight_two _ s1 false a1 a2 n1 n2 c1 c2 (some n) (some d) W1 hF h1 h2).mono ?_
 rintro e w1 ⟨rfl, hk⟩
 have hB := hB.trans (hk.mono hB.size)
 have bA := bA.below hk bA.lt
 have bB := bB.below hk bB.lt
 have bC := bC.below hk
 have h1 := h1.below hk
 have h2 := h2.below hk
 clear hk
 obtain ⟨x0, x1, -, -⟩ := id bA
 obtain ⟨y0, y1, -, -⟩ := id bB
 go_wp2_with fail
 clear x0 x1 y0 y1
 refine (isZero_any false a2 n2 c2 d h2.2 w1 h2.1).mono ?_
 rintro e w2 ⟨rfl, hk⟩
 have hB := hB.trans (hk.mono hB.size)
 have bA := bA.below hk bA.lt
 have bB := bB.below hk bB.lt
 have bC := bC.below hk
 have h1 := h1.below hk
 have h2 := h2.below hk
 clear hk
 rw [decide_eq_false HD.out]
 obtain ⟨x0, x1, -, -⟩ := id bA
 obtain ⟨y0, y1, -, -⟩ := id bB
 go_wp2_with fail
 clear x0 x1 y0 y1
 refine (gcd_num s1 false a1 a2 n1 n2 c1 c2 n d h1.2 h2.2 w2 h1.1 h2.1).mono ?_
 rintro e w3 ⟨s6, a6, n6, c6, rfl, N6, -, hk⟩
 have k6 : n6 ≤ 64 := by rw [N6.dig.len]; exact gcd_fit h1.1 h2.1 h1.2 h2.2
 have hB := hB.trans (hk.mono hB.size)
 have bA := bA.below hk bA.lt
 have bB := bB.below hk bB.lt
 have bC := bC.below hk
 have h1 := h1.below hk
 have h2 := h2.below hk
 clear hk
 have H6 := Held.new c6 N6 25
 have hk := below_alloc w3 (Obj.cells #[.bool s6, .slice a6 n6 c6] 25)
 have hlt6 := bC.lt
 obtain ⟨W6, hW6⟩ : ∃ W, w3.alloc (Obj.cells #[.bool s6, .slice a6 n6 c6] 25) = W := ⟨_, rfl⟩
 obtain ⟨B6, hB6⟩ : ∃ B, w3.heap.size = B := ⟨_, rfl⟩
 rw [hW6] at hk H6
 have hlt6 : w.heap.size + 1 + 1 < B6 := by rw [← hB6]; exact hlt6
 rw [hB6] at H6
 have hB := hB.trans (hk.mono hB.size)
 have bA := bA.below hk bA.lt
 have bB := bB.below hk bB.lt
 have bC := bC.below hk
 have h1 := h1.below hk
 have h2 := h2.below hk
 clear hk
 have p6 : 0 < n6 := Nat.pos_of_ne_zero fun h => by subst h; exact hG0.out (HGV.out.trans (num_zero H6.num))
 rw [← HGV.out] at H6
 obtain ⟨g0, g1, -, -⟩ := H6.box
 obtain ⟨x0, x1, -, -⟩ := id bA
 obtain ⟨y0, y1, -, -⟩ := id bB
 go_wp2_with fail
 try rw [hW6]
 try rw [hB6]
 clear hW6 hB6 g0 g1
 clear x0 x1 y0 y1
 refine (div_num s1 s6 a1 a6 n1 n6 c1 c6 n G h1.2 k6 W6 h1.1 H6.num p6).mono ?_
 rintro e u1 ⟨q8, q9, s8, a8, n8, c8, s9, a9, n9, c9, rfl, e8, e9, e10, N1, N2, f8, -, k8, k9, hk⟩
 obtain ⟨rfl, rfl⟩ := divs_unique e8 e9 e10 hG0.out
 have f8 : n8 = 0 ∨ ∀ ad, a8 = some ad → ad.block ≠ w.heap.size + 1 + 1 := f8.imp id fun h ad e => Nat.ne_of_gt (Nat.lt_of_lt_of_le bC.lt (h ad e))
 clear e8 e9 e10
 have hB := hB.trans (hk.mono hB.size)
 have bA := bA.below hk bA.lt
 have bB := bB.below hk bB.lt
 have bC := bC.below hk
 have h1 := h1.below hk
 have h2 := h2.below hk
 have H6 := H6.below hk
 clear hk
 obtain ⟨Z8, hZ8⟩ : ∃ Z, (u1.alloc (Obj.cells #[.bool false, .slice none 0 0] 25)).alloc (Obj.cells #[.bool false, .slice none 0 0] 25) = Z := ⟨_, rfl⟩
 obtain ⟨W8, hW8⟩ : ∃ W, (((Z8.setCell ⟨u1.heap.size, 0, none⟩ (.bool s8)).setCell ⟨u1.heap.size, 1, none⟩ (.slice a8 n8 c8)).setCell ⟨u1.heap.size + 1, 0, none⟩ (.bool s9)).setCell ⟨u1.heap.size + 1, 1, none⟩ (.slice a9 n9 c9) = W := ⟨_, rfl⟩
 obtain ⟨H8, H9, hk, bx, by', -⟩ := two_nums (c1 := c8) (c2 := c9) hZ8 hW8 N1 N2
 clear N1 N2
 obtain ⟨B8, hB8⟩ : ∃ B, u1.heap.size = B := ⟨_, rfl⟩
 have hB := hB.trans (hk.mono hB.size)
 have bA := bA.below hk bA.lt
 have bB := bB.below hk bB.lt
 have bC := bC.below hk
 have h1 := h1.below hk
 have h2 := h2.below hk
 have H6 := H6.below hk
 clear hk
 rw [hB8] at hW8 H8 H9 bx by'
 obtain ⟨bx0, bx1, bz0, bz1⟩ := bx
 obtain ⟨by0, by1, by2, by3⟩ := by'
 obtain ⟨g0, g1, -, -⟩ := H6.box
 obtain ⟨x0, x1, -, -⟩ := id bA
 obtain ⟨y0, y1, -, -⟩ := id bB
 go_wp2_with fail
 clear g0 g1
 clear x0 x1 y0 y1
 try rw [hW8]
 try rw [hB8]
 clear hW8 hB8
 clear hZ8
 clear bx0 bx1 bz0 bz1 by0 by1 by2 by3
 refine (div_num false s6 a2 a6 n2 n6 c2 c6 d G h2.2 k6 W8 h2.1 H6.num p6).mono ?_
 rintro e u2 ⟨q11, q12, s11, a11, n11, c11, s12, a12, n12, c12, rfl, e8, e9, e10, N1, N2, f11, -, k11, k12, hk⟩
 obtain ⟨rfl, rfl⟩ := divs_unique e8 e9 e10 hG0.out
 have f11 : n11 = 0 ∨ ∀ ad, a11 = some ad → ad.block ≠ w.heap.size + 1 + 1 := f11.imp id fun h ad e => Nat.ne_of_gt (Nat.lt_of_lt_of_le bC.lt (h ad e))
 clear e8 e9 e10
 have hB := hB.trans (hk.mono hB.size)
 have bA := bA.below hk bA.lt
 have bB := bB.below hk bB.lt
 have bC := bC.below hk
 have h1 := h1.below hk
 have h2 := h2.below hk
 have H6 := H6.below hk
 have H8 := H8.below hk
 have H9 := H9.below hk
 clear hk
 obtain ⟨Z11, hZ11⟩ : ∃ Z, (u2.alloc (Obj.cells #[.bool false, .slice none 0 0] 25)).alloc (Obj.cells #[.bool false, .slice none 0 0] 25) = Z := ⟨_, rfl⟩
 obtain ⟨W11, hW11⟩ : ∃ W, (((Z11.setCell ⟨u2.heap.size, 0, none⟩ (.bool s11)).setCell ⟨u2.heap.size, 1, none⟩ (.slice a11 n11 c11)).setCell ⟨u2.heap.size + 1, 0, none⟩ (.bool s12)).setCell ⟨u2.heap.size + 1, 1, none⟩ (.slice a12 n12 c12) = W := ⟨_, rfl⟩
 obtain ⟨H11, H12, hk, bx, by', -⟩ := two_nums (c1 := c11) (c2 := c12) hZ11 hW11 N1 N2
 clear N1 N2
 obtain ⟨B11, hB11⟩ : ∃ B, u2.heap.size = B := ⟨_, rfl⟩
 have hB := hB.trans (hk.mono hB.size)
 have bA := bA.below hk bA.lt
 have bB := bB.below hk bB.lt
 have bC := bC.below hk
 have h1 := h1.below hk
 have h2 := h2.below hk
 have H6 := H6.below hk
 have H8 := H8.below hk
 have H9 := H9.below hk
 clear hk
 rw [hB11] at hW11 H11 H12 bx by'
 obtain ⟨bx0, bx1, bz0, bz1⟩ := bx
 obtain ⟨by0, by1, by2, by3⟩ := by'
 obtain ⟨Wz, hWz⟩ : ∃ W, (((W11.setCell ⟨w.heap.size + 1 + 1, 0, none⟩ (.bool s8)).setCell ⟨w.heap.size + 1 + 1, 1, none⟩ (.slice a8 n8 c8)).setCell ⟨w.heap.size + 1 + 1, 2, none⟩ (.bool s11)).setCell ⟨w.heap.size + 1 + 1, 3, none⟩ (.slice a11 n11 c11) = W := ⟨_, rfl⟩
 obtain ⟨hQ, hT⟩ := bC.set _ _ _ _ hWz
 have hBz : Below w.heap.size w Wz := by rw [← hWz]; exact (((hB.setCell (p := ⟨w.heap.size + 1 + 1, 0, none⟩) (by show w.heap.size ≤ w.heap.size + 1 + 1; omega) _).setCell (p := ⟨w.heap.size + 1 + 1, 1, none⟩) (by show w.heap.size ≤ w.heap.size + 1 + 1; omega) _).setCell (p := ⟨w.heap.size + 1 + 1, 2, none⟩) (by show w.heap.size ≤ w.heap.size + 1 + 1; omega) _).setCell (p := ⟨w.heap.size + 1 + 1, 3, none⟩) (by show w.heap.size ≤ w.heap.size + 1 + 1; omega) _
 have hN8 := H8.num.touch hT f8
 have hN11 := H11.num.touch hT f11
 have K := hide (And.intro hQ (And.intro hN8 (And.intro hN11 hBz)))
 have HWz := hide hWz
 obtain ⟨⟨r0, r1, r2, r3⟩, z0, z1, z2, z3⟩ := bC
 obtain ⟨g0, g1, -, -⟩ := H8.box
 obtain ⟨g2, g3, -, -⟩ := H11.box
 clear hQ hBz hWz hT hN8 hN11
 go_wp2
 try rw [hW11]
 obtain ⟨⟨⟨q0, q1, q2, q3⟩, -, -, -, -⟩, hN8, hN11, hBB⟩ := K.out
 rw [HWz.out]
 exact bodyPost_ret (v := .tuple #[.agg #[.bool s8, .slice a8 n8 c8, .bool s11, .slice a11 n11 c11], .bool true]) (by simp [results, Tryz.results30, go_sem, q0, q1, q2, q3]) rfl ⟨_, _, _, _, _, _, _, _, rfl, by rw [HGG.out]; exact hN8, by rw [HGG.out]; exact hN11, k8, k11, hBB⟩

set_option maxRecDepth 100000 in
set_option maxHeartbeats 4000000 in
theorem ratOf_neg (s1 : Bool) (a1 a2 : Option Addr) (n1 n2 c1 c2 : Nat) (n d : Int) (hd : d < 0) (w : World) (h1 : Arg w s1 a1 n1 (some n)) (h2 : Arg w true a2 n2 (some d)) :
 Calls Tryz.prog 30 #[.agg #[.bool s1, .slice a1 n1 c1], .agg #[.bool true, .slice a2 n2 c2]] w (RatOut w (n / ofG n d) (d / ofG n d) true) := by
 have h1w := h1
 have h2w := h2
 have HD := hide (show d ≠ 0 by omega)
 have hG0 := hide (ofG_ne (n := n) HD.out)
 obtain ⟨G, hG⟩ : ∃ G, ofG n d = G := ⟨_, rfl⟩
 have HGG := hide hG
 have HGV : Hid (G = -((Int.gcd n d : Nat) : Int)) := hide (by rw [← hG]; unfold ofG; rw [if_pos hd])
 rw [hG] at hG0
 clear hG hd
 go_enter Tryz.func30, Tryz.ntmps30
 go_wp2_with fail
 obtain ⟨W1, hW1⟩ : ∃ W1, (((w.alloc (Obj.cells #[.bool s1, .slice a1 n1 c1] 25)).alloc (Obj.cells #[.bool true, .slice a2 n2 c2] 25)).alloc (Obj.cells #[.bool false, .slice none 0 0, .bool false, .slice none 0 0] 37)).alloc (Obj.cells #[.bool s1, .slice a1 n1 c1, .bool true, .slice a2 n2 c2] 25) = W1 := ⟨_, rfl⟩
 obtain ⟨bA, bB, bC, hF, hB⟩ := of_boxes w _ _ _ _ _ _ hW1
 rw [hW1]
 clear hW1
 have h1 := h1.below hB
 have h2 := h2.below hB
 refine (allRight_two _ s1 true a1 a2 n1 n2 c1 c2 (some n) (some d) W1 hF h1 h2).mono ?_
 rintro e w1 ⟨rfl, hk⟩
 have hB := hB.trans (hk.mono hB.size)
 have bA := bA.below hk bA.lt
 have bB := bB.below hk bB.lt
 have bC := bC.below hk
 have h1 := h1.below hk
 have h2 := h2.below hk
 clear hk
 obtain ⟨x0, x1, -, -⟩ := id bA
 obtain ⟨y0, y1, -, -⟩ := id bB
 go_wp2_with fail
 clear x0 x1 y0 y1
 refine (isZero_any true a2 n2 c2 d h2.2 w1 h2.1).mono ?_
 rintro e w2 ⟨rfl, hk⟩
 have hB := hB.trans (hk.mono hB.size)
 have bA := bA.below hk bA.lt
 have bB := bB.below hk bB.lt
 have bC := bC.below hk
 have h1 := h1.below hk
 have h2 := h2.below hk
 clear hk
 rw [decide_eq_false HD.out]
 obtain ⟨x0, x1, -, -⟩ := id bA
 obtain ⟨y0, y1, -, -⟩ := id bB
 go_wp2_with fail
 clear x0 x1 y0 y1
 refine (gcd_num s1 true a1 a2 n1 n2 c1 c2 n d h1.2 h2.2 w2 h1.1 h2.1).mono ?_
 rintro e w3 ⟨s6, a6, n6, c6, rfl, N6, -, hk⟩
 have k6 : n6 ≤ 64 := by rw [N6.dig.len]; exact gcd_fit h1.1 h2.1 h1.2 h2.2
 have hB := hB.trans (hk.mono hB.size)
 have bA := bA.below hk bA.lt
 have bB := bB.below hk bB.lt
 have bC := bC.below hk
 have h1 := h1.below hk
 have h2 := h2.below hk
 clear hk
 have H6 := Held.new c6 N6 25
 have hk := below_alloc w3 (Obj.cells #[.bool s6, .slice a6 n6 c6] 25)
 have hlt6 := bC.lt
 obtain ⟨W6, hW6⟩ : ∃ W, w3.alloc (Obj.cells #[.bool s6, .slice a6 n6 c6] 25) = W := ⟨_, rfl⟩
 obtain ⟨B6, hB6⟩ : ∃ B, w3.heap.size = B := ⟨_, rfl⟩
 rw [hW6] at hk H6
 have hlt6 : w.heap.size + 1 + 1 < B6 := by rw [← hB6]; exact hlt6
 rw [hB6] at H6
 have hB := hB.trans (hk.mono hB.size)
 have bA := bA.below hk bA.lt
 have bB := bB.below hk bB.lt
 have bC := bC.below hk
 have h1 := h1.below hk
 have h2 := h2.below hk
 clear hk
 obtain ⟨g0, g1, gz0, gz1⟩ := H6.box
 obtain ⟨x0, x1, -, -⟩ := id bA
 obtain ⟨y0, y1, -, -⟩ := id bB
 go_wp2_with fail
 try rw [hW6]
 try rw [hB6]
 clear hW6 hB6 g0 g1 gz0 gz1
 clear x0 x1 y0 y1
 refine (opposite_any s6 a6 n6 c6 _ k6 W6 H6.num).mono ?_
 rintro e u0 ⟨s7, a7, n7, c7, rfl, N7, k7, f7, hk⟩
 have f7 : n7 = 0 ∨ ∀ ad, a7 = some ad → ad.block ≠ B6 := f7.imp id fun h ad e => Nat.ne_of_gt (Nat.lt_of_lt_of_le H6.box.lt (h ad e))
 have hB := hB.trans (hk.mono hB.size)
 have bA := bA.below hk bA.lt
 have bB := bB.below hk bB.lt
 have bC := bC.below hk
 have h1 := h1.below hk
 have h2 := h2.below hk
 have H6 := H6.below hk
 clear hk
 obtain ⟨W7, hW7⟩ : ∃ W, (u0.setCell ⟨B6, 0, none⟩ (.bool s7)).setCell ⟨B6, 1, none⟩ (.slice a7 n7 c7) = W := ⟨_, rfl⟩
 have b7 := H6.box.set (.bool s7) (.slice a7 n7 c7)
 have M7 := N7.set2 H6.box (.bool s7) (.slice a7 n7 c7) f7
 have hk7 : Below B6 u0 W7 := by rw [← hW7]; exact below_set2 (Below.refl _ _) (Nat.le_refl _) _ _
 have hB7 : Below w.heap.size w W7 := by rw [← hW7]; exact below_set2 hB (by omega) _ _
 rw [hW7] at b7 M7
 rw [← HGV.out] at M7
 have H7 : Held W7 B6 s7 a7 n7 c7 G := ⟨b7, M7⟩
 have p7 : 0 < n7 := Nat.pos_of_ne_zero fun h => by subst h; exact hG0.out (num_zero M7)
 obtain ⟨g0, g1, gz0, gz1⟩ := H6.box
 have bA := bA.below hk7 (by omega)
 have bB := bB.below hk7 (by omega)
 have bC := bC.under hk7 hlt6
 have h1 := h1w.below hB7
 have h2 := h2w.below hB7
 have hB := hB7
 clear b7 M7 hk7 hB7 H6 N7 f7
 obtain ⟨e0, e1, -, -⟩ := H7.box
 obtain ⟨x0, x1, -, -⟩ := id bA
 obtain ⟨y0, y1, -, -⟩ := id bB
 go_wp2_with fail
 try rw [hW7]
 clear hW7 g0 g1 gz0 gz1 e0 e1
 clear x0 x1 y0 y1
 refine (div_num s1 s7 a1 a7 n1 n7 c1 c7 n G h1.2 k7 W7 h1.1 H7.num p7).mono ?_
 rintro e u1 ⟨q8, q9, s8, a8, n8, c8, s9, a9, n9, c9, rfl, e8, e9, e10, N1, N2, f8, -, k8, k9, hk⟩
 obtain ⟨rfl, rfl⟩ := divs_unique e8 e9 e10 hG0.out
 have f8 : n8 = 0 ∨ ∀ ad, a8 = some ad → ad.block ≠ w.heap.size + 1 + 1 := f8.imp id fun h ad e => Nat.ne_of_gt (Nat.lt_of_lt_of_le bC.lt (h ad e))
 clear e8 e9 e10
 have hB := hB.trans (hk.mono hB.size)
 have bA := bA.below hk bA.lt
 have bB := bB.below hk bB.lt
 have bC := bC.below hk
 have h1 := h1.below hk
 have h2 := h2.below hk
 have H7 := H7.below hk
 clear hk
 obtain ⟨Z8, hZ8⟩ : ∃ Z, (u1.alloc (Obj.cells #[.bool false, .slice none 0 0] 25)).alloc (Obj.cells #[.bool false, .slice none 0 0] 25) = Z := ⟨_, rfl⟩
 obtain ⟨W8, hW8⟩ : ∃ W, (((Z8.setCell ⟨u1.heap.size, 0, none⟩ (.bool s8)).setCell ⟨u1.heap.size, 1, none⟩ (.slice a8 n8 c8)).setCell ⟨u1.heap.size + 1, 0, none⟩ (.bool s9)).setCell ⟨u1.heap.size + 1, 1, none⟩ (.slice a9 n9 c9) = W := ⟨_, rfl⟩
 obtain ⟨H8, H9, hk, bx, by', -⟩ := two_nums (c1 := c8) (c2 := c9) hZ8 hW8 N1 N2
 clear N1 N2
 obtain ⟨B8, hB8⟩ : ∃ B, u1.heap.size = B := ⟨_, rfl⟩
 have hB := hB.trans (hk.mono hB.size)
 have bA := bA.below hk bA.lt
 have bB := bB.below hk bB.lt
 have bC := bC.below hk
 have h1 := h1.below hk
 have h2 := h2.below hk
 have H7 := H7.below hk
 clear hk
 rw [hB8] at hW8 H8 H9 bx by'
 obtain ⟨bx0, bx1, bz0, bz1⟩ := bx
 obtain ⟨by0, by1, by2, by3⟩ := by'
 obtain ⟨g0, g1, -, -⟩ := H7.box
 obtain ⟨x0, x1, -, -⟩ := id bA
 obtain ⟨y0, y1, -, -⟩ := id bB
 go_wp2_with fail
 clear g0 g1
 clear x0 x1 y0 y1
 try rw [hW8]
 try rw [hB8]
 clear hW8 hB8
 clear hZ8
 clear bx0 bx1 bz0 bz1 by0 by1 by2 by3
 refine (div_num true s7 a2 a7 n2 n7 c2 c7 d G h2.2 k7 W8 h2.1 H7.num p7).mono ?_
 rintro e u2 ⟨q11, q12, s11, a11, n11, c11, s12, a12, n12, c12, rfl, e8, e9, e10, N1, N2, f11, -, k11, k12, hk⟩
 obtain ⟨rfl, rfl⟩ := divs_unique e8 e9 e10 hG0.out
 have f11 : n11 = 0 ∨ ∀ ad, a11 = some ad → ad.block ≠ w.heap.size + 1 + 1 := f11.imp id fun h ad e => Nat.ne_of_gt (Nat.lt_of_lt_of_le bC.lt (h ad e))
 clear e8 e9 e10
 have hB := hB.trans (hk.mono hB.size)
 have bA := bA.below hk bA.lt
 have bB := bB.below hk bB.lt
 have bC := bC.below hk
 have h1 := h1.below hk
 have h2 := h2.below hk
 have H7 := H7.below hk
 have H8 := H8.below hk
 have H9 := H9.below hk
 clear hk
 obtain ⟨Z11, hZ11⟩ : ∃ Z, (u2.alloc (Obj.cells #[.bool false, .slice none 0 0] 25)).alloc (Obj.cells #[.bool false, .slice none 0 0] 25) = Z := ⟨_, rfl⟩
 obtain ⟨W11, hW11⟩ : ∃ W, (((Z11.setCell ⟨u2.heap.size, 0, none⟩ (.bool s11)).setCell ⟨u2.heap.size, 1, none⟩ (.slice a11 n11 c11)).setCell ⟨u2.heap.size + 1, 0, none⟩ (.bool s12)).setCell ⟨u2.heap.size + 1, 1, none⟩ (.slice a12 n12 c12) = W := ⟨_, rfl⟩
 obtain ⟨H11, H12, hk, bx, by', -⟩ := two_nums (c1 := c11) (c2 := c12) hZ11 hW11 N1 N2
 clear N1 N2
 obtain ⟨B11, hB11⟩ : ∃ B, u2.heap.size = B := ⟨_, rfl⟩
 have hB := hB.trans (hk.mono hB.size)
 have bA := bA.below hk bA.lt
 have bB := bB.below hk bB.lt
 have bC := bC.below hk
 have h1 := h1.below hk
 have h2 := h2.below hk
 have H7 := H7.below hk
 have H8 := H8.below hk
 have H9 := H9.below hk
 clear hk
 rw [hB11] at hW11 H11 H12 bx by'
 obtain ⟨bx0, bx1, bz0, bz1⟩ := bx
 obtain ⟨by0, by1, by2, by3⟩ := by'
 obtain ⟨Wz, hWz⟩ : ∃ W, (((W11.setCell ⟨w.heap.size + 1 + 1, 0, none⟩ (.bool s8)).setCell ⟨w.heap.size + 1 + 1, 1, none⟩ (.slice a8 n8 c8)).setCell ⟨w.heap.size + 1 + 1, 2, none⟩ (.bool s11)).setCell ⟨w.heap.size + 1 + 1, 3, none⟩ (.slice a11 n11 c11) = W := ⟨_, rfl⟩
 obtain ⟨hQ, hT⟩ := bC.set _ _ _ _ hWz
 have hBz : Below w.heap.size w Wz := by rw [← hWz]; exact (((hB.setCell (p := ⟨w.heap.size + 1 + 1, 0, none⟩) (by show w.heap.size ≤ w.heap.size + 1 + 1; omega) _).setCell (p := ⟨w.heap.size + 1 + 1, 1, none⟩) (by show w.heap.size ≤ w.heap.size + 1 + 1; omega) _).setCell (p := ⟨w.heap.size + 1 + 1, 2, none⟩) (by show w.heap.size ≤ w.heap.size + 1 + 1; omega) _).setCell (p := ⟨w.heap.size + 1 + 1, 3, none⟩) (by show w.heap.size ≤ w.heap.size + 1 + 1; omega) _
 have hN8 := H8.num.touch hT f8
 have hN11 := H11.num.touch hT f11
 have K := hide (And.intro hQ (And.intro hN8 (And.intro hN11 hBz)))
 have HWz := hide hWz
 obtain ⟨⟨r0, r1, r2, r3⟩, z0, z1, z2, z3⟩ := bC
 obtain ⟨g0, g1, -, -⟩ := H8.box
 obtain ⟨g2, g3, -, -⟩ := H11.box
 clear hQ hBz hWz hT hN8 hN11
 go_wp2
 try rw [hW11]
 obtain ⟨⟨⟨q0, q1, q2, q3⟩, -, -, -, -⟩, hN8, hN11, hBB⟩ := K.out
 rw [HWz.out]
 exact bodyPost_ret (v := .tuple #[.agg #[.bool s8, .slice a8 n8 c8, .bool s11, .slice a11 n11 c11], .bool true]) (by simp [results, Tryz.results30, go_sem, q0, q1, q2, q3]) rfl ⟨_, _, _, _, _, _, _, _, rfl, by rw [HGG.out]; exact hN8, by rw [HGG.out]; exact hN11, k8, k11, hBB⟩

def ofN : Option Int → Option Int → Int
 | some n, some d => if d = 0 then 0 else n / ofG n d
 | _, _ => 0
def ofD : Option Int → Option Int → Int
 | some n, some d => if d = 0 then 0 else d / ofG n d
 | _, _ => 0
theorem ratOf_any (s1 s2 : Bool) (a1 a2 : Option Addr) (n1 n2 c1 c2 : Nat) (o1 o2 : Option Int) (w : World) (h1 : Arg w s1 a1 n1 o1) (h2 : Arg w s2 a2 n2 o2) :
 Calls Tryz.prog 30 #[.agg #[.bool s1, .slice a1 n1 c1], .agg #[.bool s2, .slice a2 n2 c2]] w (RatOut w (ofN o1 o2) (ofD o1 o2) (kO o1 o2)) := by
 cases o1 with
 | none => exact ratOf_no s1 s2 a1 a2 n1 n2 c1 c2 none o2 w rfl h1 h2
 | some n =>
   cases o2 with
   | none => exact ratOf_no s1 s2 a1 a2 n1 n2 c1 c2 (some n) none w rfl h1 h2
   | some d =>
     by_cases hd : d = 0
     · subst hd
       exact ratOf_zero s1 s2 a1 a2 n1 n2 c1 c2 n w h1 h2
     · rw [show ofN (some n) (some d) = n / ofG n d from if_neg hd, show ofD (some n) (some d) = d / ofG n d from if_neg hd, show kO (some n) (some d) = true from decide_eq_true hd]
       have hs := h2.1.sign
       by_cases h : d < 0
       · obtain rfl : s2 = true := hs.trans (decide_eq_true h)
         exact ratOf_neg s1 a1 a2 n1 n2 c1 c2 n d h w h1 h2
       · obtain rfl : s2 = false := hs.trans (decide_eq_false h)
         exact ratOf_pos s1 a1 a2 n1 n2 c1 c2 n d (by omega) w h1 h2
end Go.Proofs.YtgenaicmjddjcaaGreatDoor
