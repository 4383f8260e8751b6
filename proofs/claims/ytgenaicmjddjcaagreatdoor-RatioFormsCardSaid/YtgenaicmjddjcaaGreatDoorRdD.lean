/- The reference's Div. -/
import Derived.Test.YtgenaicmjddjcaaGreatDoorRdC
import Derived.Test.YtgenaicmjddjcaaGreatDoorRdE
import Derived.Test.YtgenaicmjddjcaaGreatDoorPNumD
namespace Go.Proofs.YtgenaicmjddjcaaGreatDoor
open Go.RowKit Go.Shelf

theorem rsigned_isd (neg : Bool) (a : Option Addr) (n c v : Nat) (hcap : n ≤ c) (hn : n ≤ 64) (w : World) (hd : IsD w a n v) :
 Calls Tryz.prog 60 #[.bool neg, .slice a n c] w (NumPost w (signed neg v)) := by
 have hv : valF (dgt v) n = v := by rw [hd.len, valF_dlen]
 have := rsigned_any neg a n c (dgt v) (by omega) hcap (fun _ _ => dgt_lt _ _) w hd.dig (by rw [hv, ← hd.len]; exact hn)
 rw [hv] at this; exact this
theorem one_num (w : World) : IsD (w.alloc (Obj.cells #[.int .u32 1] 68)) (some ⟨w.heap.size, 0, none⟩) 1 1 :=
 ⟨(dlen_one (by decide) (by decide)).symm, .inr ⟨_, _, rfl, fun j hj => by match j, hj with | 0, _ => simp [go_sem, dgt, bp_zero]⟩⟩
theorem adj_len {x y n : Nat} (hn : n = dlen (x / y + 1)) (hm : x % y ≠ 0) (hy : y ≠ 0) (hx : dlen x ≤ 64) : n ≤ 64 := by
 rw [hn]
 refine Nat.le_trans (dlen_mono (b := x) ?_) hx
 have h1 := Nat.div_add_mod x y
 have h2 : 2 * (x / y) ≤ y * (x / y) := Nat.mul_le_mul_right _ (by
  rcases Nat.lt_or_ge y 2 with h | h
  · rw [show y = 1 by omega, Nat.mod_one] at hm; exact absurd rfl hm
  · exact h)
 omega
theorem four_boxes (w : World) (u0 u1 v0 v1 : Value) (t : TypeId) {W0 : World} (hW : (((w.alloc (Obj.cells #[u0, u1] t)).alloc (Obj.cells #[v0, v1] t)).alloc (Obj.cells #[.bool false, .slice none 0 0] t)).alloc (Obj.cells #[.bool false, .slice none 0 0] t) = W0) :
 Box2 W0 w.heap.size u0 u1 ∧ Box2 W0 (w.heap.size + 1) v0 v1 ∧ Box2 W0 (w.heap.size + 1 + 1) (.bool false) (.slice none 0 0) ∧ Box2 W0 (w.heap.size + 1 + 1 + 1) (.bool false) (.slice none 0 0) ∧ Below w.heap.size w W0 := by
 subst hW
 refine ⟨(((Box2.new w _ _ _).alloc _).alloc _).alloc _, ?_, ?_, ?_, ((((Below.refl _ w).alloc (Nat.le_refl _) _).alloc (by simp) _).alloc (by simp; omega) _).alloc (by simp; omega) _⟩
 · have := ((Box2.new (w.alloc (Obj.cells #[u0, u1] t)) v0 v1 t).alloc (Obj.cells #[.bool false, .slice none 0 0] t)).alloc (Obj.cells #[.bool false, .slice none 0 0] t)
   rw [World.size_alloc] at this; exact this
 · have := (Box2.new ((w.alloc (Obj.cells #[u0, u1] t)).alloc (Obj.cells #[v0, v1] t)) (.bool false) (.slice none 0 0) t).alloc (Obj.cells #[.bool false, .slice none 0 0] t)
   rw [World.size_alloc, World.size_alloc] at this; exact this
 · have := Box2.new (((w.alloc (Obj.cells #[u0, u1] t)).alloc (Obj.cells #[v0, v1] t)).alloc (Obj.cells #[.bool false, .slice none 0 0] t)) (.bool false) (.slice none 0 0) t
   rw [World.size_alloc, World.size_alloc, World.size_alloc] at this; exact this

theorem rsigned_isc (neg : Bool) (a : Option Addr) (n c v : Nat) (hcap : n ≤ c) (hn : n ≤ 64) (w : World) (hd : IsD w a n v) :
 Calls Tryz.prog 60 #[.bool neg, .slice a n c] w (CapPost w (signed neg v)) := by
 have hv : valF (dgt v) n = v := by rw [hd.len, valF_dlen]
 have := rsigned_cap neg a n c (dgt v) (by omega) hcap (fun _ _ => dgt_lt _ _) w hd.dig (by rw [hv, ← hd.len]; exact hn)
 rw [hv] at this; exact this
def DivsC (w : World) (za zb : Int) (e : Ending) (w' : World) : Prop :=
 ∃ (q r : Int) (s1 : Bool) (a1 : Option Addr) (n1 c1 : Nat) (s2 : Bool) (a2 : Option Addr) (n2 c2 : Nat), e = .returned (.tuple #[.agg #[.bool s1, .slice a1 n1 c1], .agg #[.bool s2, .slice a2 n2 c2], .bool true]) ∧
  za = q * zb + r ∧ 0 ≤ r ∧ r < zb.natAbs ∧ IsN w' s1 a1 n1 q ∧ IsN w' s2 a2 n2 r ∧ n1 ≤ 64 ∧ n2 ≤ 64 ∧ Below w.heap.size w w' ∧ n1 ≤ c1 ∧ n2 ≤ c2
set_option maxRecDepth 100000 in
set_option maxHeartbeats 4000000 in
theorem rdivc_pos (sb : Bool) (aa ab : Option Addr) (na nb ca cb : Nat) (za zb : Int) (hna : na ≤ 64) (hnb : nb ≤ 64) (hca : na ≤ ca) (w : World) (ha : IsN w false aa na za) (hb : IsN w sb ab nb zb) (hb0 : 0 < nb) :
 Calls Tryz.prog 99 #[.agg #[.bool false, .slice aa na ca], .agg #[.bool sb, .slice ab nb cb]] w (DivsC w za zb) := by
 have hbe : ((nb : Int) == 0) = false := by simp; omega
 have hy0 : zb.natAbs ≠ 0 := fun e => by have := hb.dig.len; rw [e, dlen_zero] at this; omega
 have HY0 := hide hy0
 clear hy0
 go_enter Tryz.func99, Tryz.ntmps99
 go_wp2_with fail
 obtain ⟨W0, hW0⟩ : ∃ W0, (((w.alloc (Obj.cells #[.bool false, .slice aa na ca] 25)).alloc (Obj.cells #[.bool sb, .slice ab nb cb] 25)).alloc (Obj.cells #[.bool false, .slice none 0 0] 25)).alloc (Obj.cells #[.bool false, .slice none 0 0] 25) = W0 := ⟨_, rfl⟩
 obtain ⟨bA, bB, bC, bD, hB⟩ := four_boxes w _ _ _ _ _ hW0
 rw [hW0]
 clear hW0
 refine (rright_yes false aa na ca za hna _ (ha.below hB)).mono ?_
 rintro e w1 ⟨rfl, hk⟩
 have hB := hB.trans (hk.mono hB.size)
 have bA := bA.below hk bA.lt
 have bB := bB.below hk bB.lt
 have bC := bC.below hk bC.lt
 have bD := bD.below hk bD.lt
 clear hk
 obtain ⟨a0, a1, -, -⟩ := id bA
 obtain ⟨b0, b1, -, -⟩ := id bB
 go_wp2_with fail
 clear a0 a1 b0 b1
 refine (rright_yes sb ab nb cb zb hnb _ (hb.below hB)).mono ?_
 rintro e w2 ⟨rfl, hk⟩
 have hB := hB.trans (hk.mono hB.size)
 have bA := bA.below hk bA.lt
 have bB := bB.below hk bB.lt
 have bC := bC.below hk bC.lt
 have bD := bD.below hk bD.lt
 clear hk
 obtain ⟨a0, a1, -, -⟩ := id bA
 obtain ⟨b0, b1, -, -⟩ := id bB
 go_wp2_with fail
 clear a0 a1 b0 b1
 refine (rdivide_any aa ab za.natAbs zb.natAbs na nb ca cb (by omega) (by omega) hca w2 (ha.dig.below hB) (hb.dig.below hB) (Nat.pos_of_ne_zero HY0.out)).mono ?_
 rintro e w3 ⟨aq, nq, cq, ar, nr, cr, rfl, hq, hr, hcq, hcr, hk⟩
 have hB := hB.trans (hk.mono hB.size)
 have bA := bA.below hk bA.lt
 have bB := bB.below hk bB.lt
 have bC := bC.below hk bC.lt
 have bD := bD.below hk bD.lt
 clear hk
 obtain ⟨a0, a1, -, -⟩ := id bA
 obtain ⟨b0, b1, -, -⟩ := id bB
 go_wp2_with fail
 have hq64 : nq ≤ 64 := by rw [hq.len]; refine Nat.le_trans (dlen_mono (Nat.div_le_self _ _)) ?_; rw [← ha.dig.len]; exact hna
 have hr64 : nr ≤ 64 := by rw [hr.len]; refine Nat.le_trans (dlen_mono (Nat.mod_le _ _)) ?_; rw [← ha.dig.len]; exact hna
 clear a0 a1 b0 b1
 refine (rsigned_isc sb aq nq cq _ hcq hq64 _ hq).mono ?_
 rintro e w6 ⟨s9, a9, n9, c9, rfl, N9, f9, hk, lc9⟩
 have hC5 := bC.lt
 have hD5 := bD.lt
 have hW6 : w.heap.size ≤ w3.heap.size := hB.size
 have hB := hB.trans (hk.mono hB.size)
 have bA := bA.below hk bA.lt
 have bB := bB.below hk bB.lt
 have bC := bC.below hk bC.lt
 have bD := bD.below hk bD.lt
 have hr := hr.below hk
 have hg9 := hk.size
 have hk := below_alloc' w6 (Obj.cells #[.bool s9, .slice a9 n9 c9] 25)
 have b9 := Box2.new w6 (.bool s9) (.slice a9 n9 c9) 25
 obtain ⟨W6, hW6'⟩ : ∃ W, w6.alloc (Obj.cells #[.bool s9, .slice a9 n9 c9] 25) = W := ⟨_, rfl⟩
 rw [hW6'] at hk b9
 have hB := hB.trans (hk.mono hB.size)
 have bA := bA.below hk bA.lt
 have bB := bB.below hk bB.lt
 have bC := bC.below hk bC.lt
 have bD := bD.below hk bD.lt
 have hr := hr.below hk
 have N9 := N9.below hk
 clear hk
 have hC6 := bC.lt
 have hD6 := bD.lt
 go_wp2_with fail
 try rw [hW6']
 clear hW6'
 refine (rsigned_isc false ar nr cr _ hcr hr64 _ hr).mono ?_
 rintro e w7 ⟨s11, a11, n11, c11, rfl, N11, f11, hk, lc11⟩
 have hB := hB.trans (hk.mono hB.size)
 have bA := bA.below hk bA.lt
 have bB := bB.below hk bB.lt
 have bC := bC.below hk bC.lt
 have bD := bD.below hk bD.lt
 have hg11 := b9.lt
 have N9 := N9.below hk
 have b9 := b9.below hk b9.lt
 clear hk hr
 have hk := below_alloc' w7 (Obj.cells #[.bool s11, .slice a11 n11 c11] 25)
 have b11 := Box2.new w7 (.bool s11) (.slice a11 n11 c11) 25
 have hlt7 := b9.lt
 obtain ⟨W7, hW7⟩ : ∃ W, w7.alloc (Obj.cells #[.bool s11, .slice a11 n11 c11] 25) = W := ⟨_, rfl⟩
 rw [hW7] at hk b11
 have hC7 := bC.lt
 have hD7 := bD.lt
 have hB := hB.trans (hk.mono hB.size)
 have bA := bA.below hk bA.lt
 have bB := bB.below hk bB.lt
 have bC := bC.below hk bC.lt
 have bD := bD.below hk bD.lt
 have N9 := N9.below hk
 have N11 := N11.below hk
 have b9 := b9.below hk b9.lt
 clear hk
 go_wp2_with fail
 try rw [hW7]
 clear hW7
 have hne1 : w.heap.size + 1 + 1 ≠ w6.heap.size := by have := hg9; omega
 have hne2 : w.heap.size + 1 + 1 ≠ w7.heap.size := by omega
 have hne3 : w.heap.size + 1 + 1 + 1 ≠ w6.heap.size := by have := hg9; omega
 have hne4 : w.heap.size + 1 + 1 + 1 ≠ w7.heap.size := by omega
 have bCk := bC
 have bDk := bD
 obtain ⟨r0, r1, -, -⟩ := b11
 obtain ⟨q0, q1, -, -⟩ := b9
 obtain ⟨c0, c1, cf0, cf1⟩ := bC
 obtain ⟨d0, d1, df0, df1⟩ := bD
 go_region
 clear r0 r1 q0 q1 c0 c1 cf0 cf1 d0 d1 df0 df1 hne1 hne2 hne3 hne4
 have hf9 : ∀ B, B < w3.heap.size → (n9 = 0 ∨ ∀ ad, a9 = some ad → ad.block ≠ B) := fun B hB => f9.imp id fun h ad e => by have := h ad e; omega
 have hf11 : ∀ B, B < W6.heap.size → (n11 = 0 ∨ ∀ ad, a11 = some ad → ad.block ≠ B) := fun B hB => f11.imp id fun h ad e => by have := h ad e; omega
 have kC := bCk.set (.bool s9) (.slice a9 n9 c9)
 have kD := bDk.other (.bool s9) (.slice a9 n9 c9) (C := w.heap.size + 1 + 1 + 1) (B := w.heap.size + 1 + 1) (by omega)
 have kQ := (N9.set2 bCk (.bool s9) (.slice a9 n9 c9) (hf9 _ (by omega))).set2 kD (.bool s11) (.slice a11 n11 c11) (hf9 _ (by omega))
 have kR := (N11.set2 bCk (.bool s9) (.slice a9 n9 c9) (hf11 _ (by omega))).set2 kD (.bool s11) (.slice a11 n11 c11) (hf11 _ (by omega))
 have kB := below_set2 (below_set2 hB (B := w.heap.size + 1 + 1) (by omega) (.bool s9) (.slice a9 n9 c9)) (B := w.heap.size + 1 + 1 + 1) (by omega) (.bool s11) (.slice a11 n11 c11)
 have kC2 := kC.other (.bool s11) (.slice a11 n11 c11) (C := w.heap.size + 1 + 1) (B := w.heap.size + 1 + 1 + 1) (by omega)
 have kD2 := kD.set (.bool s11) (.slice a11 n11 c11)
 obtain ⟨W8, hW8⟩ : ∃ W8, (((W7.setCell ⟨w.heap.size + 1 + 1, 0, none⟩ (.bool s9)).setCell ⟨w.heap.size + 1 + 1, 1, none⟩ (.slice a9 n9 c9)).setCell ⟨w.heap.size + 1 + 1 + 1, 0, none⟩ (.bool s11)).setCell ⟨w.heap.size + 1 + 1 + 1, 1, none⟩ (.slice a11 n11 c11) = W8 := ⟨_, rfl⟩
 rw [hW8] at kQ kR kB kC2 kD2 ⊢
 clear hW8 kC kD
 have kd := Below.drew (Below.refl W8.heap.size W8)
 have fQ := kQ.below kd
 have fR := kR.below kd
 have fB := kB.trans (kd.mono kB.size)
 obtain ⟨q0, q1, -, -⟩ := kC2.below kd kC2.lt
 obtain ⟨r0, r1, -, -⟩ := kD2.below kd kD2.lt
 clear kd kC2 kD2
 go_wp2
 refine bodyPost_ret (v := .tuple #[.agg #[.bool s9, .slice a9 n9 c9], .agg #[.bool s11, .slice a11 n11 c11], .bool true]) (by simp [results, Tryz.results99, go_sem, q0, q1, r0, r1]) rfl ?_
 refine ⟨_, _, _, _, _, _, _, _, _, _, rfl, ?_, ?_, ?_, fQ, fR, ?_, ?_, fB, lc9, lc11⟩
 · have e := divs_plain false sb za.natAbs zb.natAbs (.inl rfl)
   rw [← ha.signed_eq, ← hb.signed_eq] at e
   simpa [signed] using e
 · simp [signed]; omega
 · have := Nat.mod_lt za.natAbs (Nat.pos_of_ne_zero HY0.out)
   simp only [signed]; simp only [Bool.false_eq_true, if_false]; omega
 · rw [N9.dig.len, signed_abs, ← hq.len]; exact hq64
 · rw [N11.dig.len, signed_abs, ← hr.len]; exact hr64


set_option maxRecDepth 100000 in
set_option maxHeartbeats 4000000 in
theorem rdivc_exact (sb : Bool) (aa ab : Option Addr) (na nb ca cb : Nat) (za zb : Int) (hna : na ≤ 64) (hnb : nb ≤ 64) (hca : na ≤ ca) (w : World) (ha : IsN w true aa na za) (hb : IsN w sb ab nb zb) (hb0 : 0 < nb) (hmod : za.natAbs % zb.natAbs = 0) :
 Calls Tryz.prog 99 #[.agg #[.bool true, .slice aa na ca], .agg #[.bool sb, .slice ab nb cb]] w (DivsC w za zb) := by
 have hbe : ((nb : Int) == 0) = false := by simp; omega
 have hy0 : zb.natAbs ≠ 0 := fun e => by have := hb.dig.len; rw [e, dlen_zero] at this; omega
 have HY0 := hide hy0
 clear hy0
 go_enter Tryz.func99, Tryz.ntmps99
 go_wp2_with fail
 obtain ⟨W0, hW0⟩ : ∃ W0, (((w.alloc (Obj.cells #[.bool true, .slice aa na ca] 25)).alloc (Obj.cells #[.bool sb, .slice ab nb cb] 25)).alloc (Obj.cells #[.bool false, .slice none 0 0] 25)).alloc (Obj.cells #[.bool false, .slice none 0 0] 25) = W0 := ⟨_, rfl⟩
 obtain ⟨bA, bB, bC, bD, hB⟩ := four_boxes w _ _ _ _ _ hW0
 rw [hW0]
 clear hW0
 refine (rright_yes true aa na ca za hna _ (ha.below hB)).mono ?_
 rintro e w1 ⟨rfl, hk⟩
 have hB := hB.trans (hk.mono hB.size)
 have bA := bA.below hk bA.lt
 have bB := bB.below hk bB.lt
 have bC := bC.below hk bC.lt
 have bD := bD.below hk bD.lt
 clear hk
 obtain ⟨a0, a1, -, -⟩ := id bA
 obtain ⟨b0, b1, -, -⟩ := id bB
 go_wp2_with fail
 clear a0 a1 b0 b1
 refine (rright_yes sb ab nb cb zb hnb _ (hb.below hB)).mono ?_
 rintro e w2 ⟨rfl, hk⟩
 have hB := hB.trans (hk.mono hB.size)
 have bA := bA.below hk bA.lt
 have bB := bB.below hk bB.lt
 have bC := bC.below hk bC.lt
 have bD := bD.below hk bD.lt
 clear hk
 obtain ⟨a0, a1, -, -⟩ := id bA
 obtain ⟨b0, b1, -, -⟩ := id bB
 go_wp2_with fail
 clear a0 a1 b0 b1
 refine (rdivide_any aa ab za.natAbs zb.natAbs na nb ca cb (by omega) (by omega) hca w2 (ha.dig.below hB) (hb.dig.below hB) (Nat.pos_of_ne_zero HY0.out)).mono ?_
 rintro e w3 ⟨aq, nq, cq, ar, nr, cr, rfl, hq, hr, hcq, hcr, hk⟩
 have hB := hB.trans (hk.mono hB.size)
 have bA := bA.below hk bA.lt
 have bB := bB.below hk bB.lt
 have bC := bC.below hk bC.lt
 have bD := bD.below hk bD.lt
 clear hk
 have hnr0 : nr = 0 := by rw [hr.len, hmod, dlen_zero]
 subst hnr0
 obtain ⟨a0, a1, -, -⟩ := id bA
 obtain ⟨b0, b1, -, -⟩ := id bB
 go_wp2_with fail
 have hq64 : nq ≤ 64 := by rw [hq.len]; refine Nat.le_trans (dlen_mono (Nat.div_le_self _ _)) ?_; rw [← ha.dig.len]; exact hna
 have hr64 : 0 ≤ 64 := by decide
 clear a0 a1 b0 b1
 refine (rsigned_isc (!sb) aq nq cq _ hcq hq64 _ hq).mono ?_
 rintro e w6 ⟨s9, a9, n9, c9, rfl, N9, f9, hk, lc9⟩
 have hC5 := bC.lt
 have hD5 := bD.lt
 have hW6 : w.heap.size ≤ w3.heap.size := hB.size
 have hB := hB.trans (hk.mono hB.size)
 have bA := bA.below hk bA.lt
 have bB := bB.below hk bB.lt
 have bC := bC.below hk bC.lt
 have bD := bD.below hk bD.lt
 have hr := hr.below hk
 have hg9 := hk.size
 have hk := below_alloc' w6 (Obj.cells #[.bool s9, .slice a9 n9 c9] 25)
 have b9 := Box2.new w6 (.bool s9) (.slice a9 n9 c9) 25
 obtain ⟨W6, hW6'⟩ : ∃ W, w6.alloc (Obj.cells #[.bool s9, .slice a9 n9 c9] 25) = W := ⟨_, rfl⟩
 rw [hW6'] at hk b9
 have hB := hB.trans (hk.mono hB.size)
 have bA := bA.below hk bA.lt
 have bB := bB.below hk bB.lt
 have bC := bC.below hk bC.lt
 have bD := bD.below hk bD.lt
 have hr := hr.below hk
 have N9 := N9.below hk
 clear hk
 have hC6 := bC.lt
 have hD6 := bD.lt
 go_wp2_with fail
 try rw [hW6']
 clear hW6'
 refine (rsigned_isc false ar 0 cr _ hcr hr64 _ hr).mono ?_
 rintro e w7 ⟨s11, a11, n11, c11, rfl, N11, f11, hk, lc11⟩
 have hB := hB.trans (hk.mono hB.size)
 have bA := bA.below hk bA.lt
 have bB := bB.below hk bB.lt
 have bC := bC.below hk bC.lt
 have bD := bD.below hk bD.lt
 have hg11 := b9.lt
 have N9 := N9.below hk
 have b9 := b9.below hk b9.lt
 clear hk hr
 have hk := below_alloc' w7 (Obj.cells #[.bool s11, .slice a11 n11 c11] 25)
 have b11 := Box2.new w7 (.bool s11) (.slice a11 n11 c11) 25
 have hlt7 := b9.lt
 obtain ⟨W7, hW7⟩ : ∃ W, w7.alloc (Obj.cells #[.bool s11, .slice a11 n11 c11] 25) = W := ⟨_, rfl⟩
 rw [hW7] at hk b11
 have hC7 := bC.lt
 have hD7 := bD.lt
 have hB := hB.trans (hk.mono hB.size)
 have bA := bA.below hk bA.lt
 have bB := bB.below hk bB.lt
 have bC := bC.below hk bC.lt
 have bD := bD.below hk bD.lt
 have N9 := N9.below hk
 have N11 := N11.below hk
 have b9 := b9.below hk b9.lt
 clear hk
 go_wp2_with fail
 try rw [hW7]
 clear hW7
 have hne1 : w.heap.size + 1 + 1 ≠ w6.heap.size := by have := hg9; omega
 have hne2 : w.heap.size + 1 + 1 ≠ w7.heap.size := by omega
 have hne3 : w.heap.size + 1 + 1 + 1 ≠ w6.heap.size := by have := hg9; omega
 have hne4 : w.heap.size + 1 + 1 + 1 ≠ w7.heap.size := by omega
 have bCk := bC
 have bDk := bD
 obtain ⟨r0, r1, -, -⟩ := b11
 obtain ⟨q0, q1, -, -⟩ := b9
 obtain ⟨c0, c1, cf0, cf1⟩ := bC
 obtain ⟨d0, d1, df0, df1⟩ := bD
 go_region
 clear r0 r1 q0 q1 c0 c1 cf0 cf1 d0 d1 df0 df1 hne1 hne2 hne3 hne4
 have hf9 : ∀ B, B < w3.heap.size → (n9 = 0 ∨ ∀ ad, a9 = some ad → ad.block ≠ B) := fun B hB => f9.imp id fun h ad e => by have := h ad e; omega
 have hf11 : ∀ B, B < W6.heap.size → (n11 = 0 ∨ ∀ ad, a11 = some ad → ad.block ≠ B) := fun B hB => f11.imp id fun h ad e => by have := h ad e; omega
 have kC := bCk.set (.bool s9) (.slice a9 n9 c9)
 have kD := bDk.other (.bool s9) (.slice a9 n9 c9) (C := w.heap.size + 1 + 1 + 1) (B := w.heap.size + 1 + 1) (by omega)
 have kQ := (N9.set2 bCk (.bool s9) (.slice a9 n9 c9) (hf9 _ (by omega))).set2 kD (.bool s11) (.slice a11 n11 c11) (hf9 _ (by omega))
 have kR := (N11.set2 bCk (.bool s9) (.slice a9 n9 c9) (hf11 _ (by omega))).set2 kD (.bool s11) (.slice a11 n11 c11) (hf11 _ (by omega))
 have kB := below_set2 (below_set2 hB (B := w.heap.size + 1 + 1) (by omega) (.bool s9) (.slice a9 n9 c9)) (B := w.heap.size + 1 + 1 + 1) (by omega) (.bool s11) (.slice a11 n11 c11)
 have kC2 := kC.other (.bool s11) (.slice a11 n11 c11) (C := w.heap.size + 1 + 1) (B := w.heap.size + 1 + 1 + 1) (by omega)
 have kD2 := kD.set (.bool s11) (.slice a11 n11 c11)
 obtain ⟨W8, hW8⟩ : ∃ W8, (((W7.setCell ⟨w.heap.size + 1 + 1, 0, none⟩ (.bool s9)).setCell ⟨w.heap.size + 1 + 1, 1, none⟩ (.slice a9 n9 c9)).setCell ⟨w.heap.size + 1 + 1 + 1, 0, none⟩ (.bool s11)).setCell ⟨w.heap.size + 1 + 1 + 1, 1, none⟩ (.slice a11 n11 c11) = W8 := ⟨_, rfl⟩
 rw [hW8] at kQ kR kB kC2 kD2 ⊢
 clear hW8 kC kD
 have kd := Below.drew (Below.refl W8.heap.size W8)
 have fQ := kQ.below kd
 have fR := kR.below kd
 have fB := kB.trans (kd.mono kB.size)
 obtain ⟨q0, q1, -, -⟩ := kC2.below kd kC2.lt
 obtain ⟨r0, r1, -, -⟩ := kD2.below kd kD2.lt
 clear kd kC2 kD2
 go_wp2
 refine bodyPost_ret (v := .tuple #[.agg #[.bool s9, .slice a9 n9 c9], .agg #[.bool s11, .slice a11 n11 c11], .bool true]) (by simp [results, Tryz.results99, go_sem, q0, q1, r0, r1]) rfl ?_
 refine ⟨_, _, _, _, _, _, _, _, _, _, rfl, ?_, ?_, ?_, fQ, fR, ?_, ?_, fB, lc9, lc11⟩
 · have e := divs_plain true sb za.natAbs zb.natAbs (.inr hmod)
   rw [← ha.signed_eq, ← hb.signed_eq] at e
   simpa [signed] using e
 · simp [signed]; omega
 · have := Nat.mod_lt za.natAbs (Nat.pos_of_ne_zero HY0.out)
   simp only [signed]; simp only [Bool.false_eq_true, if_false]; omega
 · rw [N9.dig.len, signed_abs, ← hq.len]; exact hq64
 · rw [N11.dig.len, signed_abs, ← hr.len]; exact hr64


set_option maxRecDepth 100000 in
set_option maxHeartbeats 4000000 in
theorem rdivc_adj (sb : Bool) (aa ab : Option Addr) (na nb ca cb : Nat) (za zb : Int) (hna : na ≤ 64) (hnb : nb ≤ 64) (hca : na ≤ ca) (w : World) (ha : IsN w true aa na za) (hb : IsN w sb ab nb zb) (hb0 : 0 < nb) (hmod : za.natAbs % zb.natAbs ≠ 0) :
 Calls Tryz.prog 99 #[.agg #[.bool true, .slice aa na ca], .agg #[.bool sb, .slice ab nb cb]] w (DivsC w za zb) := by
 have hbe : ((nb : Int) == 0) = false := by simp; omega
 have hy0 : zb.natAbs ≠ 0 := fun e => by have := hb.dig.len; rw [e, dlen_zero] at this; omega
 have HY0 := hide hy0
 clear hy0
 go_enter Tryz.func99, Tryz.ntmps99
 go_wp2_with fail
 obtain ⟨W0, hW0⟩ : ∃ W0, (((w.alloc (Obj.cells #[.bool true, .slice aa na ca] 25)).alloc (Obj.cells #[.bool sb, .slice ab nb cb] 25)).alloc (Obj.cells #[.bool false, .slice none 0 0] 25)).alloc (Obj.cells #[.bool false, .slice none 0 0] 25) = W0 := ⟨_, rfl⟩
 obtain ⟨bA, bB, bC, bD, hB⟩ := four_boxes w _ _ _ _ _ hW0
 rw [hW0]
 clear hW0
 refine (rright_yes true aa na ca za hna _ (ha.below hB)).mono ?_
 rintro e w1 ⟨rfl, hk⟩
 have hB := hB.trans (hk.mono hB.size)
 have bA := bA.below hk bA.lt
 have bB := bB.below hk bB.lt
 have bC := bC.below hk bC.lt
 have bD := bD.below hk bD.lt
 clear hk
 obtain ⟨a0, a1, -, -⟩ := id bA
 obtain ⟨b0, b1, -, -⟩ := id bB
 go_wp2_with fail
 clear a0 a1 b0 b1
 refine (rright_yes sb ab nb cb zb hnb _ (hb.below hB)).mono ?_
 rintro e w2 ⟨rfl, hk⟩
 have hB := hB.trans (hk.mono hB.size)
 have bA := bA.below hk bA.lt
 have bB := bB.below hk bB.lt
 have bC := bC.below hk bC.lt
 have bD := bD.below hk bD.lt
 clear hk
 obtain ⟨a0, a1, -, -⟩ := id bA
 obtain ⟨b0, b1, -, -⟩ := id bB
 go_wp2_with fail
 clear a0 a1 b0 b1
 refine (rdivide_any aa ab za.natAbs zb.natAbs na nb ca cb (by omega) (by omega) hca w2 (ha.dig.below hB) (hb.dig.below hB) (Nat.pos_of_ne_zero HY0.out)).mono ?_
 rintro e w3 ⟨aq, nq, cq, ar, nr, cr, rfl, hq, hr, hcq, hcr, hk⟩
 have hB := hB.trans (hk.mono hB.size)
 have bA := bA.below hk bA.lt
 have bB := bB.below hk bB.lt
 have bC := bC.below hk bC.lt
 have bD := bD.below hk bD.lt
 clear hk
 have hnr0 : 0 < nr := by rw [hr.len]; exact Nat.pos_of_ne_zero fun e => hmod (dlen_eq_zero.1 e)
 have hnr1 : decide (0 < nr) = true := by simp; omega
 have HM := hide hmod
 clear hmod
 obtain ⟨a0, a1, -, -⟩ := id bA
 obtain ⟨b0, b1, -, -⟩ := id bB
 have hk := below_alloc' w3 (Obj.cells #[.int .u32 1] 68)
 have hone := one_num w3
 obtain ⟨W3, hW3⟩ : ∃ W, w3.alloc (Obj.cells #[.int .u32 1] 68) = W := ⟨_, rfl⟩
 rw [hW3] at hk hone
 have hB := hB.trans (hk.mono hB.size)
 have bA := bA.below hk bA.lt
 have bB := bB.below hk bB.lt
 have bC := bC.below hk bC.lt
 have bD := bD.below hk bD.lt
 have hq := hq.below hk
 have hr := hr.below hk
 clear hk
 go_wp2_with fail
 try rw [hW3]
 clear hW3
 clear a0 a1 b0 b1
 have hq64 : nq ≤ 64 := by rw [hq.len]; refine Nat.le_trans (dlen_mono (Nat.div_le_self _ _)) ?_; rw [← ha.dig.len]; exact hna
 have hr64 : nr ≤ 64 := by rw [hr.len]; refine Nat.le_trans (dlen_mono (Nat.mod_le _ _)) ?_; rw [← ha.dig.len]; exact hna
 refine (rplus_any aq _ (za.natAbs / zb.natAbs) 1 nq 1 cq 1 (by omega) (by decide) W3 hq hone).mono ?_
 rintro e w4 ⟨a5, n5, c5, rfl, hq5, hcq5, -, hk⟩
 have hB := hB.trans (hk.mono hB.size)
 have bA := bA.below hk bA.lt
 have bB := bB.below hk bB.lt
 have bC := bC.below hk bC.lt
 have bD := bD.below hk bD.lt
 have hr := hr.below hk
 clear hk hone hq
 obtain ⟨a0, a1, -, -⟩ := id bA
 obtain ⟨b0, b1, -, -⟩ := id bB
 go_wp2_with fail
 clear a0 a1 b0 b1
 refine (rminus_any ab ar zb.natAbs (za.natAbs % zb.natAbs) nb nr cb cr (by omega) (by omega) w4 (hb.dig.below hB) hr (Nat.le_of_lt (Nat.mod_lt _ (Nat.pos_of_ne_zero HY0.out)))).mono ?_
 rintro e w5 ⟨a6, n6, c6, rfl, hr6, hcr6, -, hk⟩
 have hB := hB.trans (hk.mono hB.size)
 have bA := bA.below hk bA.lt
 have bB := bB.below hk bB.lt
 have bC := bC.below hk bC.lt
 have bD := bD.below hk bD.lt
 have hq := hq5.below hk
 clear hk hq5
 have hq64 : n5 ≤ 64 := adj_len hq.len HM.out HY0.out (by rw [← ha.dig.len]; exact hna)
 have hr64 : n6 ≤ 64 := by rw [hr6.len]; refine Nat.le_trans (dlen_mono (Nat.sub_le _ _)) ?_; rw [← hb.dig.len]; exact hnb
 obtain ⟨a0, a1, -, -⟩ := id bA
 obtain ⟨b0, b1, -, -⟩ := id bB
 go_wp2_with fail
 clear a0 a1 b0 b1
 refine (rsigned_isc (!sb) a5 n5 c5 _ hcq5 hq64 _ hq).mono ?_
 rintro e w6 ⟨s9, a9, n9, c9, rfl, N9, f9, hk, lc9⟩
 have hC5 := bC.lt
 have hD5 := bD.lt
 have hW6 : w.heap.size ≤ w5.heap.size := hB.size
 have hB := hB.trans (hk.mono hB.size)
 have bA := bA.below hk bA.lt
 have bB := bB.below hk bB.lt
 have bC := bC.below hk bC.lt
 have bD := bD.below hk bD.lt
 have hr := hr6.below hk
 have hg9 := hk.size
 have hk := below_alloc' w6 (Obj.cells #[.bool s9, .slice a9 n9 c9] 25)
 have b9 := Box2.new w6 (.bool s9) (.slice a9 n9 c9) 25
 obtain ⟨W6, hW6'⟩ : ∃ W, w6.alloc (Obj.cells #[.bool s9, .slice a9 n9 c9] 25) = W := ⟨_, rfl⟩
 rw [hW6'] at hk b9
 have hB := hB.trans (hk.mono hB.size)
 have bA := bA.below hk bA.lt
 have bB := bB.below hk bB.lt
 have bC := bC.below hk bC.lt
 have bD := bD.below hk bD.lt
 have hr := hr.below hk
 have N9 := N9.below hk
 clear hk
 have hC6 := bC.lt
 have hD6 := bD.lt
 go_wp2_with fail
 try rw [hW6']
 clear hW6'
 refine (rsigned_isc false a6 n6 c6 _ hcr6 hr64 _ hr).mono ?_
 rintro e w7 ⟨s11, a11, n11, c11, rfl, N11, f11, hk, lc11⟩
 have hB := hB.trans (hk.mono hB.size)
 have bA := bA.below hk bA.lt
 have bB := bB.below hk bB.lt
 have bC := bC.below hk bC.lt
 have bD := bD.below hk bD.lt
 have hg11 := b9.lt
 have N9 := N9.below hk
 have b9 := b9.below hk b9.lt
 clear hk hr
 have hk := below_alloc' w7 (Obj.cells #[.bool s11, .slice a11 n11 c11] 25)
 have b11 := Box2.new w7 (.bool s11) (.slice a11 n11 c11) 25
 have hlt7 := b9.lt
 obtain ⟨W7, hW7⟩ : ∃ W, w7.alloc (Obj.cells #[.bool s11, .slice a11 n11 c11] 25) = W := ⟨_, rfl⟩
 rw [hW7] at hk b11
 have hC7 := bC.lt
 have hD7 := bD.lt
 have hB := hB.trans (hk.mono hB.size)
 have bA := bA.below hk bA.lt
 have bB := bB.below hk bB.lt
 have bC := bC.below hk bC.lt
 have bD := bD.below hk bD.lt
 have N9 := N9.below hk
 have N11 := N11.below hk
 have b9 := b9.below hk b9.lt
 clear hk
 go_wp2_with fail
 try rw [hW7]
 clear hW7
 have hne1 : w.heap.size + 1 + 1 ≠ w6.heap.size := by have := hg9; omega
 have hne2 : w.heap.size + 1 + 1 ≠ w7.heap.size := by omega
 have hne3 : w.heap.size + 1 + 1 + 1 ≠ w6.heap.size := by have := hg9; omega
 have hne4 : w.heap.size + 1 + 1 + 1 ≠ w7.heap.size := by omega
 have bCk := bC
 have bDk := bD
 obtain ⟨r0, r1, -, -⟩ := b11
 obtain ⟨q0, q1, -, -⟩ := b9
 obtain ⟨c0, c1, cf0, cf1⟩ := bC
 obtain ⟨d0, d1, df0, df1⟩ := bD
 go_region
 clear r0 r1 q0 q1 c0 c1 cf0 cf1 d0 d1 df0 df1 hne1 hne2 hne3 hne4
 have hf9 : ∀ B, B < w5.heap.size → (n9 = 0 ∨ ∀ ad, a9 = some ad → ad.block ≠ B) := fun B hB => f9.imp id fun h ad e => by have := h ad e; omega
 have hf11 : ∀ B, B < W6.heap.size → (n11 = 0 ∨ ∀ ad, a11 = some ad → ad.block ≠ B) := fun B hB => f11.imp id fun h ad e => by have := h ad e; omega
 have kC := bCk.set (.bool s9) (.slice a9 n9 c9)
 have kD := bDk.other (.bool s9) (.slice a9 n9 c9) (C := w.heap.size + 1 + 1 + 1) (B := w.heap.size + 1 + 1) (by omega)
 have kQ := (N9.set2 bCk (.bool s9) (.slice a9 n9 c9) (hf9 _ (by omega))).set2 kD (.bool s11) (.slice a11 n11 c11) (hf9 _ (by omega))
 have kR := (N11.set2 bCk (.bool s9) (.slice a9 n9 c9) (hf11 _ (by omega))).set2 kD (.bool s11) (.slice a11 n11 c11) (hf11 _ (by omega))
 have kB := below_set2 (below_set2 hB (B := w.heap.size + 1 + 1) (by omega) (.bool s9) (.slice a9 n9 c9)) (B := w.heap.size + 1 + 1 + 1) (by omega) (.bool s11) (.slice a11 n11 c11)
 have kC2 := kC.other (.bool s11) (.slice a11 n11 c11) (C := w.heap.size + 1 + 1) (B := w.heap.size + 1 + 1 + 1) (by omega)
 have kD2 := kD.set (.bool s11) (.slice a11 n11 c11)
 obtain ⟨W8, hW8⟩ : ∃ W8, (((W7.setCell ⟨w.heap.size + 1 + 1, 0, none⟩ (.bool s9)).setCell ⟨w.heap.size + 1 + 1, 1, none⟩ (.slice a9 n9 c9)).setCell ⟨w.heap.size + 1 + 1 + 1, 0, none⟩ (.bool s11)).setCell ⟨w.heap.size + 1 + 1 + 1, 1, none⟩ (.slice a11 n11 c11) = W8 := ⟨_, rfl⟩
 rw [hW8] at kQ kR kB kC2 kD2 ⊢
 clear hW8 kC kD
 have kd := Below.drew (Below.refl W8.heap.size W8)
 have fQ := kQ.below kd
 have fR := kR.below kd
 have fB := kB.trans (kd.mono kB.size)
 obtain ⟨q0, q1, -, -⟩ := kC2.below kd kC2.lt
 obtain ⟨r0, r1, -, -⟩ := kD2.below kd kD2.lt
 clear kd kC2 kD2
 go_wp2
 refine bodyPost_ret (v := .tuple #[.agg #[.bool s9, .slice a9 n9 c9], .agg #[.bool s11, .slice a11 n11 c11], .bool true]) (by simp [results, Tryz.results99, go_sem, q0, q1, r0, r1]) rfl ?_
 refine ⟨_, _, _, _, _, _, _, _, _, _, rfl, ?_, ?_, ?_, fQ, fR, ?_, ?_, fB, lc9, lc11⟩
 · have e := divs_adj sb za.natAbs zb.natAbs HY0.out
   rw [← ha.signed_eq, ← hb.signed_eq] at e
   simpa [signed] using e
 · simp [signed]
 · have := Nat.mod_lt za.natAbs (Nat.pos_of_ne_zero HY0.out)
   have h3 : za.natAbs % zb.natAbs ≠ 0 := HM
   simp only [signed]; simp only [Bool.false_eq_true, if_false]; omega
 · rw [N9.dig.len, signed_abs, ← hq.len]; exact hq64
 · rw [N11.dig.len, signed_abs, ← hr6.len]; exact hr64


theorem rdivc_num (sa sb : Bool) (aa ab : Option Addr) (na nb ca cb : Nat) (za zb : Int) (hna : na ≤ 64) (hnb : nb ≤ 64) (hca : na ≤ ca) (w : World) (ha : IsN w sa aa na za) (hb : IsN w sb ab nb zb) (hb0 : 0 < nb) :
 Calls Tryz.prog 99 #[.agg #[.bool sa, .slice aa na ca], .agg #[.bool sb, .slice ab nb cb]] w (DivsC w za zb) := by
 cases sa with
 | false => exact rdivc_pos sb aa ab na nb ca cb za zb hna hnb hca w ha hb hb0
 | true =>
   by_cases h : za.natAbs % zb.natAbs = 0
   · exact rdivc_exact sb aa ab na nb ca cb za zb hna hnb hca w ha hb hb0 h
   · exact rdivc_adj sb aa ab na nb ca cb za zb hna hnb hca w ha hb hb0 h
end Go.Proofs.YtgenaicmjddjcaaGreatDoor
