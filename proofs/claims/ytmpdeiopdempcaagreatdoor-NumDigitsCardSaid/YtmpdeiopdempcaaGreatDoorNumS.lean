/- num's Div, over what divide returns. -/
import Derived.Test.YtmpdeiopdempcaaGreatDoorNumM
import Derived.Test.YtmpdeiopdempcaaGreatDoorNumR
import Derived.Test.YtmpdeiopdempcaaGreatDoorNumH
namespace Go.Proofs.YtmpdeiopdempcaaGreatDoor
open Go.RowKit Go.Shelf

/-- what a call that divides Nums hands back -/
def DivsPost (w : World) (za zb : Int) (e : Ending) (w' : World) : Prop :=
  ∃ (q r : Int) (s1 : Bool) (a1 : Option Addr) (n1 c1 : Nat) (s2 : Bool) (a2 : Option Addr) (n2 c2 : Nat), e = .returned (.tuple #[.agg #[.bool s1, .slice a1 n1 c1], .agg #[.bool s2, .slice a2 n2 c2], .bool true]) ∧
    za = q * zb + r ∧ 0 ≤ r ∧ r < zb.natAbs ∧ IsN w' s1 a1 n1 q ∧ IsN w' s2 a2 n2 r ∧ (n1 = 0 ∨ Fresh w a1) ∧ (n2 = 0 ∨ Fresh w a2) ∧ n1 ≤ 64 ∧ n2 ≤ 64 ∧ Below w.heap.size w w'

theorem IsN.signed_eq {w : World} {s : Bool} {a : Option Addr} {n : Nat} {z : Int} (h : IsN w s a n z) : z = signed s z.natAbs := by
  have h1 := h.sign
  unfold signed; rw [h1]; by_cases h : z < 0 <;> simp [h] <;> omega

theorem IsN.set2 {w : World} {s : Bool} {a : Option Addr} {n : Nat} {z : Int} (h : IsN w s a n z) {B : Nat} {u0 u1 : Value} (hb : Box2 w B u0 u1) (v0 v1 : Value) (hne : n = 0 ∨ ∀ ad, a = some ad → ad.block ≠ B) :
    IsN ((w.setCell ⟨B, 0, none⟩ v0).setCell ⟨B, 1, none⟩ v1) s a n z := by
  obtain ⟨-, -, ht⟩ := setNum v0 v1 hb.c0 hb.c1
  exact ⟨h.sign, h.dig.len, h.dig.dig.touch' ht hne⟩

theorem dlen_one {x : Nat} (h0 : x ≠ 0) (h : x < 4294967296) : dlen x = 1 := by rw [dlen_pos h0, Nat.div_eq_of_lt h, dlen_zero]

theorem divs_plain (sa sb : Bool) (x y : Nat) (h : sa = false ∨ x % y = 0) : signed sa x = signed (sa != sb) (x / y) * signed sb y + ((x % y : Nat) : Int) := by
  have hd := Nat.div_add_mod x y
  have e : (x : Int) = (y : Int) * ((x / y : Nat) : Int) + ((x % y : Nat) : Int) := by exact_mod_cast hd.symm
  unfold signed
  have e0 : sa = true → ((x % y : Nat) : Int) = 0 := fun hs => by
    rcases h with h | h
    · rw [h] at hs; cases hs
    · rw [h]; rfl
  generalize ((x / y : Nat) : Int) = q at e ⊢
  generalize ((x % y : Nat) : Int) = r at e e0 ⊢
  generalize (y : Int) = y' at e ⊢
  have e1 := Int.mul_comm q y'
  cases sa <;> cases sb <;> simp [Int.neg_mul, Int.mul_neg] at e0 ⊢ <;> omega

theorem divs_adj (sb : Bool) (x y : Nat) (hy : y ≠ 0) : signed true x = signed (true != sb) (x / y + 1) * signed sb y + ((y - x % y : Nat) : Int) := by
  have hd := Nat.div_add_mod x y
  have hm := Nat.mod_lt x (Nat.pos_of_ne_zero hy)
  have e : (x : Int) = (y : Int) * ((x / y : Nat) : Int) + ((x % y : Nat) : Int) := by exact_mod_cast hd.symm
  unfold signed
  have e2 : ((y - x % y : Nat) : Int) = (y : Int) - ((x % y : Nat) : Int) := by omega
  rw [e2, Int.natCast_add]
  clear e2 hm hd
  generalize ((x / y : Nat) : Int) = q at e ⊢
  generalize ((x % y : Nat) : Int) = r at e ⊢
  generalize (y : Int) = y' at e ⊢
  have e1 := Int.mul_comm q y'
  cases sb <;> simp [Int.neg_mul, Int.mul_neg, Int.add_mul, Int.neg_add] <;> omega

set_option maxRecDepth 100000 in
set_option maxHeartbeats 4000000 in
theorem div_pos (sb : Bool) (aa ab : Option Addr) (na nb ca cb : Nat) (za zb : Int) (hna : na ≤ 64) (hnb : nb ≤ 64) (w : World) (ha : IsN w false aa na za) (hb : IsN w sb ab nb zb) (hb0 : 0 < nb) 
    (hdiv : ∀ w1, Below w.heap.size w w1 → Calls Tryz.prog 39 #[.slice aa na ca, .slice ab nb cb] w1 (DivPost w1 za.natAbs zb.natAbs)) :
    Calls Tryz.prog 14 #[.agg #[.bool false, .slice aa na ca], .agg #[.bool sb, .slice ab nb cb]] w (DivsPost w za zb) := by
  have hbe : ((nb : Int) == 0) = false := by simp; omega
  have hy0 : zb.natAbs ≠ 0 := fun e => by have := hb.dig.len; rw [e, dlen_zero] at this; omega
  have HY0 := hide hy0
  have HDV := hide hdiv
  clear hy0
  clear hdiv
  go_enter Tryz.func14, Tryz.ntmps14
  go_wp2_with fail
  obtain ⟨W0, hW0⟩ : ∃ W0, (((w.alloc (Obj.cells #[Value.bool false, Value.slice aa na ca] 27)).alloc (Obj.cells #[Value.bool sb, Value.slice ab nb cb] 27)).alloc (Obj.cells #[Value.bool false, Value.slice none 0 0] 27)).alloc (Obj.cells #[Value.bool false, Value.slice none 0 0] 27) = W0 := ⟨_, rfl⟩
  have bA : Box2 W0 w.heap.size (.bool false) (.slice aa na ca) := by rw [← hW0]; exact (((Box2.new w _ _ _).alloc _).alloc _).alloc _
  have bB : Box2 W0 (w.heap.size + 1) (.bool sb) (.slice ab nb cb) := by
    have := ((Box2.new (w.alloc (Obj.cells #[Value.bool false, Value.slice aa na ca] 27)) (.bool sb) (.slice ab nb cb) 27).alloc (Obj.cells #[Value.bool false, Value.slice none 0 0] 27)).alloc (Obj.cells #[Value.bool false, Value.slice none 0 0] 27)
    rw [World.size_alloc] at this; rw [← hW0]; exact this
  have bC : Box2 W0 (w.heap.size + 1 + 1) (.bool false) (.slice none 0 0) := by
    have := (Box2.new ((w.alloc (Obj.cells #[Value.bool false, Value.slice aa na ca] 27)).alloc (Obj.cells #[Value.bool sb, Value.slice ab nb cb] 27)) (.bool false) (.slice none 0 0) 27).alloc (Obj.cells #[Value.bool false, Value.slice none 0 0] 27)
    rw [World.size_alloc, World.size_alloc] at this; rw [← hW0]; exact this
  have bD : Box2 W0 (w.heap.size + 1 + 1 + 1) (.bool false) (.slice none 0 0) := by
    have := Box2.new (((w.alloc (Obj.cells #[Value.bool false, Value.slice aa na ca] 27)).alloc (Obj.cells #[Value.bool sb, Value.slice ab nb cb] 27)).alloc (Obj.cells #[Value.bool false, Value.slice none 0 0] 27)) (.bool false) (.slice none 0 0) 27
    rw [World.size_alloc, World.size_alloc, World.size_alloc] at this; rw [← hW0]; exact this
  have hsz : W0.heap.size = w.heap.size + 4 := by rw [← hW0]; simp
  have hB0 : Below w.heap.size w W0 := by rw [← hW0]; exact ((((Below.refl _ w).alloc (Nat.le_refl _) _).alloc (by simp) _).alloc (by simp; omega) _).alloc (by simp; omega) _
  rw [hW0]
  clear hW0
  refine (right_yes false aa na ca za hna _ (ha.below hB0)).mono ?_
  rintro e w1 ⟨rfl, hb1⟩
  have hB1 : Below w.heap.size w w1 := hB0.trans (hb1.mono (by omega))
  have bA1 := bA.below hb1 (by omega)
  have bB1 := bB.below hb1 (by omega)
  have bC1 := bC.below hb1 (by omega)
  have bD1 := bD.below hb1 (by omega)
  obtain ⟨b0, b1, -, -⟩ := bB1
  go_wp2_with fail
  refine (right_yes sb ab nb cb zb hnb _ (hb.below hB1)).mono ?_
  rintro e w2 ⟨rfl, hb2⟩
  have hB2 : Below w.heap.size w w2 := hB1.trans (hb2.mono hB1.size)
  have hs1 := hb1.size
  have bA2 := bA1.below hb2 (by omega)
  have bB2 := bB.below (hb1.trans (hb2.mono hb1.size)) (by omega)
  have bC2 := bC1.below hb2 (by omega)
  have bD2 := bD1.below hb2 (by omega)
  clear b0 b1 hs1
  have bA2k := bA2
  have bB2k := bB2
  obtain ⟨a0, a1, -, -⟩ := bA2
  obtain ⟨b0, b1, -, -⟩ := bB2
  go_wp2_with fail
  refine (HDV.out _ hB2).mono ?_
  rintro e w3 ⟨aq, nq, cq, ar, nr, cr, rfl, hq, hcq, hfq, hr, hcr, hfr, hb3⟩
  have hB3 : Below w.heap.size w w3 := hB2.trans (hb3.mono hB2.size)
  have bA3 := bA2k.below hb3 bA2k.lt
  have bB3 := bB2k.below hb3 bB2k.lt
  have bC3 := bC2.below hb3 bC2.lt
  have bD3 := bD2.below hb3 bD2.lt
  clear a0 a1 b0 b1
  have bA3k := bA3
  have bB3k := bB3
  obtain ⟨a0, a1, -, -⟩ := bA3
  obtain ⟨b0, b1, -, -⟩ := bB3
  go_wp2_with fail
  have hq64 : nq ≤ 64 := by rw [hq.len]; refine Nat.le_trans (dlen_mono (Nat.div_le_self _ _)) ?_; rw [← ha.dig.len]; exact hna
  have hr64 : nr ≤ 64 := by rw [hr.len]; refine Nat.le_trans (dlen_mono (Nat.mod_le _ _)) ?_; rw [← ha.dig.len]; exact hna
  refine (number_of sb aq nq cq _ hcq hq64 _ hq).mono ?_
  rintro e w4 ⟨sq, aq', nq', cq', rfl, hnq', haq', hb4⟩
  have bC4 := bC3.below hb4 bC3.lt
  have bD4 := bD3.below hb4 bD3.lt
  clear a0 a1 b0 b1
  go_wp2_with fail
  have hB4 : Below w.heap.size w w4 := hB3.trans (hb4.mono hB3.size)
  obtain ⟨W4, hW4⟩ : ∃ W4, w4.alloc (Obj.cells #[Value.bool sq, Value.slice aq' nq' cq'] 27) = W4 := ⟨_, rfl⟩
  have hB4' : Below w4.heap.size w4 W4 := by rw [← hW4]; exact (Below.refl _ w4).alloc (Nat.le_refl _) _
  have bQ : Box2 W4 w4.heap.size (.bool sq) (.slice aq' nq' cq') := by rw [← hW4]; exact Box2.new _ _ _ _
  rw [hW4]
  clear hW4
  refine (number_of false ar nr cr _ hcr hr64 _ ((hr.below hb4).below hB4')).mono ?_
  rintro e w5 ⟨sr, ar', nr', cr', rfl, hnr', har', hb5⟩
  have hs4 := hB4'.size
  have bQ5 := bQ.below hb5 bQ.lt
  have bC5 := (bC4.below hB4' bC4.lt).below hb5 (by have := bC4.lt; omega)
  have bD5 := (bD4.below hB4' bD4.lt).below hb5 (by have := bD4.lt; omega)
  have hB5 : Below w.heap.size w w5 := (hB4.trans (hB4'.mono hB4.size)).trans (hb5.mono (Nat.le_trans hB4.size hs4))
  have hnq5 := (hnq'.below hB4').below hb5
  go_wp2_with fail
  obtain ⟨W6, hW6⟩ : ∃ W6, w5.alloc (Obj.cells #[Value.bool sr, Value.slice ar' nr' cr'] 27) = W6 := ⟨_, rfl⟩
  have hB5' : Below w5.heap.size w5 W6 := by rw [← hW6]; exact (Below.refl _ w5).alloc (Nat.le_refl _) _
  have bR6 : Box2 W6 w5.heap.size (.bool sr) (.slice ar' nr' cr') := by rw [← hW6]; exact Box2.new _ _ _ _
  have bQ6 := bQ5.below hB5' bQ5.lt
  have bC6 := bC5.below hB5' bC5.lt
  have bD6 := bD5.below hB5' bD5.lt
  have hB6 : Below w.heap.size w W6 := hB5.trans (hB5'.mono hB5.size)
  have hnq6 := hnq5.below hB5'
  have hnr6 := hnr'.below hB5'
  rw [hW6]
  clear hW6
  have hne1 : w.heap.size + 1 + 1 ≠ w4.heap.size := by have := bC4.lt; omega
  have hne2 : w.heap.size + 1 + 1 ≠ w5.heap.size := by have := bC5.lt; omega
  have hne3 : w.heap.size + 1 + 1 + 1 ≠ w4.heap.size := by have := bD4.lt; omega
  have hne4 : w.heap.size + 1 + 1 + 1 ≠ w5.heap.size := by have := bD5.lt; omega
  have bC6k := bC6
  have bD6k := bD6
  obtain ⟨r0, r1, -, -⟩ := bR6
  obtain ⟨q0, q1, -, -⟩ := bQ6
  obtain ⟨c0, c1, cf0, cf1⟩ := bC6
  obtain ⟨d0, d1, df0, df1⟩ := bD6
  go_region
  clear r0 r1 q0 q1 c0 c1 cf0 cf1 d0 d1 df0 df1 hne1 hne2 hne3 hne4
  have hs2 : w.heap.size + 1 + 1 + 1 < w2.heap.size := bD2.lt
  have hfq6 : nq' = 0 ∨ ∀ ad, aq' = some ad → w2.heap.size ≤ ad.block := by
    have hn43 : nq' = nq := by rw [hnq'.dig.len, hq.len, signed_abs]
    rcases haq' with h | h
    · exact .inl h
    · rcases hfq with h' | h'
      · first | exact .inl (hn43.trans h') | exact .inl hn43
      · exact .inr fun ad e => h' ad (h ▸ e)
  have hfr6 : nr' = 0 ∨ ∀ ad, ar' = some ad → w2.heap.size ≤ ad.block := by
    have hn43 : nr' = nr := by rw [hnr'.dig.len, hr.len, signed_abs]
    rcases har' with h | h
    · exact .inl h
    · rcases hfr with h' | h'
      · first | exact .inl (hn43.trans h') | exact .inl hn43
      · exact .inr fun ad e => h' ad (h ▸ e)
  have off : ∀ {n : Nat} {a : Option Addr} {B : Nat}, (n = 0 ∨ ∀ ad, a = some ad → w2.heap.size ≤ ad.block) → B < w2.heap.size → (n = 0 ∨ ∀ ad, a = some ad → ad.block ≠ B) := fun h hB => h.imp id fun h' ad e => by have := h' ad e; omega
  have kC := bC6k.set (.bool sq) (.slice aq' nq' cq')
  have kD := bD6k.other (.bool sq) (.slice aq' nq' cq') (C := w.heap.size + 1 + 1 + 1) (B := w.heap.size + 1 + 1) (by omega)
  have kQ := (hnq6.set2 bC6k (.bool sq) (.slice aq' nq' cq') (off hfq6 (by omega))).set2 kD (.bool sr) (.slice ar' nr' cr') (off hfq6 (by omega))
  have kR := (hnr6.set2 bC6k (.bool sq) (.slice aq' nq' cq') (off hfr6 (by omega))).set2 kD (.bool sr) (.slice ar' nr' cr') (off hfr6 (by omega))
  have kB := below_set2 (below_set2 hB6 (B := w.heap.size + 1 + 1) (by omega) (.bool sq) (.slice aq' nq' cq')) (B := w.heap.size + 1 + 1 + 1) (by omega) (.bool sr) (.slice ar' nr' cr')
  have kC2 := kC.other (.bool sr) (.slice ar' nr' cr') (C := w.heap.size + 1 + 1) (B := w.heap.size + 1 + 1 + 1) (by omega)
  have kD2 := kD.set (.bool sr) (.slice ar' nr' cr')
  obtain ⟨W7, hW7⟩ : ∃ W7, (((W6.setCell ⟨w.heap.size + 1 + 1, 0, none⟩ (.bool sq)).setCell ⟨w.heap.size + 1 + 1, 1, none⟩ (.slice aq' nq' cq')).setCell ⟨w.heap.size + 1 + 1 + 1, 0, none⟩ (.bool sr)).setCell ⟨w.heap.size + 1 + 1 + 1, 1, none⟩ (.slice ar' nr' cr') = W7 := ⟨_, rfl⟩
  rw [hW7] at kQ kR kB kC2 kD2 ⊢
  clear hW7 kC kD
  have kd := Below.drew (Below.refl W7.heap.size W7)
  have fQ := kQ.below kd
  have fR := kR.below kd
  have fB := kB.trans (kd.mono kB.size)
  obtain ⟨q0, q1, -, -⟩ := kC2.below kd kC2.lt
  obtain ⟨r0, r1, -, -⟩ := kD2.below kd kD2.lt
  clear kd kC2 kD2
  go_wp2
  refine bodyPost_ret (v := .tuple #[.agg #[.bool sq, .slice aq' nq' cq'], .agg #[.bool sr, .slice ar' nr' cr'], .bool true]) (by simp [results, Tryz.results14, go_sem, q0, q1, r0, r1]) rfl ?_
  refine ⟨_, _, _, _, _, _, _, _, _, _, rfl, ?_, ?_, ?_, fQ, fR, hfq6.imp id fun h ad e => Nat.le_trans hB2.size (h ad e), hfr6.imp id fun h ad e => Nat.le_trans hB2.size (h ad e), ?_, ?_, fB⟩
  · have e := divs_plain false sb za.natAbs zb.natAbs (.inl rfl)
    rw [← ha.signed_eq, ← hb.signed_eq] at e
    simpa [signed] using e
  · simp [signed]; omega
  · have := Nat.mod_lt za.natAbs (Nat.pos_of_ne_zero HY0.out)
    simp only [signed]; simp only [Bool.false_eq_true, if_false]; omega
  · rw [hnq'.dig.len, signed_abs, ← hq.len]; exact hq64
  · rw [hnr'.dig.len, signed_abs, ← hr.len]; exact hr64

set_option maxRecDepth 100000 in
set_option maxHeartbeats 4000000 in
theorem div_exact (sb : Bool) (aa ab : Option Addr) (na nb ca cb : Nat) (za zb : Int) (hna : na ≤ 64) (hnb : nb ≤ 64) (w : World) (ha : IsN w true aa na za) (hb : IsN w sb ab nb zb) (hb0 : 0 < nb) (hmod : za.natAbs % zb.natAbs = 0)
    (hdiv : ∀ w1, Below w.heap.size w w1 → Calls Tryz.prog 39 #[.slice aa na ca, .slice ab nb cb] w1 (DivPost w1 za.natAbs zb.natAbs)) :
    Calls Tryz.prog 14 #[.agg #[.bool true, .slice aa na ca], .agg #[.bool sb, .slice ab nb cb]] w (DivsPost w za zb) := by
  have hbe : ((nb : Int) == 0) = false := by simp; omega
  have hy0 : zb.natAbs ≠ 0 := fun e => by have := hb.dig.len; rw [e, dlen_zero] at this; omega
  have HY0 := hide hy0
  have HDV := hide hdiv
  clear hy0
  clear hdiv
  go_enter Tryz.func14, Tryz.ntmps14
  go_wp2_with fail
  obtain ⟨W0, hW0⟩ : ∃ W0, (((w.alloc (Obj.cells #[Value.bool true, Value.slice aa na ca] 27)).alloc (Obj.cells #[Value.bool sb, Value.slice ab nb cb] 27)).alloc (Obj.cells #[Value.bool false, Value.slice none 0 0] 27)).alloc (Obj.cells #[Value.bool false, Value.slice none 0 0] 27) = W0 := ⟨_, rfl⟩
  have bA : Box2 W0 w.heap.size (.bool true) (.slice aa na ca) := by rw [← hW0]; exact (((Box2.new w _ _ _).alloc _).alloc _).alloc _
  have bB : Box2 W0 (w.heap.size + 1) (.bool sb) (.slice ab nb cb) := by
    have := ((Box2.new (w.alloc (Obj.cells #[Value.bool true, Value.slice aa na ca] 27)) (.bool sb) (.slice ab nb cb) 27).alloc (Obj.cells #[Value.bool false, Value.slice none 0 0] 27)).alloc (Obj.cells #[Value.bool false, Value.slice none 0 0] 27)
    rw [World.size_alloc] at this; rw [← hW0]; exact this
  have bC : Box2 W0 (w.heap.size + 1 + 1) (.bool false) (.slice none 0 0) := by
    have := (Box2.new ((w.alloc (Obj.cells #[Value.bool true, Value.slice aa na ca] 27)).alloc (Obj.cells #[Value.bool sb, Value.slice ab nb cb] 27)) (.bool false) (.slice none 0 0) 27).alloc (Obj.cells #[Value.bool false, Value.slice none 0 0] 27)
    rw [World.size_alloc, World.size_alloc] at this; rw [← hW0]; exact this
  have bD : Box2 W0 (w.heap.size + 1 + 1 + 1) (.bool false) (.slice none 0 0) := by
    have := Box2.new (((w.alloc (Obj.cells #[Value.bool true, Value.slice aa na ca] 27)).alloc (Obj.cells #[Value.bool sb, Value.slice ab nb cb] 27)).alloc (Obj.cells #[Value.bool false, Value.slice none 0 0] 27)) (.bool false) (.slice none 0 0) 27
    rw [World.size_alloc, World.size_alloc, World.size_alloc] at this; rw [← hW0]; exact this
  have hsz : W0.heap.size = w.heap.size + 4 := by rw [← hW0]; simp
  have hB0 : Below w.heap.size w W0 := by rw [← hW0]; exact ((((Below.refl _ w).alloc (Nat.le_refl _) _).alloc (by simp) _).alloc (by simp; omega) _).alloc (by simp; omega) _
  rw [hW0]
  clear hW0
  refine (right_yes true aa na ca za hna _ (ha.below hB0)).mono ?_
  rintro e w1 ⟨rfl, hb1⟩
  have hB1 : Below w.heap.size w w1 := hB0.trans (hb1.mono (by omega))
  have bA1 := bA.below hb1 (by omega)
  have bB1 := bB.below hb1 (by omega)
  have bC1 := bC.below hb1 (by omega)
  have bD1 := bD.below hb1 (by omega)
  obtain ⟨b0, b1, -, -⟩ := bB1
  go_wp2_with fail
  refine (right_yes sb ab nb cb zb hnb _ (hb.below hB1)).mono ?_
  rintro e w2 ⟨rfl, hb2⟩
  have hB2 : Below w.heap.size w w2 := hB1.trans (hb2.mono hB1.size)
  have hs1 := hb1.size
  have bA2 := bA1.below hb2 (by omega)
  have bB2 := bB.below (hb1.trans (hb2.mono hb1.size)) (by omega)
  have bC2 := bC1.below hb2 (by omega)
  have bD2 := bD1.below hb2 (by omega)
  clear b0 b1 hs1
  have bA2k := bA2
  have bB2k := bB2
  obtain ⟨a0, a1, -, -⟩ := bA2
  obtain ⟨b0, b1, -, -⟩ := bB2
  go_wp2_with fail
  refine (HDV.out _ hB2).mono ?_
  rintro e w3 ⟨aq, nq, cq, ar, nr, cr, rfl, hq, hcq, hfq, hr, hcr, hfr, hb3⟩
  have hB3 : Below w.heap.size w w3 := hB2.trans (hb3.mono hB2.size)
  have bA3 := bA2k.below hb3 bA2k.lt
  have bB3 := bB2k.below hb3 bB2k.lt
  have bC3 := bC2.below hb3 bC2.lt
  have bD3 := bD2.below hb3 bD2.lt
  clear a0 a1 b0 b1
  have bA3k := bA3
  have bB3k := bB3
  obtain ⟨a0, a1, -, -⟩ := bA3
  obtain ⟨b0, b1, -, -⟩ := bB3
  have hnr0 : nr = 0 := by rw [hr.len, hmod, dlen_zero]
  subst hnr0
  go_wp2_with fail
  have hq64 : nq ≤ 64 := by rw [hq.len]; refine Nat.le_trans (dlen_mono (Nat.div_le_self _ _)) ?_; rw [← ha.dig.len]; exact hna
  have hr64 : 0 ≤ 64 := Nat.zero_le _
  refine (number_of (!sb) aq nq cq _ hcq hq64 _ hq).mono ?_
  rintro e w4 ⟨sq, aq', nq', cq', rfl, hnq', haq', hb4⟩
  have bC4 := bC3.below hb4 bC3.lt
  have bD4 := bD3.below hb4 bD3.lt
  clear a0 a1 b0 b1
  go_wp2_with fail
  have hB4 : Below w.heap.size w w4 := hB3.trans (hb4.mono hB3.size)
  obtain ⟨W4, hW4⟩ : ∃ W4, w4.alloc (Obj.cells #[Value.bool sq, Value.slice aq' nq' cq'] 27) = W4 := ⟨_, rfl⟩
  have hB4' : Below w4.heap.size w4 W4 := by rw [← hW4]; exact (Below.refl _ w4).alloc (Nat.le_refl _) _
  have bQ : Box2 W4 w4.heap.size (.bool sq) (.slice aq' nq' cq') := by rw [← hW4]; exact Box2.new _ _ _ _
  rw [hW4]
  clear hW4
  refine (number_of false ar 0 cr _ hcr hr64 _ ((hr.below hb4).below hB4')).mono ?_
  rintro e w5 ⟨sr, ar', nr', cr', rfl, hnr', har', hb5⟩
  have hs4 := hB4'.size
  have bQ5 := bQ.below hb5 bQ.lt
  have bC5 := (bC4.below hB4' bC4.lt).below hb5 (by have := bC4.lt; omega)
  have bD5 := (bD4.below hB4' bD4.lt).below hb5 (by have := bD4.lt; omega)
  have hB5 : Below w.heap.size w w5 := (hB4.trans (hB4'.mono hB4.size)).trans (hb5.mono (Nat.le_trans hB4.size hs4))
  have hnq5 := (hnq'.below hB4').below hb5
  go_wp2_with fail
  obtain ⟨W6, hW6⟩ : ∃ W6, w5.alloc (Obj.cells #[Value.bool sr, Value.slice ar' nr' cr'] 27) = W6 := ⟨_, rfl⟩
  have hB5' : Below w5.heap.size w5 W6 := by rw [← hW6]; exact (Below.refl _ w5).alloc (Nat.le_refl _) _
  have bR6 : Box2 W6 w5.heap.size (.bool sr) (.slice ar' nr' cr') := by rw [← hW6]; exact Box2.new _ _ _ _
  have bQ6 := bQ5.below hB5' bQ5.lt
  have bC6 := bC5.below hB5' bC5.lt
  have bD6 := bD5.below hB5' bD5.lt
  have hB6 : Below w.heap.size w W6 := hB5.trans (hB5'.mono hB5.size)
  have hnq6 := hnq5.below hB5'
  have hnr6 := hnr'.below hB5'
  rw [hW6]
  clear hW6
  have hne1 : w.heap.size + 1 + 1 ≠ w4.heap.size := by have := bC4.lt; omega
  have hne2 : w.heap.size + 1 + 1 ≠ w5.heap.size := by have := bC5.lt; omega
  have hne3 : w.heap.size + 1 + 1 + 1 ≠ w4.heap.size := by have := bD4.lt; omega
  have hne4 : w.heap.size + 1 + 1 + 1 ≠ w5.heap.size := by have := bD5.lt; omega
  have bC6k := bC6
  have bD6k := bD6
  obtain ⟨r0, r1, -, -⟩ := bR6
  obtain ⟨q0, q1, -, -⟩ := bQ6
  obtain ⟨c0, c1, cf0, cf1⟩ := bC6
  obtain ⟨d0, d1, df0, df1⟩ := bD6
  go_region
  clear r0 r1 q0 q1 c0 c1 cf0 cf1 d0 d1 df0 df1 hne1 hne2 hne3 hne4
  have hs2 : w.heap.size + 1 + 1 + 1 < w2.heap.size := bD2.lt
  have hfq6 : nq' = 0 ∨ ∀ ad, aq' = some ad → w2.heap.size ≤ ad.block := by
    have hn43 : nq' = nq := by rw [hnq'.dig.len, hq.len, signed_abs]
    rcases haq' with h | h
    · exact .inl h
    · rcases hfq with h' | h'
      · first | exact .inl (hn43.trans h') | exact .inl hn43
      · exact .inr fun ad e => h' ad (h ▸ e)
  have hfr6 : nr' = 0 ∨ ∀ ad, ar' = some ad → w2.heap.size ≤ ad.block := by
    have hn43 : nr' = 0 := by rw [hnr'.dig.len, hr.len, signed_abs]
    rcases har' with h | h
    · exact .inl h
    · rcases hfr with h' | h'
      · first | exact .inl (hn43.trans h') | exact .inl hn43
      · exact .inr fun ad e => h' ad (h ▸ e)
  have off : ∀ {n : Nat} {a : Option Addr} {B : Nat}, (n = 0 ∨ ∀ ad, a = some ad → w2.heap.size ≤ ad.block) → B < w2.heap.size → (n = 0 ∨ ∀ ad, a = some ad → ad.block ≠ B) := fun h hB => h.imp id fun h' ad e => by have := h' ad e; omega
  have kC := bC6k.set (.bool sq) (.slice aq' nq' cq')
  have kD := bD6k.other (.bool sq) (.slice aq' nq' cq') (C := w.heap.size + 1 + 1 + 1) (B := w.heap.size + 1 + 1) (by omega)
  have kQ := (hnq6.set2 bC6k (.bool sq) (.slice aq' nq' cq') (off hfq6 (by omega))).set2 kD (.bool sr) (.slice ar' nr' cr') (off hfq6 (by omega))
  have kR := (hnr6.set2 bC6k (.bool sq) (.slice aq' nq' cq') (off hfr6 (by omega))).set2 kD (.bool sr) (.slice ar' nr' cr') (off hfr6 (by omega))
  have kB := below_set2 (below_set2 hB6 (B := w.heap.size + 1 + 1) (by omega) (.bool sq) (.slice aq' nq' cq')) (B := w.heap.size + 1 + 1 + 1) (by omega) (.bool sr) (.slice ar' nr' cr')
  have kC2 := kC.other (.bool sr) (.slice ar' nr' cr') (C := w.heap.size + 1 + 1) (B := w.heap.size + 1 + 1 + 1) (by omega)
  have kD2 := kD.set (.bool sr) (.slice ar' nr' cr')
  obtain ⟨W7, hW7⟩ : ∃ W7, (((W6.setCell ⟨w.heap.size + 1 + 1, 0, none⟩ (.bool sq)).setCell ⟨w.heap.size + 1 + 1, 1, none⟩ (.slice aq' nq' cq')).setCell ⟨w.heap.size + 1 + 1 + 1, 0, none⟩ (.bool sr)).setCell ⟨w.heap.size + 1 + 1 + 1, 1, none⟩ (.slice ar' nr' cr') = W7 := ⟨_, rfl⟩
  rw [hW7] at kQ kR kB kC2 kD2 ⊢
  clear hW7 kC kD
  have kd := Below.drew (Below.refl W7.heap.size W7)
  have fQ := kQ.below kd
  have fR := kR.below kd
  have fB := kB.trans (kd.mono kB.size)
  obtain ⟨q0, q1, -, -⟩ := kC2.below kd kC2.lt
  obtain ⟨r0, r1, -, -⟩ := kD2.below kd kD2.lt
  clear kd kC2 kD2
  go_wp2
  refine bodyPost_ret (v := .tuple #[.agg #[.bool sq, .slice aq' nq' cq'], .agg #[.bool sr, .slice ar' nr' cr'], .bool true]) (by simp [results, Tryz.results14, go_sem, q0, q1, r0, r1]) rfl ?_
  refine ⟨_, _, _, _, _, _, _, _, _, _, rfl, ?_, ?_, ?_, fQ, fR, hfq6.imp id fun h ad e => Nat.le_trans hB2.size (h ad e), hfr6.imp id fun h ad e => Nat.le_trans hB2.size (h ad e), ?_, ?_, fB⟩
  · have e := divs_plain true sb za.natAbs zb.natAbs (.inr hmod)
    rw [← ha.signed_eq, ← hb.signed_eq] at e
    simpa [signed] using e
  · simp [signed]; omega
  · have := Nat.mod_lt za.natAbs (Nat.pos_of_ne_zero HY0.out)
    simp only [signed]; simp only [Bool.false_eq_true, if_false]; omega
  · rw [hnq'.dig.len, signed_abs, ← hq.len]; exact hq64
  · rw [hnr'.dig.len, signed_abs, ← hr.len]; exact hr64

set_option maxRecDepth 100000 in
set_option maxHeartbeats 4000000 in
theorem div_adj (sb : Bool) (aa ab : Option Addr) (na nb ca cb : Nat) (za zb : Int) (hna : na ≤ 64) (hnb : nb ≤ 64) (w : World) (ha : IsN w true aa na za) (hb : IsN w sb ab nb zb) (hb0 : 0 < nb) (hmod : za.natAbs % zb.natAbs ≠ 0)
    (hdiv : ∀ w1, Below w.heap.size w w1 → Calls Tryz.prog 39 #[.slice aa na ca, .slice ab nb cb] w1 (DivPost w1 za.natAbs zb.natAbs)) :
    Calls Tryz.prog 14 #[.agg #[.bool true, .slice aa na ca], .agg #[.bool sb, .slice ab nb cb]] w (DivsPost w za zb) := by
  have hbe : ((nb : Int) == 0) = false := by simp; omega
  have hy0 : zb.natAbs ≠ 0 := fun e => by have := hb.dig.len; rw [e, dlen_zero] at this; omega
  have HY0 := hide hy0
  have HDV := hide hdiv
  clear hy0
  clear hdiv
  go_enter Tryz.func14, Tryz.ntmps14
  go_wp2_with fail
  obtain ⟨W0, hW0⟩ : ∃ W0, (((w.alloc (Obj.cells #[Value.bool true, Value.slice aa na ca] 27)).alloc (Obj.cells #[Value.bool sb, Value.slice ab nb cb] 27)).alloc (Obj.cells #[Value.bool false, Value.slice none 0 0] 27)).alloc (Obj.cells #[Value.bool false, Value.slice none 0 0] 27) = W0 := ⟨_, rfl⟩
  have bA : Box2 W0 w.heap.size (.bool true) (.slice aa na ca) := by rw [← hW0]; exact (((Box2.new w _ _ _).alloc _).alloc _).alloc _
  have bB : Box2 W0 (w.heap.size + 1) (.bool sb) (.slice ab nb cb) := by
    have := ((Box2.new (w.alloc (Obj.cells #[Value.bool true, Value.slice aa na ca] 27)) (.bool sb) (.slice ab nb cb) 27).alloc (Obj.cells #[Value.bool false, Value.slice none 0 0] 27)).alloc (Obj.cells #[Value.bool false, Value.slice none 0 0] 27)
    rw [World.size_alloc] at this; rw [← hW0]; exact this
  have bC : Box2 W0 (w.heap.size + 1 + 1) (.bool false) (.slice none 0 0) := by
    have := (Box2.new ((w.alloc (Obj.cells #[Value.bool true, Value.slice aa na ca] 27)).alloc (Obj.cells #[Value.bool sb, Value.slice ab nb cb] 27)) (.bool false) (.slice none 0 0) 27).alloc (Obj.cells #[Value.bool false, Value.slice none 0 0] 27)
    rw [World.size_alloc, World.size_alloc] at this; rw [← hW0]; exact this
  have bD : Box2 W0 (w.heap.size + 1 + 1 + 1) (.bool false) (.slice none 0 0) := by
    have := Box2.new (((w.alloc (Obj.cells #[Value.bool true, Value.slice aa na ca] 27)).alloc (Obj.cells #[Value.bool sb, Value.slice ab nb cb] 27)).alloc (Obj.cells #[Value.bool false, Value.slice none 0 0] 27)) (.bool false) (.slice none 0 0) 27
    rw [World.size_alloc, World.size_alloc, World.size_alloc] at this; rw [← hW0]; exact this
  have hsz : W0.heap.size = w.heap.size + 4 := by rw [← hW0]; simp
  have hB0 : Below w.heap.size w W0 := by rw [← hW0]; exact ((((Below.refl _ w).alloc (Nat.le_refl _) _).alloc (by simp) _).alloc (by simp; omega) _).alloc (by simp; omega) _
  rw [hW0]
  clear hW0
  refine (right_yes true aa na ca za hna _ (ha.below hB0)).mono ?_
  rintro e w1 ⟨rfl, hb1⟩
  have hB1 : Below w.heap.size w w1 := hB0.trans (hb1.mono (by omega))
  have bA1 := bA.below hb1 (by omega)
  have bB1 := bB.below hb1 (by omega)
  have bC1 := bC.below hb1 (by omega)
  have bD1 := bD.below hb1 (by omega)
  obtain ⟨b0, b1, -, -⟩ := bB1
  go_wp2_with fail
  refine (right_yes sb ab nb cb zb hnb _ (hb.below hB1)).mono ?_
  rintro e w2 ⟨rfl, hb2⟩
  have hB2 : Below w.heap.size w w2 := hB1.trans (hb2.mono hB1.size)
  have hs1 := hb1.size
  have bA2 := bA1.below hb2 (by omega)
  have bB2 := bB.below (hb1.trans (hb2.mono hb1.size)) (by omega)
  have bC2 := bC1.below hb2 (by omega)
  have bD2 := bD1.below hb2 (by omega)
  clear b0 b1 hs1
  have bA2k := bA2
  have bB2k := bB2
  obtain ⟨a0, a1, -, -⟩ := bA2
  obtain ⟨b0, b1, -, -⟩ := bB2
  go_wp2_with fail
  refine (HDV.out _ hB2).mono ?_
  rintro e w3 ⟨aq, nq, cq, ar, nr, cr, rfl, hq, hcq, hfq, hr, hcr, hfr, hb3⟩
  have hB3 : Below w.heap.size w w3 := hB2.trans (hb3.mono hB2.size)
  have bA3 := bA2k.below hb3 bA2k.lt
  have bB3 := bB2k.below hb3 bB2k.lt
  have bC3 := bC2.below hb3 bC2.lt
  have bD3 := bD2.below hb3 bD2.lt
  clear a0 a1 b0 b1
  have bA3k := bA3
  have bB3k := bB3
  obtain ⟨a0, a1, -, -⟩ := bA3
  obtain ⟨b0, b1, -, -⟩ := bB3
  have hnr0 : 0 < nr := by rw [hr.len]; exact Nat.pos_of_ne_zero fun e => hmod (dlen_eq_zero.1 e)
  have hmodk := hide hmod
  clear hmod
  go_wp2_with fail
  have hBa : Below w3.heap.size w3 (w3.alloc (Obj.cells #[Value.int .u32 1] 52)).drew := ((Below.refl _ w3).alloc (Nat.le_refl _) _).drew
  have hQa : IsD (w3.alloc (Obj.cells #[Value.int .u32 1] 52)).drew aq nq (za.natAbs / zb.natAbs) := hq.below hBa
  have hRa : IsD (w3.alloc (Obj.cells #[Value.int .u32 1] 52)).drew ar nr (za.natAbs % zb.natAbs) := hr.below hBa
  have hYa : IsD (w3.alloc (Obj.cells #[Value.int .u32 1] 52)).drew ab nb zb.natAbs := (hb.dig.below hB3).below hBa
  have hOne : IsD (w3.alloc (Obj.cells #[Value.int .u32 1] 52)).drew (some ⟨w3.heap.size, 0, none⟩) 1 1 :=
    ⟨(dlen_one (by decide) (by decide)).symm, .inr ⟨_, _, rfl, fun j hj => by match j, hj with | 0, _ => simp [go_sem, dgt, bp_zero]⟩⟩
  have hq64 : nq ≤ 64 := by rw [hq.len]; refine Nat.le_trans (dlen_mono (Nat.div_le_self _ _)) ?_; rw [← ha.dig.len]; exact hna
  have hlt : w.heap.size + 1 < w3.heap.size := bB3k.lt
  have bA3d := (bA3k.below hBa bA3k.lt)
  have bB3d := (bB3k.below hBa bB3k.lt)
  have bC3d := (bC3.below hBa bC3.lt)
  have bD3d := (bD3.below hBa bD3.lt)
  clear a0 a1 b0
  go_region_held3 (fun w' => w'.cell? ⟨w.heap.size + 1, 1, none⟩ = some (.slice ab nb cb))
    (first | exact b1 | exact b1' | exact b1'' | go_keep)
    (first
      | (go_at_call 40; refine (plus_any aq _ _ 1 nq 1 cq 1 (by omega) (by decide) _ hQa hOne).mono ?_; rintro e w5 ⟨a5, n5, c5, rfl, hd5, hcap5, hfr5, hb5⟩; have b1' := (bB3d.below hb5 bB3d.lt).c1)
      | (go_at_call 41; refine (minus_any ab ar _ _ nb nr cb cr (by omega) _ (hYa.below hb5) (hRa.below hb5) (Nat.le_of_lt (Nat.mod_lt _ (Nat.pos_of_ne_zero HY0.out)))).mono ?_; rintro e w6 ⟨a6, n6, c6, rfl, hd6, hcap6, hfr6, hb6⟩; have b1'' := ((bB3d.below hb5 bB3d.lt).below hb6 (Nat.lt_of_lt_of_le bB3d.lt hb5.size)).c1))
  have hB6' : Below w3.heap.size w3 w6 := (hBa.trans (hb5.mono hBa.size)).trans (hb6.mono (Nat.le_trans hBa.size hb5.size))
  have hB3o := hB3
  have hB3 : Below w.heap.size w w6 := hB3o.trans (hB6'.mono hB3o.size)
  have bA6 := bA3k.below hB6' bA3k.lt
  have bB6 := bB3k.below hB6' bB3k.lt
  have bC3 := bC3.below hB6' bC3.lt
  have bD3 := bD3.below hB6' bD3.lt
  have hf5 : n5 = 0 ∨ Fresh w2 a5 := hfr5.imp id fun h ad e => Nat.le_trans hb3.size (Nat.le_trans hBa.size (h ad e))
  have hf6 : n6 = 0 ∨ Fresh w2 a6 := hfr6.imp id fun h ad e => Nat.le_trans hb3.size (Nat.le_trans hBa.size (Nat.le_trans hb5.size (h ad e)))
  have hd5' := hd5.below hb6
  have hq64 : n5 ≤ 64 := by
    rw [hd5.len]; refine Nat.le_trans (dlen_mono (b := za.natAbs) ?_) (by rw [← ha.dig.len]; exact hna)
    have h1 := Nat.div_add_mod za.natAbs zb.natAbs
    have h2 : 2 * (za.natAbs / zb.natAbs) ≤ zb.natAbs * (za.natAbs / zb.natAbs) := Nat.mul_le_mul_right _ (by
      have h3 : za.natAbs % zb.natAbs ≠ 0 := hmodk
      have h4 : zb.natAbs ≠ 0 := HY0
      rcases Nat.lt_or_ge zb.natAbs 2 with h | h
      · rw [show zb.natAbs = 1 by omega, Nat.mod_one] at h3; exact absurd rfl h3
      · exact h)
    have h3 : za.natAbs % zb.natAbs ≠ 0 := hmodk
    omega
  have hr64 : n6 ≤ 64 := by rw [hd6.len]; refine Nat.le_trans (dlen_mono (Nat.sub_le _ _)) ?_; rw [← hb.dig.len]; exact hnb
  clear b1 b1' b1''
  obtain ⟨a0, a1, -, -⟩ := bA6
  obtain ⟨b0, b1, -, -⟩ := bB6
  go_wp2_with fail
  refine (number_of (!sb) a5 n5 c5 _ hcap5 hq64 _ hd5').mono ?_
  rintro e w4 ⟨sq, aq', nq', cq', rfl, hnq', haq', hb4⟩
  have bC4 := bC3.below hb4 bC3.lt
  have bD4 := bD3.below hb4 bD3.lt
  clear a0 a1 b0 b1
  go_wp2_with fail
  have hB4 : Below w.heap.size w w4 := hB3.trans (hb4.mono hB3.size)
  obtain ⟨W4, hW4⟩ : ∃ W4, w4.alloc (Obj.cells #[Value.bool sq, Value.slice aq' nq' cq'] 27) = W4 := ⟨_, rfl⟩
  have hB4' : Below w4.heap.size w4 W4 := by rw [← hW4]; exact (Below.refl _ w4).alloc (Nat.le_refl _) _
  have bQ : Box2 W4 w4.heap.size (.bool sq) (.slice aq' nq' cq') := by rw [← hW4]; exact Box2.new _ _ _ _
  rw [hW4]
  clear hW4
  refine (number_of false a6 n6 c6 _ hcap6 hr64 _ ((hd6.below hb4).below hB4')).mono ?_
  rintro e w5 ⟨sr, ar', nr', cr', rfl, hnr', har', hb5⟩
  have hs4 := hB4'.size
  have bQ5 := bQ.below hb5 bQ.lt
  have bC5 := (bC4.below hB4' bC4.lt).below hb5 (by have := bC4.lt; omega)
  have bD5 := (bD4.below hB4' bD4.lt).below hb5 (by have := bD4.lt; omega)
  have hB5 : Below w.heap.size w w5 := (hB4.trans (hB4'.mono hB4.size)).trans (hb5.mono (Nat.le_trans hB4.size hs4))
  have hnq5 := (hnq'.below hB4').below hb5
  go_wp2_with fail
  obtain ⟨W6, hW6⟩ : ∃ W6, w5.alloc (Obj.cells #[Value.bool sr, Value.slice ar' nr' cr'] 27) = W6 := ⟨_, rfl⟩
  have hB5' : Below w5.heap.size w5 W6 := by rw [← hW6]; exact (Below.refl _ w5).alloc (Nat.le_refl _) _
  have bR6 : Box2 W6 w5.heap.size (.bool sr) (.slice ar' nr' cr') := by rw [← hW6]; exact Box2.new _ _ _ _
  have bQ6 := bQ5.below hB5' bQ5.lt
  have bC6 := bC5.below hB5' bC5.lt
  have bD6 := bD5.below hB5' bD5.lt
  have hB6 : Below w.heap.size w W6 := hB5.trans (hB5'.mono hB5.size)
  have hnq6 := hnq5.below hB5'
  have hnr6 := hnr'.below hB5'
  rw [hW6]
  clear hW6
  have hne1 : w.heap.size + 1 + 1 ≠ w4.heap.size := by have := bC4.lt; omega
  have hne2 : w.heap.size + 1 + 1 ≠ w5.heap.size := by have := bC5.lt; omega
  have hne3 : w.heap.size + 1 + 1 + 1 ≠ w4.heap.size := by have := bD4.lt; omega
  have hne4 : w.heap.size + 1 + 1 + 1 ≠ w5.heap.size := by have := bD5.lt; omega
  have bC6k := bC6
  have bD6k := bD6
  obtain ⟨r0, r1, -, -⟩ := bR6
  obtain ⟨q0, q1, -, -⟩ := bQ6
  obtain ⟨c0, c1, cf0, cf1⟩ := bC6
  obtain ⟨d0, d1, df0, df1⟩ := bD6
  go_region
  clear r0 r1 q0 q1 c0 c1 cf0 cf1 d0 d1 df0 df1 hne1 hne2 hne3 hne4
  have hs2 : w.heap.size + 1 + 1 + 1 < w2.heap.size := bD2.lt
  have hfq6 : nq' = 0 ∨ ∀ ad, aq' = some ad → w2.heap.size ≤ ad.block := by
    have hn43 : nq' = n5 := by rw [hnq'.dig.len, hd5'.len, signed_abs]
    rcases haq' with h | h
    · exact .inl h
    · rcases hf5 with h' | h'
      · first | exact .inl (hn43.trans h') | exact .inl hn43
      · exact .inr fun ad e => h' ad (h ▸ e)
  have hfr6 : nr' = 0 ∨ ∀ ad, ar' = some ad → w2.heap.size ≤ ad.block := by
    have hn43 : nr' = n6 := by rw [hnr'.dig.len, hd6.len, signed_abs]
    rcases har' with h | h
    · exact .inl h
    · rcases hf6 with h' | h'
      · first | exact .inl (hn43.trans h') | exact .inl hn43
      · exact .inr fun ad e => h' ad (h ▸ e)
  have off : ∀ {n : Nat} {a : Option Addr} {B : Nat}, (n = 0 ∨ ∀ ad, a = some ad → w2.heap.size ≤ ad.block) → B < w2.heap.size → (n = 0 ∨ ∀ ad, a = some ad → ad.block ≠ B) := fun h hB => h.imp id fun h' ad e => by have := h' ad e; omega
  have kC := bC6k.set (.bool sq) (.slice aq' nq' cq')
  have kD := bD6k.other (.bool sq) (.slice aq' nq' cq') (C := w.heap.size + 1 + 1 + 1) (B := w.heap.size + 1 + 1) (by omega)
  have kQ := (hnq6.set2 bC6k (.bool sq) (.slice aq' nq' cq') (off hfq6 (by omega))).set2 kD (.bool sr) (.slice ar' nr' cr') (off hfq6 (by omega))
  have kR := (hnr6.set2 bC6k (.bool sq) (.slice aq' nq' cq') (off hfr6 (by omega))).set2 kD (.bool sr) (.slice ar' nr' cr') (off hfr6 (by omega))
  have kB := below_set2 (below_set2 hB6 (B := w.heap.size + 1 + 1) (by omega) (.bool sq) (.slice aq' nq' cq')) (B := w.heap.size + 1 + 1 + 1) (by omega) (.bool sr) (.slice ar' nr' cr')
  have kC2 := kC.other (.bool sr) (.slice ar' nr' cr') (C := w.heap.size + 1 + 1) (B := w.heap.size + 1 + 1 + 1) (by omega)
  have kD2 := kD.set (.bool sr) (.slice ar' nr' cr')
  obtain ⟨W7, hW7⟩ : ∃ W7, (((W6.setCell ⟨w.heap.size + 1 + 1, 0, none⟩ (.bool sq)).setCell ⟨w.heap.size + 1 + 1, 1, none⟩ (.slice aq' nq' cq')).setCell ⟨w.heap.size + 1 + 1 + 1, 0, none⟩ (.bool sr)).setCell ⟨w.heap.size + 1 + 1 + 1, 1, none⟩ (.slice ar' nr' cr') = W7 := ⟨_, rfl⟩
  rw [hW7] at kQ kR kB kC2 kD2 ⊢
  clear hW7 kC kD
  have kd := Below.drew (Below.refl W7.heap.size W7)
  have fQ := kQ.below kd
  have fR := kR.below kd
  have fB := kB.trans (kd.mono kB.size)
  obtain ⟨q0, q1, -, -⟩ := kC2.below kd kC2.lt
  obtain ⟨r0, r1, -, -⟩ := kD2.below kd kD2.lt
  clear kd kC2 kD2
  go_wp2
  refine bodyPost_ret (v := .tuple #[.agg #[.bool sq, .slice aq' nq' cq'], .agg #[.bool sr, .slice ar' nr' cr'], .bool true]) (by simp [results, Tryz.results14, go_sem, q0, q1, r0, r1]) rfl ?_
  refine ⟨_, _, _, _, _, _, _, _, _, _, rfl, ?_, ?_, ?_, fQ, fR, hfq6.imp id fun h ad e => Nat.le_trans hB2.size (h ad e), hfr6.imp id fun h ad e => Nat.le_trans hB2.size (h ad e), ?_, ?_, fB⟩
  · have e := divs_adj sb za.natAbs zb.natAbs HY0.out
    rw [← ha.signed_eq, ← hb.signed_eq] at e
    simpa [signed] using e
  · simp [signed]
  · have := Nat.mod_lt za.natAbs (Nat.pos_of_ne_zero HY0.out)
    have h3 : za.natAbs % zb.natAbs ≠ 0 := hmodk
    simp only [signed]; simp only [Bool.false_eq_true, if_false]; omega
  · rw [hnq'.dig.len, signed_abs, ← hd5'.len]; exact hq64
  · rw [hnr'.dig.len, signed_abs, ← hd6.len]; exact hr64
end Go.Proofs.YtmpdeiopdempcaaGreatDoor
