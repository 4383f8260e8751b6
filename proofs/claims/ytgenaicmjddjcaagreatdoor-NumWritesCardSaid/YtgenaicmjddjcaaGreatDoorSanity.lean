/- the law's sanity: it is true. -/
import Derived.Test.YtgenaicmjddjcaaGreatDoorPText
namespace Go.Proofs.YtgenaicmjddjcaaGreatDoor
open Go.RowKit Go.Shelf
theorem dlen_two {x : Nat} (h0 : 4294967296 ≤ x) (h : x < 18446744073709551616) : dlen x = 2 := by
 rw [dlen_pos (by omega), dlen_one (by omega) (by omega)]
theorem dgt_one {d : Nat} (hd : d < 4294967296) : dgt d 0 = d := by unfold dgt; rw [bp_zero, Nat.div_one, Nat.mod_eq_of_lt hd]
theorem dgt_lo {d0 d1 : Nat} (h : d0 < 4294967296) : dgt (d0 + 4294967296 * d1) 0 = d0 := by unfold dgt; rw [bp_zero]; omega
theorem dgt_hi {d0 d1 : Nat} (h0 : d0 < 4294967296) (h : d1 < 4294967296) : dgt (d0 + 4294967296 * d1) 1 = d1 := by unfold dgt; rw [bp_one]; omega
theorem lit_one (w : World) (d : Nat) (hd : d < 4294967296) (v : Value) (hv : v = .int .u32 (d : Int)) : Dig (w.alloc (Obj.cells #[v] 68)) (some ⟨w.heap.size, 0, none⟩) 1 (dgt d) :=
 .inr ⟨_, _, rfl, fun j hj => by match j, hj with | 0, _ => rw [dgt_one hd, ← hv]; simp [go_sem]⟩
theorem lit_two (w : World) (d0 d1 : Nat) (h0 : d0 < 4294967296) (h1 : d1 < 4294967296) (u v : Value) (hu : u = .int .u32 (d0 : Int)) (hv : v = .int .u32 (d1 : Int)) :
 Dig (w.alloc (Obj.cells #[u, v] 68)) (some ⟨w.heap.size, 0, none⟩) 2 (dgt (d0 + 4294967296 * d1)) :=
 .inr ⟨_, _, rfl, fun j hj => by
  match j, hj with
  | 0, _ => rw [dgt_lo h0, ← hu]; simp [go_sem]
  | 1, _ => rw [dgt_hi h0 h1, ← hv]; simp [go_sem]⟩
theorem NumPost.lit {w : World} {z : Int} {e : Ending} {w' : World} (h : NumPost w z e w') (s : Bool) (n : Nat) (hs : decide (z < 0) = s) (hn : dlen z.natAbs = n) :
 ∃ (a : Option Addr) (c : Nat), e = .returned (.tuple #[.agg #[.bool s, .slice a n c], .bool true]) ∧ IsN w' s a n z ∧ Below w.heap.size w w' := by
 obtain ⟨s', a, n', c, rfl, hN, -, hb⟩ := h
 obtain rfl : s' = s := hN.sign.trans hs
 obtain rfl : n' = n := hN.dig.len.trans hn
 exact ⟨a, c, rfl, hN, hb⟩
theorem of_lit (z : Int) (s : Bool) (n : Nat) (hz : -9223372036854775808 ≤ z) (hz' : z ≤ 9223372036854775807) (hs : decide (z < 0) = s) (hn : dlen z.natAbs = n) (w : World) :
 Calls Tryz.prog 54 #[.int .i64 z] w fun e w' => ∃ (a : Option Addr) (c : Nat), e = .returned (.agg #[.bool s, .slice a n c]) ∧ IsN w' s a n z ∧ Below w.heap.size w w' := by
 refine (of_any z hz hz' w).mono ?_
 rintro e w' ⟨s', a, n', c, rfl, hN, hb⟩
 obtain rfl : s' = s := hN.sign.trans hs
 obtain rfl : n' = n := hN.dig.len.trans hn
 exact ⟨a, c, rfl, hN, hb⟩
theorem dlen_three : dlen 18446744073709551616 = 3 := by
 rw [dlen_pos (by decide), show 18446744073709551616 / 4294967296 = 4294967296 from by decide, dlen_two (by decide) (by decide)]
theorem lit_three (w : World) : Dig (w.alloc (Obj.cells #[.int .u32 0, .int .u32 0, .int .u32 1] 68)) (some ⟨w.heap.size, 0, none⟩) 3 (dgt 18446744073709551616) :=
 .inr ⟨_, _, rfl, fun j hj => by
  match j, hj with
  | 0, _ => rw [show dgt 18446744073709551616 0 = 0 from by decide]; simp [go_sem]
  | 1, _ => rw [show dgt 18446744073709551616 1 = 0 from by decide]; simp [go_sem]
  | 2, _ => rw [show dgt 18446744073709551616 2 = 1 from by decide]; simp [go_sem]⟩
structure Held (w : World) (B : Nat) (s : Bool) (a : Option Addr) (n c : Nat) (z : Int) : Prop where
 box : Box2 w B (.bool s) (.slice a n c)
 num : IsN w s a n z
theorem Held.below {w w' : World} {B : Nat} {s : Bool} {a : Option Addr} {n c : Nat} {z : Int} (h : Held w B s a n c z) (t : Below w.heap.size w w') : Held w' B s a n c z := ⟨h.box.below t h.box.lt, h.num.below t⟩
theorem Held.new {w : World} {s : Bool} {a : Option Addr} {n : Nat} {z : Int} (c : Nat) (h : IsN w s a n z) (t : TypeId) : Held (w.alloc (Obj.cells #[.bool s, .slice a n c] t)) w.heap.size s a n c z :=
 ⟨Box2.new _ _ _ _, h.below ((Below.refl _ w).alloc (Nat.le_refl _) _)⟩
theorem below_alloc (w : World) (o : Obj) : Below w.heap.size w (w.alloc o) := (Below.refl _ w).alloc (Nat.le_refl _) _

set_option maxRecDepth 100000 in
set_option maxHeartbeats 16000000 in
theorem sanity_true (w : World) (ht : Pow10 w) :
 Calls Tryz.prog 8 #[] w fun e w' => e = .returned (.bool true) ∧ Below w.heap.size w w' := by
 go_enter Tryz.func8, Tryz.ntmps8
 go_wp2_with fail
 have hb : IsN (w.alloc (Obj.cells #[.int .u32 4294967295] 68)) false (some ⟨w.heap.size, 0, none⟩) 1 4294967295 := ⟨by decide, ⟨(dlen_one (by decide) (by decide)).symm, lit_one w 4294967295 (by decide) _ rfl⟩⟩
 have H1 := Held.new 1 hb 25
 rw [World.size_alloc] at H1
 have hB : Below w.heap.size w ((w.alloc (Obj.cells #[.int .u32 4294967295] 68)).alloc (Obj.cells #[.bool false, .slice (some ⟨w.heap.size, 0, none⟩) 1 1] 25)) := (below_alloc _ _).trans ((below_alloc _ _).mono (by simp))
 obtain ⟨W1, hW1⟩ : ∃ W1, (w.alloc (Obj.cells #[.int .u32 4294967295] 68)).alloc (Obj.cells #[.bool false, .slice (some ⟨w.heap.size, 0, none⟩) 1 1] 25) = W1 := ⟨_, rfl⟩
 rw [hW1] at H1 hB ⊢
 clear hW1 hb
 refine (mul_any false false _ _ 1 1 1 1 4294967295 4294967295 (by decide) (by decide) W1 H1.num H1.num (by rw [dlen_two (by decide) (by decide)]; decide)).mono ?_
 clear H1
 intro e w2 h
 obtain ⟨a2, c2, rfl, h2, hb2⟩ := h.lit false 2 (by decide) (dlen_two (by decide) (by decide))
 have hB := hB.trans (hb2.mono hB.size)
 have H2 := Held.new c2 h2 25
 have hB := hB.trans ((below_alloc w2 (Obj.cells #[.bool false, .slice a2 2 c2] 25)).mono hB.size)
 have hkeep := below_alloc w2 (Obj.cells #[.bool false, .slice a2 2 c2] 25)
 obtain ⟨W2, hW2⟩ : ∃ W2, w2.alloc (Obj.cells #[.bool false, .slice a2 2 c2] 25) = W2 := ⟨_, rfl⟩
 obtain ⟨B2, hB2⟩ : ∃ B2, w2.heap.size = B2 := ⟨_, rfl⟩
 rw [hW2] at hB hkeep H2
 rw [hB2] at H2
 go_wp2_with fail
 try rw [hW2]
 try rw [hB2]
 clear hW2 hB2
 clear h2 h hb2 hkeep
 refine (of_lit 4294967296 false 2 (by decide) (by decide) (by decide) (dlen_two (by decide) (by decide)) W2).mono ?_
 rintro e w3 ⟨a_n3, c_n3, rfl, n3, hkeep⟩
 have hB := hB.trans (hkeep.mono hB.size)
 have H2 := H2.below hkeep
 go_wp2_with fail
 refine (of_lit 1 false 1 (by decide) (by decide) (by decide) (dlen_one (by decide) (by decide)) w3).mono ?_
 rintro e w4 ⟨a_n4, c_n4, rfl, n4, hkeep⟩
 have hB := hB.trans (hkeep.mono hB.size)
 have H2 := H2.below hkeep
 have n3 := n3.below hkeep
 go_wp2_with fail
 refine (sub_any false false a_n3 a_n4 2 1 c_n3 c_n4 4294967296 1 (by decide) (by decide) w4 n3 n4 (by rw [show (4294967296 - 1 : Int).natAbs = 4294967295 from rfl, dlen_one (by decide) (by decide)]; decide)).mono ?_
 intro e w5 hpost
 obtain ⟨a_n5, c_n5, rfl, n5, hkeep⟩ := hpost.lit false 1 (by decide) (dlen_one (by decide) (by decide))
 clear hpost
 have n5 : IsN w5 false a_n5 1 4294967295 := n5
 have hB := hB.trans (hkeep.mono hB.size)
 have H2 := H2.below hkeep
 clear n3 n4
 have H4 := Held.new c_n5 n5 25
 have hB := hB.trans ((below_alloc w5 (Obj.cells #[.bool false, .slice a_n5 1 c_n5] 25)).mono hB.size)
 have hkeep := below_alloc w5 (Obj.cells #[.bool false, .slice a_n5 1 c_n5] 25)
 obtain ⟨W4, hW4⟩ : ∃ W4, w5.alloc (Obj.cells #[.bool false, .slice a_n5 1 c_n5] 25) = W4 := ⟨_, rfl⟩
 obtain ⟨B4, hB4⟩ : ∃ B4, w5.heap.size = B4 := ⟨_, rfl⟩
 rw [hW4] at hB hkeep H4
 rw [hB4] at H4
 go_wp2_with fail
 try rw [hW4]
 try rw [hB4]
 clear hW4 hB4
 have H2 := H2.below hkeep
 refine (of_lit 4294967296 false 2 (by decide) (by decide) (by decide) (dlen_two (by decide) (by decide)) W4).mono ?_
 rintro e w6 ⟨a_n6, c_n6, rfl, n6, hkeep⟩
 have hB := hB.trans (hkeep.mono hB.size)
 have H2 := H2.below hkeep
 have H4 := H4.below hkeep
 go_wp2_with fail
 have hkeep := below_alloc w6 (Obj.cells #[.int .u32 0, .int .u32 1] 68)
 have hnd : Dig (w6.alloc (Obj.cells #[.int .u32 0, .int .u32 1] 68)) a_n6 2 (dgt 4294967296) := Dig.below n6.dig.dig hkeep
 have hld : Dig (w6.alloc (Obj.cells #[.int .u32 0, .int .u32 1] 68)) (some ⟨w6.heap.size, 0, none⟩) 2 (dgt 4294967296) := lit_two w6 0 1 (by decide) (by decide) _ _ rfl rfl
 have hB := hB.trans (hkeep.mono hB.size)
 have H2 := H2.below hkeep
 have H4 := H4.below hkeep
 refine (is_yes false a_n6 (some ⟨w6.heap.size, 0, none⟩) 2 c_n6 2 (dgt 4294967296) (by decide) _ hnd hld).mono ?_
 clear hnd hld
 rintro e w7 ⟨rfl, hkeep⟩
 have hB := hB.trans (hkeep.mono hB.size)
 have H2 := H2.below hkeep
 have H4 := H4.below hkeep
 clear n6
 go_wp2_with fail
 refine (of_lit (-1) true 1 (by decide) (by decide) (by decide) (dlen_one (by decide) (by decide)) w7).mono ?_
 rintro e w8 ⟨a_n8, c_n8, rfl, n8, hkeep⟩
 have hB := hB.trans (hkeep.mono hB.size)
 have H2 := H2.below hkeep
 have H4 := H4.below hkeep
 go_wp2_with fail
 have hkeep := below_alloc w8 (Obj.cells #[.int .u32 1] 68)
 have hnd : Dig (w8.alloc (Obj.cells #[.int .u32 1] 68)) a_n8 1 (dgt 1) := Dig.below n8.dig.dig hkeep
 have hld : Dig (w8.alloc (Obj.cells #[.int .u32 1] 68)) (some ⟨w8.heap.size, 0, none⟩) 1 (dgt 1) := lit_one w8 1 (by decide) _ rfl
 have hB := hB.trans (hkeep.mono hB.size)
 have H2 := H2.below hkeep
 have H4 := H4.below hkeep
 refine (is_yes true a_n8 (some ⟨w8.heap.size, 0, none⟩) 1 c_n8 1 (dgt 1) (by decide) _ hnd hld).mono ?_
 clear hnd hld
 rintro e w9 ⟨rfl, hkeep⟩
 have hB := hB.trans (hkeep.mono hB.size)
 have H2 := H2.below hkeep
 have H4 := H4.below hkeep
 clear n8
 obtain ⟨x0, x1, -, -⟩ := H2.box
 go_wp2_with fail
 clear x0 x1
 have hkeep := below_alloc w9 (Obj.cells #[.int .u32 1, .int .u32 4294967294] 68)
 have hnd : Dig (w9.alloc (Obj.cells #[.int .u32 1, .int .u32 4294967294] 68)) a2 2 (dgt 18446744065119617025) := Dig.below H2.num.dig.dig hkeep
 have hld : Dig (w9.alloc (Obj.cells #[.int .u32 1, .int .u32 4294967294] 68)) (some ⟨w9.heap.size, 0, none⟩) 2 (dgt 18446744065119617025) := lit_two w9 1 4294967294 (by decide) (by decide) _ _ rfl rfl
 have hB := hB.trans (hkeep.mono hB.size)
 have H4 := H4.below hkeep
 refine (is_yes false a2 (some ⟨w9.heap.size, 0, none⟩) 2 c2 2 (dgt 18446744065119617025) (by decide) _ hnd hld).mono ?_
 clear hnd hld
 rintro e w10 ⟨rfl, hkeep⟩
 have hB := hB.trans (hkeep.mono hB.size)
 have H4 := H4.below hkeep
 clear H2
 obtain ⟨x0, x1, -, -⟩ := H4.box
 go_wp2_with fail
 clear x0 x1
 have hkeep := below_alloc w10 (Obj.cells #[.int .u32 4294967295] 68)
 have hnd : Dig (w10.alloc (Obj.cells #[.int .u32 4294967295] 68)) a_n5 1 (dgt 4294967295) := Dig.below H4.num.dig.dig hkeep
 have hld : Dig (w10.alloc (Obj.cells #[.int .u32 4294967295] 68)) (some ⟨w10.heap.size, 0, none⟩) 1 (dgt 4294967295) := lit_one w10 4294967295 (by decide) _ rfl
 have hB := hB.trans (hkeep.mono hB.size)
 refine (is_yes false a_n5 (some ⟨w10.heap.size, 0, none⟩) 1 c_n5 1 (dgt 4294967295) (by decide) _ hnd hld).mono ?_
 clear hnd hld
 rintro e w11 ⟨rfl, hkeep⟩
 have hB := hB.trans (hkeep.mono hB.size)
 clear H4
 go_wp2_with fail
 refine (of_lit 7 false 1 (by decide) (by decide) (by decide) (dlen_one (by decide) (by decide)) w11).mono ?_
 rintro e w12 ⟨a_n12, c_n12, rfl, n12, hkeep⟩
 have hB := hB.trans (hkeep.mono hB.size)
 go_wp2_with fail
 refine (of_lit 0 false 0 (by decide) (by decide) (by decide) dlen_zero w12).mono ?_
 rintro e w13 ⟨a_n13, c_n13, rfl, n13, hkeep⟩
 have hB := hB.trans (hkeep.mono hB.size)
 have n12 := n12.below hkeep
 go_wp2_with fail
 refine (div_zero false false a_n12 a_n13 1 c_n12 c_n13 7 (by decide) w13 n12 n13).mono ?_
 rintro e w14 ⟨rfl, hkeep⟩
 have hB := hB.trans (hkeep.mono hB.size)
 clear n12 n13
 have hkeep : Below w14.heap.size w14 ((w14.alloc (Obj.cells #[.bool false, .slice none 0 0] 25)).alloc (Obj.cells #[.bool false, .slice none 0 0] 25)) := (below_alloc _ _).trans ((below_alloc _ _).mono (by simp))
 have hB := hB.trans (hkeep.mono hB.size)
 go_wp2_with fail
 obtain ⟨W14, hW14⟩ : ∃ W14, (w14.alloc (Obj.cells #[.bool false, .slice none 0 0] 25)).alloc (Obj.cells #[.bool false, .slice none 0 0] 25) = W14 := ⟨_, rfl⟩
 rw [hW14] at hB ⊢
 clear hW14 hkeep
 refine (divides_yes (-7) 2 (-4) 1 (by decide) (by decide) (by decide) (by decide) (by decide) (by decide) (by decide) (by decide) (by decide) (fun q' r' h1 h2 h3 => by omega) W14).mono ?_
 rintro e w15 ⟨rfl, hkeep⟩
 have hB := hB.trans (hkeep.mono hB.size)
 go_wp2_with fail
 refine (divides_yes 7 (-2) (-3) 1 (by decide) (by decide) (by decide) (by decide) (by decide) (by decide) (by decide) (by decide) (by decide) (fun q' r' h1 h2 h3 => by omega) w15).mono ?_
 rintro e w16 ⟨rfl, hkeep⟩
 have hB := hB.trans (hkeep.mono hB.size)
 go_wp2_with fail
 refine (divides_yes (-7) (-2) 4 1 (by decide) (by decide) (by decide) (by decide) (by decide) (by decide) (by decide) (by decide) (by decide) (fun q' r' h1 h2 h3 => by omega) w16).mono ?_
 rintro e w17 ⟨rfl, hkeep⟩
 have hB := hB.trans (hkeep.mono hB.size)
 go_wp2_with fail
 refine (of_lit (-12) true 1 (by decide) (by decide) (by decide) (dlen_one (by decide) (by decide)) w17).mono ?_
 rintro e w18 ⟨a_n18, c_n18, rfl, n18, hkeep⟩
 have hB := hB.trans (hkeep.mono hB.size)
 go_wp2_with fail
 refine (of_lit 18 false 1 (by decide) (by decide) (by decide) (dlen_one (by decide) (by decide)) w18).mono ?_
 rintro e w19 ⟨a_n19, c_n19, rfl, n19, hkeep⟩
 have hB := hB.trans (hkeep.mono hB.size)
 have n18 := n18.below hkeep
 go_wp2_with fail
 refine (gcd_small true false a_n18 a_n19 1 1 c_n18 c_n19 (-12) 18 (by decide) (by decide) w19 n18 n19).mono ?_
 intro e w20 hpost
 obtain ⟨a_n20, c_n20, rfl, n20, hkeep⟩ := hpost.lit false 1 (by decide) (dlen_one (by decide) (by decide))
 clear hpost
 have n20 : IsN w20 false a_n20 1 6 := n20
 have hB := hB.trans (hkeep.mono hB.size)
 clear n18 n19
 have H20 := Held.new c_n20 n20 25
 have hB := hB.trans ((below_alloc w20 (Obj.cells #[.bool false, .slice a_n20 1 c_n20] 25)).mono hB.size)
 have hkeep := below_alloc w20 (Obj.cells #[.bool false, .slice a_n20 1 c_n20] 25)
 obtain ⟨W20, hW20⟩ : ∃ W20, w20.alloc (Obj.cells #[.bool false, .slice a_n20 1 c_n20] 25) = W20 := ⟨_, rfl⟩
 obtain ⟨B20, hB20⟩ : ∃ B20, w20.heap.size = B20 := ⟨_, rfl⟩
 rw [hW20] at hB hkeep H20
 rw [hB20] at H20
 go_wp2_with fail
 try rw [hW20]
 try rw [hB20]
 clear hW20 hB20
 clear n20
 refine (of_lit 0 false 0 (by decide) (by decide) (by decide) dlen_zero W20).mono ?_
 rintro e w21 ⟨a_n21, c_n21, rfl, n21, hkeep⟩
 have hB := hB.trans (hkeep.mono hB.size)
 have H20 := H20.below hkeep
 go_wp2_with fail
 refine (of_lit 0 false 0 (by decide) (by decide) (by decide) dlen_zero w21).mono ?_
 rintro e w22 ⟨a_n22, c_n22, rfl, n22, hkeep⟩
 have hB := hB.trans (hkeep.mono hB.size)
 have H20 := H20.below hkeep
 have n21 := n21.below hkeep
 go_wp2_with fail
 refine (gcd_small false false a_n21 a_n22 0 0 c_n21 c_n22 0 0 (by decide) (by decide) w22 n21 n22).mono ?_
 intro e w23 hpost
 obtain ⟨a_n23, c_n23, rfl, n23, hkeep⟩ := hpost.lit false 0 (by decide) dlen_zero
 clear hpost
 have n23 : IsN w23 false a_n23 0 0 := n23
 have hB := hB.trans (hkeep.mono hB.size)
 have H20 := H20.below hkeep
 clear n21 n22
 have H23 := Held.new c_n23 n23 25
 have hB := hB.trans ((below_alloc w23 (Obj.cells #[.bool false, .slice a_n23 0 c_n23] 25)).mono hB.size)
 have hkeep := below_alloc w23 (Obj.cells #[.bool false, .slice a_n23 0 c_n23] 25)
 obtain ⟨W23, hW23⟩ : ∃ W23, w23.alloc (Obj.cells #[.bool false, .slice a_n23 0 c_n23] 25) = W23 := ⟨_, rfl⟩
 obtain ⟨B23, hB23⟩ : ∃ B23, w23.heap.size = B23 := ⟨_, rfl⟩
 rw [hW23] at hB hkeep H23
 rw [hB23] at H23
 have H20 := H20.below hkeep
 obtain ⟨x0, x1, -, -⟩ := H20.box
 go_wp2_with fail
 clear x0 x1
 try rw [hW23]
 try rw [hB23]
 clear hW23 hB23
 clear n23
 have hkeep := below_alloc W23 (Obj.cells #[.int .u32 6] 68)
 have hnd : Dig (W23.alloc (Obj.cells #[.int .u32 6] 68)) a_n20 1 (dgt 6) := Dig.below H20.num.dig.dig hkeep
 have hld : Dig (W23.alloc (Obj.cells #[.int .u32 6] 68)) (some ⟨W23.heap.size, 0, none⟩) 1 (dgt 6) := lit_one W23 6 (by decide) _ rfl
 have hB := hB.trans (hkeep.mono hB.size)
 have H23 := H23.below hkeep
 refine (is_yes false a_n20 (some ⟨W23.heap.size, 0, none⟩) 1 c_n20 1 (dgt 6) (by decide) _ hnd hld).mono ?_
 clear hnd hld
 rintro e w24 ⟨rfl, hkeep⟩
 have hB := hB.trans (hkeep.mono hB.size)
 have H23 := H23.below hkeep
 clear H20
 obtain ⟨x0, x1, -, -⟩ := H23.box
 go_wp2_with fail
 clear x0 x1
 refine (is_yes false a_n23 none 0 c_n23 0 (dgt 0) (by decide) w24 H23.num.dig.dig (.inl rfl)).mono ?_
 rintro e w25 ⟨rfl, hkeep⟩
 have hB := hB.trans (hkeep.mono hB.size)
 clear H23
 go_wp2_with fail
 refine (parse_m12 w25).mono ?_
 intro e w26 hpost
 obtain ⟨a_n26, c_n26, rfl, n26, hkeep⟩ := hpost.lit true 1 (by decide) (dlen_one (by decide) (by decide))
 clear hpost
 have n26 : IsN w26 true a_n26 1 (-12) := n26
 have hB := hB.trans (hkeep.mono hB.size)
 have H26 := Held.new c_n26 n26 25
 have hB := hB.trans ((below_alloc w26 (Obj.cells #[.bool true, .slice a_n26 1 c_n26] 25)).mono hB.size)
 have hkeep := below_alloc w26 (Obj.cells #[.bool true, .slice a_n26 1 c_n26] 25)
 obtain ⟨W26, hW26⟩ : ∃ W26, w26.alloc (Obj.cells #[.bool true, .slice a_n26 1 c_n26] 25) = W26 := ⟨_, rfl⟩
 obtain ⟨B26, hB26⟩ : ∃ B26, w26.heap.size = B26 := ⟨_, rfl⟩
 rw [hW26] at hB hkeep H26
 rw [hB26] at H26
 go_wp2_with fail
 try rw [hW26]
 try rw [hB26]
 clear hW26 hB26
 clear n26
 refine (parse_007 W26).mono ?_
 rintro e w27 ⟨rfl, hkeep⟩
 have hB := hB.trans (hkeep.mono hB.size)
 have H26 := H26.below hkeep
 have hkeep := below_alloc w27 (Obj.cells #[.bool false, .slice none 0 0] 25)
 have hB := hB.trans (hkeep.mono hB.size)
 have H26 := H26.below hkeep
 go_wp2_with fail
 obtain ⟨W27, hW27⟩ : ∃ W27, w27.alloc (Obj.cells #[.bool false, .slice none 0 0] 25) = W27 := ⟨_, rfl⟩
 rw [hW27] at hB H26 ⊢
 have hsz : w27.heap.size + 1 = W27.heap.size := by rw [← hW27]; exact (World.size_alloc _ _).symm
 try rw [hsz]
 clear hsz
 clear hW27 hkeep
 refine (parse_m0 W27).mono ?_
 rintro e w28 ⟨rfl, hkeep⟩
 have hB := hB.trans (hkeep.mono hB.size)
 have H26 := H26.below hkeep
 have hkeep := below_alloc w28 (Obj.cells #[.bool false, .slice none 0 0] 25)
 have hB := hB.trans (hkeep.mono hB.size)
 have H26 := H26.below hkeep
 go_wp2_with fail
 obtain ⟨W28, hW28⟩ : ∃ W28, w28.alloc (Obj.cells #[.bool false, .slice none 0 0] 25) = W28 := ⟨_, rfl⟩
 rw [hW28] at hB H26 ⊢
 have hsz : w28.heap.size + 1 = W28.heap.size := by rw [← hW28]; exact (World.size_alloc _ _).symm
 try rw [hsz]
 clear hsz
 clear hW28 hkeep
 have hkeep := below_alloc W28 (Obj.cells #[.int .u32 0, .int .u32 2147483648] 68)
 have hB := hB.trans (hkeep.mono hB.size)
 have H26 := H26.below hkeep
 have hn : IsN (W28.alloc (Obj.cells #[.int .u32 0, .int .u32 2147483648] 68)) false (some ⟨W28.heap.size, 0, none⟩) 2 9223372036854775808 := ⟨by decide, ⟨(dlen_two (by decide) (by decide)).symm, lit_two W28 0 2147483648 (by decide) (by decide) _ _ rfl rfl⟩⟩
 refine (int_unfit false _ 2 2 9223372036854775808 (by decide) (.inr (by decide)) _ hn).mono ?_
 rintro e w29 ⟨rfl, hkeep⟩
 have hB := hB.trans (hkeep.mono hB.size)
 have H26 := H26.below hkeep
 clear hn hkeep
 go_wp2_with fail
 have hkeep := below_alloc w29 (Obj.cells #[.int .u32 0, .int .u32 2147483648] 68)
 have hB := hB.trans (hkeep.mono hB.size)
 have H26 := H26.below hkeep
 have hn : IsN (w29.alloc (Obj.cells #[.int .u32 0, .int .u32 2147483648] 68)) true (some ⟨w29.heap.size, 0, none⟩) 2 (-9223372036854775808) := ⟨by decide, ⟨(dlen_two (by decide) (by decide)).symm, lit_two w29 0 2147483648 (by decide) (by decide) _ _ rfl rfl⟩⟩
 refine (int_fit true _ 2 2 (-9223372036854775808) (by decide) (by decide) _ hn).mono ?_
 rintro e w30 ⟨rfl, hkeep⟩
 have hB := hB.trans (hkeep.mono hB.size)
 have H26 := H26.below hkeep
 clear hn hkeep
 obtain ⟨x0, x1, -, -⟩ := H26.box
 go_wp2_with fail
 clear x0 x1
 have hkeep := below_alloc w30 (Obj.cells #[.int .u32 12] 68)
 have hnd : Dig (w30.alloc (Obj.cells #[.int .u32 12] 68)) a_n26 1 (dgt 12) := Dig.below H26.num.dig.dig hkeep
 have hld : Dig (w30.alloc (Obj.cells #[.int .u32 12] 68)) (some ⟨w30.heap.size, 0, none⟩) 1 (dgt 12) := lit_one w30 12 (by decide) _ rfl
 have hB := hB.trans (hkeep.mono hB.size)
 refine (is_yes true a_n26 (some ⟨w30.heap.size, 0, none⟩) 1 c_n26 1 (dgt 12) (by decide) _ hnd hld).mono ?_
 clear hnd hld
 rintro e w31 ⟨rfl, hkeep⟩
 have hB := hB.trans (hkeep.mono hB.size)
 clear H26
 go_wp2_with fail
 have hkeep := below_alloc w31 (Obj.cells #[.int .u32 0, .int .u32 0, .int .u32 1] 68)
 have hB := hB.trans (hkeep.mono hB.size)
 have hn : IsN (w31.alloc (Obj.cells #[.int .u32 0, .int .u32 0, .int .u32 1] 68)) true (some ⟨w31.heap.size, 0, none⟩) 3 (-18446744073709551616) := ⟨by decide, ⟨dlen_three.symm, lit_three w31⟩⟩
 refine (text_big _ 3 _ (ht.below hB) hn).mono ?_
 rintro e w32 ⟨rfl, hkeep⟩
 have hB := hB.trans (hkeep.mono hB.size)
 clear hn hkeep
 go_wp2
 go_ret
 exact ⟨rfl, hB⟩
end Go.Proofs.YtgenaicmjddjcaaGreatDoor
