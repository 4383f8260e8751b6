/- ratio's compare and Cmp. -/
import Derived.Test.YtgenaicmjddjcaaGreatDoorRaG
import Derived.Deep.LoopGhost
import Derived.BigRegion
import Derived.WalkMore
namespace Go.Proofs.YtgenaicmjddjcaaGreatDoor
open Go.RowKit Go.Shelf

def CmpAt (w : World) (C : Int) (k : Nat) (wr : World) : Prop :=
 ∃ (p q r s : Int) (s1 : Bool) (a1 : Option Addr) (n1 c1 : Nat) (s2 : Bool) (a2 : Option Addr) (n2 c2 : Nat) (t1 : Bool) (b1 : Option Addr) (m1 d1 : Nat) (t2 : Bool) (b2 : Option Addr) (m2 d2 : Nat),
  Quad wr w.heap.size (.bool s1) (.slice a1 n1 c1) (.bool s2) (.slice a2 n2 c2) ∧ Quad wr (w.heap.size + 1) (.bool t1) (.slice b1 m1 d1) (.bool t2) (.slice b2 m2 d2) ∧
  IsN wr s1 a1 n1 p ∧ IsN wr s2 a2 n2 q ∧ IsN wr t1 b1 m1 r ∧ IsN wr t2 b2 m2 s ∧ n1 ≤ 64 ∧ n2 ≤ 64 ∧ m1 ≤ 64 ∧ m2 ≤ 64 ∧ 0 < q ∧ 0 < s ∧ cmpZ (p * s) (r * q) = C ∧ q.natAbs + s.natAbs ≤ k ∧ Below w.heap.size w wr
theorem rem_two {w : World} {s : Bool} {a : Option Addr} {n : Nat} {p q : Int} (_h : IsN w s a n (p % q)) (hq : 0 < q) : 0 ≤ p % q ∧ p % q < q := ⟨Int.emod_nonneg _ (by omega), Int.emod_lt_of_pos _ hq⟩
set_option maxRecDepth 100000 in
set_option maxHeartbeats 16000000 in
theorem compare_r (s1 s2 t1 t2 : Bool) (a1 a2 b1 b2 : Option Addr) (n1 n2 m1 m2 c1 c2 d1 d2 : Nat) (x y : Rat) (w : World) (hx : RArg w s1 a1 n1 s2 a2 n2 (some x)) (hy : RArg w t1 b1 m1 t2 b2 m2 (some y)) {C : Int} (HC : Hid (cmpR x y = C)) :
 Calls Tryz.prog 98 #[.agg #[.bool s1, .slice a1 n1 c1, .bool s2, .slice a2 n2 c2], .agg #[.bool t1, .slice b1 m1 d1, .bool t2, .slice b2 m2 d2]] w fun e w' => e = .returned (.int .i64 C) ∧ Below w.heap.size w w' := by
 go_enter Tryz.func98, Tryz.ntmps98
 go_wp2_with fail
 obtain ⟨W1, hW1⟩ : ∃ W1, ((w.alloc (Obj.cells #[.bool s1, .slice a1 n1 c1, .bool s2, .slice a2 n2 c2] 37)).alloc (Obj.cells #[.bool t1, .slice b1 m1 d1, .bool t2, .slice b2 m2 d2] 37)) = W1 := ⟨_, rfl⟩
 have qA : Quad W1 w.heap.size (.bool s1) (.slice a1 n1 c1) (.bool s2) (.slice a2 n2 c2) := by rw [← hW1]; exact (Quad.new _ _ _ _ _ _).below (below_alloc _ _)
 have qB : Quad W1 (w.heap.size + 1) (.bool t1) (.slice b1 m1 d1) (.bool t2) (.slice b2 m2 d2) := by
  rw [← hW1]; have := Quad.new (w.alloc (Obj.cells #[.bool s1, .slice a1 n1 c1, .bool s2, .slice a2 n2 c2] 37)) (.bool t1) (.slice b1 m1 d1) (.bool t2) (.slice b2 m2 d2) 37
  rw [World.size_alloc] at this; exact this
 have hB : Below w.heap.size w W1 := by rw [← hW1]; exact (below_alloc _ _).trans ((below_alloc _ _).mono (by simp))
 have hx := hx.below hB
 have hy := hy.below hB
 have H0 : CmpAt w C ((x.den : Int).natAbs + (y.den : Int).natAbs) W1 := ⟨x.num, x.den, y.num, y.den, s1, a1, n1, c1, s2, a2, n2, c2, t1, b1, m1, d1, t2, b2, m2, d2, qA, qB, hx.num, hx.den, hy.num, hy.den, hx.l1, hx.l2, hy.l1, hy.l2, rat_den_pos x, rat_den_pos y, HC.out, Nat.le_refl _, hB⟩
 try rw [hW1]
 clear hW1 hB qA qB hx hy
 clear HC
 go_step3
 go_wp2_with fail
 go_step3
 go_wp2_with fail
 go_loopg [5] ((x.den : Int).natAbs + (y.den : Int).natAbs) (fun k o wr => o = .int .i64 0 ∧ CmpAt w C k wr)
 case atStart => exact ⟨rfl, H0⟩
 case round =>
  clear H0
  obtain ⟨rfl, p, q, r, s, s1, a1, n1, c1, s2, a2, n2, c2, t1, b1, m1, d1, t2, b2, m2, d2, qA, qB, N1, N2, M1, M2, k1, k2, l1, l2, hq, hs, hC, hk, hB⟩ := hrel
  have HC := hide hC
  have HK := hide hk
  have HP := hide (And.intro hq hs)
  have pq := len_pos N2 (by omega)
  have ps := len_pos M2 (by omega)
  clear hC hk hq hs
  obtain ⟨⟨x10, x11, x12, x13⟩, -, -, -, -⟩ := id qA
  go_wp2_with fail
  clear x10 x11 x12 x13
  refine (div_num s1 s2 a1 a2 n1 n2 c1 c2 p q k1 k2 wr N1 N2 pq).mono ?_
  rintro e u1 ⟨q6, q7, s6, a6, n6, c6, s7, a7, n7, c7, rfl, e8, e9, e10, N6, N7, -, -, k6, k7, hk⟩
  obtain ⟨rfl, rfl⟩ := divs_unique e8 e9 e10 (by have := HP.out.1; omega)
  clear e8 e9 e10
  have hB := hB.trans (hk.mono hB.size)
  have qA := qA.below hk
  have qB := qB.below hk
  have N1 := N1.below hk
  have N2 := N2.below hk
  have M1 := M1.below hk
  have M2 := M2.below hk
  clear hk
  obtain ⟨Z6, hZ6⟩ : ∃ Z, (u1.alloc (Obj.cells #[.bool false, .slice none 0 0] 25)).alloc (Obj.cells #[.bool false, .slice none 0 0] 25) = Z := ⟨_, rfl⟩
  obtain ⟨W6, hW6⟩ : ∃ W, (((Z6.setCell ⟨u1.heap.size, 0, none⟩ (.bool s6)).setCell ⟨u1.heap.size, 1, none⟩ (.slice a6 n6 c6)).setCell ⟨u1.heap.size + 1, 0, none⟩ (.bool s7)).setCell ⟨u1.heap.size + 1, 1, none⟩ (.slice a7 n7 c7) = W := ⟨_, rfl⟩
  obtain ⟨H6, H7, hk, bx6, bx7, -⟩ := two_nums (c1 := c6) (c2 := c7) hZ6 hW6 N6 N7
  clear N6 N7
  obtain ⟨B6, hB6⟩ : ∃ B, u1.heap.size = B := ⟨_, rfl⟩
  have lq6 := qB.lt
  rw [hB6] at lq6
  have hB := hB.trans (hk.mono hB.size)
  have qA := qA.below hk
  have qB := qB.below hk
  have N1 := N1.below hk
  have N2 := N2.below hk
  have M1 := M1.below hk
  have M2 := M2.below hk
  clear hk
  rw [hB6] at hW6 H6 H7 bx6 bx7
  obtain ⟨⟨x10, x11, x12, x13⟩, -, -, -, -⟩ := id qB
  obtain ⟨y60, y61, yz60, yz61⟩ := id bx6
  obtain ⟨y70, y71, yz70, yz71⟩ := id bx7
  go_wp2_with fail
  try rw [hW6]
  try rw [hB6]
  clear hW6 hB6
  clear x10 x11 x12 x13 y60 y61 yz60 yz61 y70 y71 yz70 yz71
  refine (div_num t1 t2 b1 b2 m1 m2 d1 d2 r s l1 l2 W6 M1 M2 ps).mono ?_
  rintro e u2 ⟨q9, q10, s9, a9, n9, c9, s10, a10, n10, c10, rfl, e8, e9, e10, N9, N10, -, -, k9, k10, hk⟩
  obtain ⟨rfl, rfl⟩ := divs_unique e8 e9 e10 (by have := HP.out.2; omega)
  clear e8 e9 e10
  have hB := hB.trans (hk.mono hB.size)
  have qA := qA.below hk
  have qB := qB.below hk
  have N1 := N1.below hk
  have N2 := N2.below hk
  have M1 := M1.below hk
  have M2 := M2.below hk
  have H6 := H6.below hk
  have H7 := H7.below hk
  clear hk
  obtain ⟨Z9, hZ9⟩ : ∃ Z, (u2.alloc (Obj.cells #[.bool false, .slice none 0 0] 25)).alloc (Obj.cells #[.bool false, .slice none 0 0] 25) = Z := ⟨_, rfl⟩
  obtain ⟨W9, hW9⟩ : ∃ W, (((Z9.setCell ⟨u2.heap.size, 0, none⟩ (.bool s9)).setCell ⟨u2.heap.size, 1, none⟩ (.slice a9 n9 c9)).setCell ⟨u2.heap.size + 1, 0, none⟩ (.bool s10)).setCell ⟨u2.heap.size + 1, 1, none⟩ (.slice a10 n10 c10) = W := ⟨_, rfl⟩
  obtain ⟨H9, H10, hk, bx9, bx10, -⟩ := two_nums (c1 := c9) (c2 := c10) hZ9 hW9 N9 N10
  clear N9 N10
  obtain ⟨B9, hB9⟩ : ∃ B, u2.heap.size = B := ⟨_, rfl⟩
  have lq9 := qB.lt
  rw [hB9] at lq9
  have hB := hB.trans (hk.mono hB.size)
  have qA := qA.below hk
  have qB := qB.below hk
  have N1 := N1.below hk
  have N2 := N2.below hk
  have M1 := M1.below hk
  have M2 := M2.below hk
  have H6 := H6.below hk
  have H7 := H7.below hk
  clear hk
  rw [hB9] at hW9 H9 H10 bx9 bx10
  obtain ⟨x10, x11, -, -⟩ := id H6.box
  obtain ⟨x20, x21, -, -⟩ := id H9.box
  obtain ⟨y90, y91, yz90, yz91⟩ := id bx9
  obtain ⟨y100, y101, yz100, yz101⟩ := id bx10
  go_wp2_with fail
  try rw [hW9]
  try rw [hB9]
  clear hW9 hB9
  clear x10 x11 x20 x21 y90 y91 yz90 yz91 y100 y101 yz100 yz101
  obtain ⟨O, hO⟩ : ∃ O, cmpZ (p / q) (r / s) = O := ⟨_, rfl⟩
  have cc := cmp_any s6 s9 a6 a9 n6 n9 c6 c9 (p / q) (r / s) k6 k9 W9 H6.num H9.num
  rw [hO] at cc
  have HO := hide hO
  clear hO
  refine cc.mono ?_
  clear cc
  rintro e u3 ⟨rfl, hk⟩
  have hB := hB.trans (hk.mono hB.size)
  have qA := qA.below hk
  have qB := qB.below hk
  have N1 := N1.below hk
  have N2 := N2.below hk
  have M1 := M1.below hk
  have M2 := M2.below hk
  have H6 := H6.below hk
  have H7 := H7.below hk
  have H9 := H9.below hk
  have H10 := H10.below hk
  clear hk
  by_cases h0 : O = 0
  case neg =>
   have hb : (O == 0) = false := by simpa using h0
   have HC2 : Hid (O = C) := hide (by rw [← HC.out, ← HO.out]; exact (cont_quot HP.out.1 HP.out.2 (by rw [HO.out]; exact h0)).symm)
   clear H6 H7 H9 H10 qA qB N1 N2 M1 M2
   go_wp2
   rw [Exit.noGoto_ret]
   go_ret
   exact ⟨by rw [← HC2.out]; rfl, hB⟩
  case pos =>
   subst h0
   have R1 := hide (rem_two H7.num HP.out.1)
   have R2 := hide (rem_two H10.num HP.out.2)
   have HC2 : Hid (cmpZ (s * (p % q)) (q * (r % s)) = C) := hide (by rw [← HC.out]; exact (cont_rest HO.out).symm)
   have HE : Hid (p % q = 0 ∨ r % s = 0 → cmpZ (p % q) (r % s) = C) := hide fun h => by rw [← HC2.out]; exact (cont_end HP.out.1 HP.out.2 R1.out.1 R2.out.1 h).symm
   clear H6 H9
   clear N1 M1
   obtain ⟨x10, x11, -, -⟩ := id H7.box
   go_wp2_with fail
   clear x10 x11
   refine (isZero_any s7 a7 n7 c7 (p % q) k7 u3 H7.num).mono ?_
   rintro e u4 ⟨rfl, hk⟩
   have hB := hB.trans (hk.mono hB.size)
   have qA := qA.below hk
   have qB := qB.below hk
   have N2 := N2.below hk
   have M2 := M2.below hk
   have H7 := H7.below hk
   have H10 := H10.below hk
   clear hk
   by_cases z1 : p % q = 0
   case pos =>
    have Z1 := hide z1
    rw [decide_eq_true z1]
    clear z1
    obtain ⟨x10, x11, -, -⟩ := id H7.box
    obtain ⟨x20, x21, -, -⟩ := id H10.box
    go_wp2_with fail
    clear x10 x11 x20 x21
    obtain ⟨O, hO⟩ : ∃ O, cmpZ (p % q) (r % s) = O := ⟨_, rfl⟩
    have cc := cmp_any s7 s10 a7 a10 n7 n10 c7 c10 (p % q) (r % s) k7 k10 u4 H7.num H10.num
    rw [hO] at cc
    have HO2 := hide hO
    clear hO
    refine cc.mono ?_
    clear cc
    rintro e u9 ⟨rfl, hk⟩
    have hB := hB.trans (hk.mono hB.size)
    have HF : Hid (O = C) := hide (by rw [← HO2.out]; exact HE.out (.inl Z1.out))
    clear H7 H10 qA qB N2 M2
    go_wp2
    rw [Exit.noGoto_ret]
    go_ret
    exact ⟨by rw [← HF.out]; rfl, hB⟩
   case neg =>
    have Z1 := hide z1
    rw [decide_eq_false z1]
    clear z1
    obtain ⟨x20, x21, -, -⟩ := id H10.box
    go_wp2_with fail
    clear x20 x21
    refine (isZero_any s10 a10 n10 c10 (r % s) k10 u4 H10.num).mono ?_
    rintro e u5 ⟨rfl, hk⟩
    have hB := hB.trans (hk.mono hB.size)
    have qA := qA.below hk
    have qB := qB.below hk
    have N2 := N2.below hk
    have M2 := M2.below hk
    have H7 := H7.below hk
    have H10 := H10.below hk
    clear hk
    by_cases z2 : r % s = 0
    case pos =>
     have Z2 := hide z2
     rw [decide_eq_true z2]
     clear z2
     obtain ⟨x10, x11, -, -⟩ := id H7.box
     obtain ⟨x20, x21, -, -⟩ := id H10.box
     go_wp2_with fail
     clear x10 x11 x20 x21
     obtain ⟨O, hO⟩ : ∃ O, cmpZ (p % q) (r % s) = O := ⟨_, rfl⟩
     have cc := cmp_any s7 s10 a7 a10 n7 n10 c7 c10 (p % q) (r % s) k7 k10 u5 H7.num H10.num
     rw [hO] at cc
     have HO2 := hide hO
     clear hO
     refine cc.mono ?_
     clear cc
     rintro e u9 ⟨rfl, hk⟩
     have hB := hB.trans (hk.mono hB.size)
     have HF : Hid (O = C) := hide (by rw [← HO2.out]; exact HE.out (.inr Z2.out))
     clear H7 H10 qA qB N2 M2
     go_wp2
     rw [Exit.noGoto_ret]
     go_ret
     exact ⟨by rw [← HF.out]; rfl, hB⟩
    case neg =>
     have Z2 := hide z2
     rw [decide_eq_false z2]
     clear z2
     obtain ⟨wa, hwa⟩ : ∃ W, (((u5.drew.setCell ⟨w.heap.size, 0, none⟩ (.bool t2)).setCell ⟨w.heap.size, 1, none⟩ (.slice b2 m2 d2)).setCell ⟨w.heap.size, 2, none⟩ (.bool s10)).setCell ⟨w.heap.size, 3, none⟩ (.slice a10 n10 c10) = W := ⟨_, rfl⟩
     have tD := Below.drew (Below.refl u5.heap.size u5)
     have qA' : Quad u5.drew _ _ _ _ _ := qA.below tD
     have qB' : Quad u5.drew _ _ _ _ _ := qB.below tD
     have H7' : Held u5.drew _ _ _ _ _ _ := H7.below tD
     have H10' : Held u5.drew _ _ _ _ _ _ := H10.below tD
     have N2' : IsN u5.drew _ _ _ _ := N2.below tD
     have M2' : IsN u5.drew _ _ _ _ := M2.below tD
     obtain ⟨gA, tA⟩ := qA'.set _ _ _ _ hwa
     have gB := qB'.touch (by omega) tA
     obtain ⟨wb, hwb⟩ : ∃ W, (((wa.setCell ⟨w.heap.size + 1, 0, none⟩ (.bool s2)).setCell ⟨w.heap.size + 1, 1, none⟩ (.slice a2 n2 c2)).setCell ⟨w.heap.size + 1, 2, none⟩ (.bool s7)).setCell ⟨w.heap.size + 1, 3, none⟩ (.slice a7 n7 c7) = W := ⟨_, rfl⟩
     obtain ⟨fB, tB⟩ := gB.set _ _ _ _ hwb
     have fA := gA.touch (by omega) tB
     have f1 := (M2'.quad qA'.four tA).quad gB.four tB
     have f2 := (H10'.num.quad qA'.four tA).quad gB.four tB
     have f3 := (N2'.quad qA'.four tA).quad gB.four tB
     have f4 := (H7'.num.quad qA'.four tA).quad gB.four tB
     have hBw : Below w.heap.size w wb := by
      have h1 : Below w.heap.size w wa := by rw [← hwa]; exact (((hB.drew.setCell (p := ⟨w.heap.size, 0, none⟩) (Nat.le_refl _) _).setCell (p := ⟨w.heap.size, 1, none⟩) (Nat.le_refl _) _).setCell (p := ⟨w.heap.size, 2, none⟩) (Nat.le_refl _) _).setCell (p := ⟨w.heap.size, 3, none⟩) (Nat.le_refl _) _
      rw [← hwb]; exact below_set4 h1 (by omega) _ _ _ _
     have F := hide (And.intro fA (And.intro fB (And.intro f1 (And.intro f2 (And.intro f3 (And.intro f4 hBw))))))
     rw [← hwa] at hwb
     have HW : Hid (((((((((u5.setCell ⟨w.heap.size, 0, none⟩ (.bool t2)).setCell ⟨w.heap.size, 1, none⟩ (.slice b2 m2 d2)).setCell ⟨w.heap.size, 2, none⟩ (.bool s10)).setCell ⟨w.heap.size, 3, none⟩ (.slice a10 n10 c10)).setCell ⟨w.heap.size + 1, 0, none⟩ (.bool s2)).setCell ⟨w.heap.size + 1, 1, none⟩ (.slice a2 n2 c2)).setCell ⟨w.heap.size + 1, 2, none⟩ (.bool s7)).setCell ⟨w.heap.size + 1, 3, none⟩ (.slice a7 n7 c7)).drew = wb) := hide (by rw [← hwb]; simp only [World.setCell_drew])
     clear hwa hwb gA tA gB fB tB fA f1 f2 f3 f4 hBw qA' qB' H7' H10' N2' M2' tD
     go_wp2_with fail
     obtain ⟨⟨x10, x11, x12, x13⟩, x14, x15, x16, x17⟩ := id qA
     obtain ⟨⟨x20, x21, x22, x23⟩, x24, x25, x26, x27⟩ := id qB
     obtain ⟨x30, x31, -, -⟩ := id H7.box
     obtain ⟨x40, x41, -, -⟩ := id H10.box
     have hne1 : ¬ (B6 + 1 = w.heap.size) := by omega
     have hne2 : ¬ (B9 + 1 = w.heap.size) := by omega
     clear qA qB H7 H10 N2 M2
     go_region
     go_wp2
     rw [HW.out]
     clear x10 x11 x12 x13 x20 x21 x22 x23 x30 x31 x40 x41 x14 x15 x16 x17 x24 x25 x26 x27
     go_roundg ((r % s).natAbs + (p % q).natAbs)
     case measure =>
      have := HK.out
      have := R1.out
      have := R2.out
      omega
     case rel =>
      obtain ⟨fA, fB, f1, f2, f3, f4, hBw⟩ := F.out
      have hr2 := R2.out
      have hr1 := R1.out
      have hz1 := Z1.out
      have hz2 := Z2.out
      exact ⟨rfl, s, r % s, q, p % q, _, _, _, _, _, _, _, _, _, _, _, _, _, _, _, _, fA, fB, f1, f2, f3, f4, l2, k10, k2, k7, by omega, by omega, HC2.out, Nat.le_refl _, hBw⟩

def cmpRO : Option Rat → Option Rat → Int
 | some x, some y => cmpR x y
 | _, _ => 0
set_option maxRecDepth 100000 in
set_option maxHeartbeats 4000000 in
theorem cmp_r (s1 s2 t1 t2 : Bool) (a1 a2 b1 b2 : Option Addr) (n1 n2 m1 m2 c1 c2 d1 d2 : Nat) (ox oy : Option Rat) (w : World) (hx : RArg w s1 a1 n1 s2 a2 n2 ox) (hy : RArg w t1 b1 m1 t2 b2 m2 oy) :
 Calls Tryz.prog 43 #[.agg #[.bool s1, .slice a1 n1 c1, .bool s2, .slice a2 n2 c2], .agg #[.bool t1, .slice b1 m1 d1, .bool t2, .slice b2 m2 d2]] w fun e w' => e = .returned (.int .i64 (cmpRO ox oy)) ∧ Below w.heap.size w w' := by
 go_enter Tryz.func43, Tryz.ntmps43
 go_wp2_with fail
 obtain ⟨W1, hW1⟩ : ∃ W1, ((w.alloc (Obj.cells #[.bool s1, .slice a1 n1 c1, .bool s2, .slice a2 n2 c2] 37)).alloc (Obj.cells #[.bool t1, .slice b1 m1 d1, .bool t2, .slice b2 m2 d2] 37)) = W1 := ⟨_, rfl⟩
 have qA : Quad W1 w.heap.size (.bool s1) (.slice a1 n1 c1) (.bool s2) (.slice a2 n2 c2) := by rw [← hW1]; exact (Quad.new _ _ _ _ _ _).below (below_alloc _ _)
 have qB : Quad W1 (w.heap.size + 1) (.bool t1) (.slice b1 m1 d1) (.bool t2) (.slice b2 m2 d2) := by
  rw [← hW1]; have := Quad.new (w.alloc (Obj.cells #[.bool s1, .slice a1 n1 c1, .bool s2, .slice a2 n2 c2] 37)) (.bool t1) (.slice b1 m1 d1) (.bool t2) (.slice b2 m2 d2) 37
  rw [World.size_alloc] at this; exact this
 have hB : Below w.heap.size w W1 := by rw [← hW1]; exact (below_alloc _ _).trans ((below_alloc _ _).mono (by simp))
 have hx := hx.below hB
 have hy := hy.below hB
 try rw [hW1]
 clear hW1
 obtain ⟨⟨x10, x11, x12, x13⟩, -, -, -, -⟩ := id qA
 go_wp2_with fail
 clear x10 x11 x12 x13
 refine (right_r s1 s2 a1 a2 n1 n2 c1 c2 ox W1 hx).mono ?_
 rintro e w1 ⟨rfl, hk⟩
 have hB := hB.trans (hk.mono hB.size)
 have hx := hx.below hk
 have hy := hy.below hk
 have qA := qA.below hk
 have qB := qB.below hk
 clear hk
 cases ox with
 | none =>
   go_wp2
   go_ret
   exact ⟨rfl, hB⟩
 | some x =>
   obtain ⟨⟨x20, x21, x22, x23⟩, -, -, -, -⟩ := id qB
   go_wp2_with fail
   clear x20 x21 x22 x23
   refine (right_r t1 t2 b1 b2 m1 m2 d1 d2 oy w1 hy).mono ?_
   rintro e w2 ⟨rfl, hk⟩
   have hB := hB.trans (hk.mono hB.size)
   have hx := hx.below hk
   have hy := hy.below hk
   have qA := qA.below hk
   have qB := qB.below hk
   clear hk
   cases oy with
   | none =>
     go_wp2
     go_ret
     exact ⟨rfl, hB⟩
   | some y =>
     obtain ⟨⟨x10, x11, x12, x13⟩, -, -, -, -⟩ := id qA
     obtain ⟨⟨x20, x21, x22, x23⟩, -, -, -, -⟩ := id qB
     go_wp2_with fail
     clear x10 x11 x12 x13 x20 x21 x22 x23
     obtain ⟨C, hC⟩ : ∃ C, cmpR x y = C := ⟨_, rfl⟩
     have HC := hide hC
     clear hC
     refine (compare_r s1 s2 t1 t2 a1 a2 b1 b2 n1 n2 m1 m2 c1 c2 d1 d2 x y w2 hx hy HC).mono ?_
     rintro e w3 ⟨rfl, hk⟩
     have hB := hB.trans (hk.mono hB.size)
     go_wp2
     go_ret
     exact ⟨by rw [show cmpRO (some x) (some y) = C from HC.out]; rfl, hB⟩
end Go.Proofs.YtgenaicmjddjcaaGreatDoor
