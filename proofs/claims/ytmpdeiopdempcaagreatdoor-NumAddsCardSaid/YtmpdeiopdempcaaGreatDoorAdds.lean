/- colletlaw01's adds: of any two Nums it is true. -/
import Derived.Test.YtmpdeiopdempcaaGreatDoorSanity
import Derived.Test.YtmpdeiopdempcaaGreatDoorRfG
namespace Go.Proofs.YtmpdeiopdempcaaGreatDoor
open Go.RowKit Go.Shelf

/-- a variable that holds a Num, right or not -/
structure HArg (w : World) (B : Nat) (s : Bool) (a : Option Addr) (n c : Nat) (o : Option Int) : Prop where
  box : Box2 w B (.bool s) (.slice a n c)
  arg : Arg w s a n o
theorem HArg.below {w w' : World} {B : Nat} {s : Bool} {a : Option Addr} {n c : Nat} {o : Option Int} (h : HArg w B s a n c o) (t : Below w.heap.size w w') : HArg w' B s a n c o := ⟨h.box.below t h.box.lt, h.arg.below t⟩
theorem bne_same (b : Bool) : (b != b) = false := by cases b <;> rfl
theorem beq_same (b : Bool) : (b == b) = true := by cases b <;> rfl
theorem ibne_same (z : Int) : (z != z) = false := by simp
theorem ibeq_same (z : Int) : (z == z) = true := by simp

set_option maxRecDepth 100000 in
set_option maxHeartbeats 16000000 in
theorem adds_any (s0 s1 : Bool) (a0 a1 : Option Addr) (n0 n1 c0 c1 : Nat) (x y : Option Int) (w : World) (hx : Arg w s0 a0 n0 x) (hy : Arg w s1 a1 n1 y) :
    Calls Tryz.prog 13 #[.agg #[.bool s0, .slice a0 n0 c0], .agg #[.bool s1, .slice a1 n1 c1]] w fun e w' => e = .returned (.bool true) ∧ Below w.heap.size w w' := by
  obtain ⟨O1, hO⟩ : ∃ O, addO x y = O := ⟨_, rfl⟩
  have HO1 := hide hO
  clear hO
  obtain ⟨O2, hO⟩ : ∃ O, subO x y = O := ⟨_, rfl⟩
  have HO2 := hide hO
  clear hO
  obtain ⟨O3, hO⟩ : ∃ O, mulO x y = O := ⟨_, rfl⟩
  have HO3 := hide hO
  clear hO
  obtain ⟨O4, hO⟩ : ∃ O, intO x = O := ⟨_, rfl⟩
  have HO4 := hide hO
  clear hO
  obtain ⟨O5, hO⟩ : ∃ O, cmpO x y = O := ⟨_, rfl⟩
  have HO5 := hide hO
  clear hO
  have CADD : Hid (∀ W : World, HArg W w.heap.size s0 a0 n0 c0 x → HArg W (w.heap.size + 1) s1 a1 n1 c1 y → Calls Tryz.prog 23 #[.agg #[.bool s0, .slice a0 n0 c0], .agg #[.bool s1, .slice a1 n1 c1]] W (OptPost W O1)) := fun W h0 h1 => by have := add_arg s0 s1 a0 a1 n0 n1 c0 c1 x y W h0.arg h1.arg; rw [HO1.out] at this; exact this
  have CRADD : Hid (∀ W : World, HArg W w.heap.size s0 a0 n0 c0 x → HArg W (w.heap.size + 1) s1 a1 n1 c1 y → Calls Tryz.prog 33 #[.agg #[.bool s0, .slice a0 n0 c0], .agg #[.bool s1, .slice a1 n1 c1]] W (OptPost W O1)) := fun W h0 h1 => by have := radd_arg s0 s1 a0 a1 n0 n1 c0 c1 x y W h0.arg h1.arg; rw [HO1.out] at this; exact this
  have CSUB : Hid (∀ W : World, HArg W w.heap.size s0 a0 n0 c0 x → HArg W (w.heap.size + 1) s1 a1 n1 c1 y → Calls Tryz.prog 25 #[.agg #[.bool s0, .slice a0 n0 c0], .agg #[.bool s1, .slice a1 n1 c1]] W (OptPost W O2)) := fun W h0 h1 => by have := sub_arg s0 s1 a0 a1 n0 n1 c0 c1 x y W h0.arg h1.arg; rw [HO2.out] at this; exact this
  have CRSUB : Hid (∀ W : World, HArg W w.heap.size s0 a0 n0 c0 x → HArg W (w.heap.size + 1) s1 a1 n1 c1 y → Calls Tryz.prog 34 #[.agg #[.bool s0, .slice a0 n0 c0], .agg #[.bool s1, .slice a1 n1 c1]] W (OptPost W O2)) := fun W h0 h1 => by have := rsub_arg s0 s1 a0 a1 n0 n1 c0 c1 x y W h0.arg h1.arg; rw [HO2.out] at this; exact this
  have CMUL : Hid (∀ W : World, HArg W w.heap.size s0 a0 n0 c0 x → HArg W (w.heap.size + 1) s1 a1 n1 c1 y → Calls Tryz.prog 24 #[.agg #[.bool s0, .slice a0 n0 c0], .agg #[.bool s1, .slice a1 n1 c1]] W (OptPost W O3)) := fun W h0 h1 => by have := mul_arg s0 s1 a0 a1 n0 n1 c0 c1 x y W h0.arg h1.arg; rw [HO3.out] at this; exact this
  have CRMUL : Hid (∀ W : World, HArg W w.heap.size s0 a0 n0 c0 x → HArg W (w.heap.size + 1) s1 a1 n1 c1 y → Calls Tryz.prog 35 #[.agg #[.bool s0, .slice a0 n0 c0], .agg #[.bool s1, .slice a1 n1 c1]] W (OptPost W O3)) := fun W h0 h1 => by have := rmul_arg s0 s1 a0 a1 n0 n1 c0 c1 x y W h0.arg h1.arg; rw [HO3.out] at this; exact this
  have CINT : Hid (∀ W : World, HArg W w.heap.size s0 a0 n0 c0 x → Calls Tryz.prog 31 #[.agg #[.bool s0, .slice a0 n0 c0]] W (IntPost W O4)) := fun W h0 => by have := int_arg s0 a0 n0 c0 x W h0.arg; rw [HO4.out] at this; exact this
  have CRINT : Hid (∀ W : World, HArg W w.heap.size s0 a0 n0 c0 x → Calls Tryz.prog 36 #[.agg #[.bool s0, .slice a0 n0 c0]] W (IntPost W O4)) := fun W h0 => by have := rint_arg s0 a0 n0 c0 x W h0.arg; rw [HO4.out] at this; exact this
  have CCMP : Hid (∀ W : World, HArg W w.heap.size s0 a0 n0 c0 x → HArg W (w.heap.size + 1) s1 a1 n1 c1 y → Calls Tryz.prog 26 #[.agg #[.bool s0, .slice a0 n0 c0], .agg #[.bool s1, .slice a1 n1 c1]] W fun e w' => e = .returned (.int .i64 O5) ∧ Below W.heap.size W w') := fun W h0 h1 => by have := cmp_arg s0 s1 a0 a1 n0 n1 c0 c1 x y W h0.arg h1.arg; rw [HO5.out] at this; exact this
  have CRCMP : Hid (∀ W : World, HArg W w.heap.size s0 a0 n0 c0 x → HArg W (w.heap.size + 1) s1 a1 n1 c1 y → Calls Tryz.prog 38 #[.agg #[.bool s0, .slice a0 n0 c0], .agg #[.bool s1, .slice a1 n1 c1]] W fun e w' => e = .returned (.int .i64 O5) ∧ Below W.heap.size W w') := fun W h0 h1 => by have := rcmp_arg s0 s1 a0 a1 n0 n1 c0 c1 x y W h0.arg h1.arg; rw [HO5.out] at this; exact this
  have CRT : Hid (∀ W : World, HArg W w.heap.size s0 a0 n0 c0 x → Calls Tryz.prog 27 #[.agg #[.bool s0, .slice a0 n0 c0]] W fun e w' => e = .returned (.bool x.isSome) ∧ Below W.heap.size W w') := fun W h0 => right_arg s0 a0 n0 c0 x W h0.arg
  have CRRT : Hid (∀ W : World, HArg W w.heap.size s0 a0 n0 c0 x → Calls Tryz.prog 37 #[.agg #[.bool s0, .slice a0 n0 c0]] W fun e w' => e = .returned (.bool x.isSome) ∧ Below W.heap.size W w') := fun W h0 => rright_arg s0 a0 n0 c0 x W h0.arg
  clear HO1 HO2 HO3 HO4 HO5
  go_enter Tryz.func13, Tryz.ntmps13
  go_wp2_with fail
  have hB : Below w.heap.size w ((w.alloc (Obj.cells #[.bool s0, .slice a0 n0 c0] 27)).alloc (Obj.cells #[.bool s1, .slice a1 n1 c1] 27)) := (below_alloc _ _).trans ((below_alloc _ _).mono (by simp))
  have H0 : HArg ((w.alloc (Obj.cells #[.bool s0, .slice a0 n0 c0] 27)).alloc (Obj.cells #[.bool s1, .slice a1 n1 c1] 27)) w.heap.size s0 a0 n0 c0 x := ⟨(Box2.new w _ _ _).alloc _, hx.below hB⟩
  have H1 : HArg ((w.alloc (Obj.cells #[.bool s0, .slice a0 n0 c0] 27)).alloc (Obj.cells #[.bool s1, .slice a1 n1 c1] 27)) (w.heap.size + 1) s1 a1 n1 c1 y := by
    have := Box2.new (w.alloc (Obj.cells #[.bool s0, .slice a0 n0 c0] 27)) (.bool s1) (.slice a1 n1 c1) 27
    rw [World.size_alloc] at this
    exact ⟨this, hy.below hB⟩
  obtain ⟨W0, hW0⟩ : ∃ W, (w.alloc (Obj.cells #[.bool s0, .slice a0 n0 c0] 27)).alloc (Obj.cells #[.bool s1, .slice a1 n1 c1] 27) = W := ⟨_, rfl⟩
  rw [hW0] at hB H0 H1 ⊢
  clear hW0
  refine (CADD.out W0 H0 H1).mono ?_
  rintro e u1 ⟨s3, a3, n3, c3, rfl, N, k3, -, hkeep⟩
  have hB := hB.trans (hkeep.mono hB.size)
  have H0 := H0.below hkeep
  have H1 := H1.below hkeep
  have H3 := Held.new c3 N 27
  clear N
  have hkeep := below_alloc u1 (Obj.cells #[.bool s3, .slice a3 n3 c3] 27)
  obtain ⟨W3, hW3⟩ : ∃ W, u1.alloc (Obj.cells #[.bool s3, .slice a3 n3 c3] 27) = W := ⟨_, rfl⟩
  obtain ⟨B3, hB3⟩ : ∃ B, u1.heap.size = B := ⟨_, rfl⟩
  rw [hW3] at hkeep H3
  rw [hB3] at H3
  have hB := hB.trans (hkeep.mono hB.size)
  have H0 := H0.below hkeep
  have H1 := H1.below hkeep
  obtain ⟨x0, y0, -, -⟩ := H0.box
  obtain ⟨x1, y1, -, -⟩ := H1.box
  go_wp2_with fail
  clear x0 y0 x1 y1
  try rw [hW3]
  try rw [hB3]
  clear hW3 hB3
  refine (CRADD.out W3 H0 H1).mono ?_
  rintro e u2 ⟨s5, a5, n5, c5, rfl, N, k5, -, hkeep⟩
  have hB := hB.trans (hkeep.mono hB.size)
  have H0 := H0.below hkeep
  have H1 := H1.below hkeep
  have H3 := H3.below hkeep
  have H5 := Held.new c5 N 27
  clear N
  have hkeep := below_alloc u2 (Obj.cells #[.bool s5, .slice a5 n5 c5] 27)
  obtain ⟨W5, hW5⟩ : ∃ W, u2.alloc (Obj.cells #[.bool s5, .slice a5 n5 c5] 27) = W := ⟨_, rfl⟩
  obtain ⟨B5, hB5⟩ : ∃ B, u2.heap.size = B := ⟨_, rfl⟩
  rw [hW5] at hkeep H5
  rw [hB5] at H5
  have hB := hB.trans (hkeep.mono hB.size)
  have H0 := H0.below hkeep
  have H1 := H1.below hkeep
  have H3 := H3.below hkeep
  obtain ⟨x0, y0, -, -⟩ := H0.box
  obtain ⟨x1, y1, -, -⟩ := H1.box
  go_wp2_with fail
  clear x0 y0 x1 y1
  try rw [hW5]
  try rw [hB5]
  clear hW5 hB5
  refine (CSUB.out W5 H0 H1).mono ?_
  rintro e u3 ⟨s7, a7, n7, c7, rfl, N, k7, -, hkeep⟩
  have hB := hB.trans (hkeep.mono hB.size)
  have H0 := H0.below hkeep
  have H1 := H1.below hkeep
  have H3 := H3.below hkeep
  have H5 := H5.below hkeep
  have H7 := Held.new c7 N 27
  clear N
  have hkeep := below_alloc u3 (Obj.cells #[.bool s7, .slice a7 n7 c7] 27)
  obtain ⟨W7, hW7⟩ : ∃ W, u3.alloc (Obj.cells #[.bool s7, .slice a7 n7 c7] 27) = W := ⟨_, rfl⟩
  obtain ⟨B7, hB7⟩ : ∃ B, u3.heap.size = B := ⟨_, rfl⟩
  rw [hW7] at hkeep H7
  rw [hB7] at H7
  have hB := hB.trans (hkeep.mono hB.size)
  have H0 := H0.below hkeep
  have H1 := H1.below hkeep
  have H3 := H3.below hkeep
  have H5 := H5.below hkeep
  obtain ⟨x0, y0, -, -⟩ := H0.box
  obtain ⟨x1, y1, -, -⟩ := H1.box
  go_wp2_with fail
  clear x0 y0 x1 y1
  try rw [hW7]
  try rw [hB7]
  clear hW7 hB7
  refine (CRSUB.out W7 H0 H1).mono ?_
  rintro e u4 ⟨s9, a9, n9, c9, rfl, N, k9, -, hkeep⟩
  have hB := hB.trans (hkeep.mono hB.size)
  have H0 := H0.below hkeep
  have H1 := H1.below hkeep
  have H3 := H3.below hkeep
  have H5 := H5.below hkeep
  have H7 := H7.below hkeep
  have H9 := Held.new c9 N 27
  clear N
  have hkeep := below_alloc u4 (Obj.cells #[.bool s9, .slice a9 n9 c9] 27)
  obtain ⟨W9, hW9⟩ : ∃ W, u4.alloc (Obj.cells #[.bool s9, .slice a9 n9 c9] 27) = W := ⟨_, rfl⟩
  obtain ⟨B9, hB9⟩ : ∃ B, u4.heap.size = B := ⟨_, rfl⟩
  rw [hW9] at hkeep H9
  rw [hB9] at H9
  have hB := hB.trans (hkeep.mono hB.size)
  have H0 := H0.below hkeep
  have H1 := H1.below hkeep
  have H3 := H3.below hkeep
  have H5 := H5.below hkeep
  have H7 := H7.below hkeep
  obtain ⟨x0, y0, -, -⟩ := H0.box
  obtain ⟨x1, y1, -, -⟩ := H1.box
  go_wp2_with fail
  clear x0 y0 x1 y1
  try rw [hW9]
  try rw [hB9]
  clear hW9 hB9
  refine (CMUL.out W9 H0 H1).mono ?_
  rintro e u5 ⟨s11, a11, n11, c11, rfl, N, k11, -, hkeep⟩
  have hB := hB.trans (hkeep.mono hB.size)
  have H0 := H0.below hkeep
  have H1 := H1.below hkeep
  have H3 := H3.below hkeep
  have H5 := H5.below hkeep
  have H7 := H7.below hkeep
  have H9 := H9.below hkeep
  have H11 := Held.new c11 N 27
  clear N
  have hkeep := below_alloc u5 (Obj.cells #[.bool s11, .slice a11 n11 c11] 27)
  obtain ⟨W11, hW11⟩ : ∃ W, u5.alloc (Obj.cells #[.bool s11, .slice a11 n11 c11] 27) = W := ⟨_, rfl⟩
  obtain ⟨B11, hB11⟩ : ∃ B, u5.heap.size = B := ⟨_, rfl⟩
  rw [hW11] at hkeep H11
  rw [hB11] at H11
  have hB := hB.trans (hkeep.mono hB.size)
  have H0 := H0.below hkeep
  have H1 := H1.below hkeep
  have H3 := H3.below hkeep
  have H5 := H5.below hkeep
  have H7 := H7.below hkeep
  have H9 := H9.below hkeep
  obtain ⟨x0, y0, -, -⟩ := H0.box
  obtain ⟨x1, y1, -, -⟩ := H1.box
  go_wp2_with fail
  clear x0 y0 x1 y1
  try rw [hW11]
  try rw [hB11]
  clear hW11 hB11
  refine (CRMUL.out W11 H0 H1).mono ?_
  rintro e u6 ⟨s13, a13, n13, c13, rfl, N, k13, -, hkeep⟩
  have hB := hB.trans (hkeep.mono hB.size)
  have H0 := H0.below hkeep
  have H1 := H1.below hkeep
  have H3 := H3.below hkeep
  have H5 := H5.below hkeep
  have H7 := H7.below hkeep
  have H9 := H9.below hkeep
  have H11 := H11.below hkeep
  have H13 := Held.new c13 N 27
  clear N
  have hkeep := below_alloc u6 (Obj.cells #[.bool s13, .slice a13 n13 c13] 27)
  obtain ⟨W13, hW13⟩ : ∃ W, u6.alloc (Obj.cells #[.bool s13, .slice a13 n13 c13] 27) = W := ⟨_, rfl⟩
  obtain ⟨B13, hB13⟩ : ∃ B, u6.heap.size = B := ⟨_, rfl⟩
  rw [hW13] at hkeep H13
  rw [hB13] at H13
  have hB := hB.trans (hkeep.mono hB.size)
  have H0 := H0.below hkeep
  have H1 := H1.below hkeep
  have H3 := H3.below hkeep
  have H5 := H5.below hkeep
  have H7 := H7.below hkeep
  have H9 := H9.below hkeep
  have H11 := H11.below hkeep
  obtain ⟨x0, y0, -, -⟩ := H0.box
  go_wp2_with fail
  clear x0 y0
  try rw [hW13]
  try rw [hB13]
  clear hW13 hB13
  refine (CINT.out W13 H0).mono ?_
  rintro e u7 ⟨rfl, hkeep⟩
  have hB := hB.trans (hkeep.mono hB.size)
  have H0 := H0.below hkeep
  have H1 := H1.below hkeep
  have H3 := H3.below hkeep
  have H5 := H5.below hkeep
  have H7 := H7.below hkeep
  have H9 := H9.below hkeep
  have H11 := H11.below hkeep
  have H13 := H13.below hkeep
  obtain ⟨x0, y0, -, -⟩ := H0.box
  go_wp2_with fail
  clear x0 y0
  refine (CRINT.out u7 H0).mono ?_
  rintro e u8 ⟨rfl, hkeep⟩
  have hB := hB.trans (hkeep.mono hB.size)
  have H0 := H0.below hkeep
  have H1 := H1.below hkeep
  have H3 := H3.below hkeep
  have H5 := H5.below hkeep
  have H7 := H7.below hkeep
  have H9 := H9.below hkeep
  have H11 := H11.below hkeep
  have H13 := H13.below hkeep
  have t1 := bne_same O1.isSome
  have t2 := bne_same O2.isSome
  have t3 := bne_same O3.isSome
  have t4 := bne_same O4.isSome
  have t5 := ibne_same (O4.getD 0)
  obtain ⟨x3, y3, -, -⟩ := H3.box
  obtain ⟨x5, y5, -, -⟩ := H5.box
  go_wp2_with fail
  clear x3 y3 x5 y5
  refine (same_eq s3 s5 a3 a5 n3 n5 c3 c5 (O1.getD 0) k3 u8 H3.num H5.num).mono ?_
  rintro e u9 ⟨rfl, hkeep⟩
  have hB := hB.trans (hkeep.mono hB.size)
  have H0 := H0.below hkeep
  have H1 := H1.below hkeep
  have H3 := H3.below hkeep
  have H5 := H5.below hkeep
  have H7 := H7.below hkeep
  have H9 := H9.below hkeep
  have H11 := H11.below hkeep
  have H13 := H13.below hkeep
  obtain ⟨x7, y7, -, -⟩ := H7.box
  obtain ⟨x9, y9, -, -⟩ := H9.box
  go_wp2_with fail
  clear x7 y7 x9 y9
  refine (same_eq s7 s9 a7 a9 n7 n9 c7 c9 (O2.getD 0) k7 u9 H7.num H9.num).mono ?_
  rintro e u10 ⟨rfl, hkeep⟩
  have hB := hB.trans (hkeep.mono hB.size)
  have H0 := H0.below hkeep
  have H1 := H1.below hkeep
  have H3 := H3.below hkeep
  have H5 := H5.below hkeep
  have H7 := H7.below hkeep
  have H9 := H9.below hkeep
  have H11 := H11.below hkeep
  have H13 := H13.below hkeep
  obtain ⟨x11, y11, -, -⟩ := H11.box
  obtain ⟨x13, y13, -, -⟩ := H13.box
  go_wp2_with fail
  clear x11 y11 x13 y13
  refine (same_eq s11 s13 a11 a13 n11 n13 c11 c13 (O3.getD 0) k11 u10 H11.num H13.num).mono ?_
  rintro e u11 ⟨rfl, hkeep⟩
  have hB := hB.trans (hkeep.mono hB.size)
  have H0 := H0.below hkeep
  have H1 := H1.below hkeep
  have H3 := H3.below hkeep
  have H5 := H5.below hkeep
  have H7 := H7.below hkeep
  have H9 := H9.below hkeep
  have H11 := H11.below hkeep
  have H13 := H13.below hkeep
  clear t1 t2 t3 t4 t5
  obtain ⟨x0, y0, -, -⟩ := H0.box
  obtain ⟨x1, y1, -, -⟩ := H1.box
  have t1 := beq_same x.isSome
  have t2 := ibeq_same O5
  go_wp2_with fail
  have hB := hB.drew
  have H0d : HArg u11.drew w.heap.size s0 a0 n0 c0 x := H0.below (Below.drew (Below.refl _ _))
  have H1d : HArg u11.drew (w.heap.size + 1) s1 a1 n1 c1 y := H1.below (Below.drew (Below.refl _ _))
  go_region_held3 (fun w' => w'.cell? ⟨w.heap.size, 0, none⟩ = some (.bool s0) ∧ w'.cell? ⟨w.heap.size, 1, none⟩ = some (.slice a0 n0 c0) ∧ w'.cell? ⟨w.heap.size + 1, 0, none⟩ = some (.bool s1) ∧ w'.cell? ⟨w.heap.size + 1, 1, none⟩ = some (.slice a1 n1 c1))
    (first | exact ⟨x0, y0, x1, y1⟩ | exact ⟨x0p, y0p, x1p, y1p⟩ | exact ⟨x0q, y0q, x1q, y1q⟩ | exact ⟨x0r, y0r, x1r, y1r⟩ | exact ⟨x0s, y0s, x1s, y1s⟩ | go_keep)
    (first
      | (go_at_call 27; refine (CRT.out _ H0d).mono ?_; rintro e v1 ⟨rfl, kv1⟩; have hBv1 := hB.trans (kv1.mono hB.size); have H0p := H0d.below kv1; have H1p := H1d.below kv1; obtain ⟨x0p, y0p, -, -⟩ := H0p.box; obtain ⟨x1p, y1p, -, -⟩ := H1p.box)
      | (go_at_call 37; refine (CRRT.out _ H0p).mono ?_; rintro e v2 ⟨rfl, kv2⟩; have hBv2 := hBv1.trans (kv2.mono hBv1.size); have H0q := H0p.below kv2; have H1q := H1p.below kv2; obtain ⟨x0q, y0q, -, -⟩ := H0q.box; obtain ⟨x1q, y1q, -, -⟩ := H1q.box)
      | (go_at_call 26; refine (CCMP.out _ H0q H1q).mono ?_; rintro e v3 ⟨rfl, kv3⟩; have hBv3 := hBv2.trans (kv3.mono hBv2.size); have H0r := H0q.below kv3; have H1r := H1q.below kv3; obtain ⟨x0r, y0r, -, -⟩ := H0r.box; obtain ⟨x1r, y1r, -, -⟩ := H1r.box)
      | (go_at_call 38; refine (CRCMP.out _ H0r H1r).mono ?_; rintro e v4 ⟨rfl, kv4⟩; have hBv4 := hBv3.trans (kv4.mono hBv3.size); have H0s := H0r.below kv4; have H1s := H1r.below kv4; obtain ⟨x0s, y0s, -, -⟩ := H0s.box; obtain ⟨x1s, y1s, -, -⟩ := H1s.box))
  go_wp2
  go_ret
  exact ⟨rfl, hBv4⟩
end Go.Proofs.YtmpdeiopdempcaaGreatDoor
