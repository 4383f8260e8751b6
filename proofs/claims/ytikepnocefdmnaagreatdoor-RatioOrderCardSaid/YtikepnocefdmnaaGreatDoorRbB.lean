/- ratio's reference: over, and Of of two Nums of which the second is positive. -/
import Derived.Test.YtikepnocefdmnaaGreatDoorRbA
namespace Go.Proofs.YtikepnocefdmnaaGreatDoor
open Go.RowKit Go.Shelf

/-- a Num that a call makes -/
def OneV (w : World) (z : Int) (e : Ending) (w' : World) : Prop :=
 ∃ (s : Bool) (a : Option Addr) (n c : Nat), e = .returned (.agg #[.bool s, .slice a n c]) ∧ IsN w' s a n z ∧ n ≤ 64 ∧ Below w.heap.size w w'
theorem rof_boxes (w : World) (u0 u1 v0 v1 : Value) (tN tR : TypeId) {W1 : World} (hW : (((w.alloc (Obj.cells #[u0, u1] tN)).alloc (Obj.cells #[v0, v1] tN)).alloc (Obj.cells #[.bool false, .slice none 0 0, .bool false, .slice none 0 0] tR)) = W1) :
 Box2 W1 w.heap.size u0 u1 ∧ Box2 W1 (w.heap.size + 1) v0 v1 ∧ Quad W1 (w.heap.size + 1 + 1) (.bool false) (.slice none 0 0) (.bool false) (.slice none 0 0) ∧ Below w.heap.size w W1 := by
 subst hW
 refine ⟨((Box2.new w _ _ _).alloc _).alloc _, ?_, ?_, (((Below.refl _ w).alloc (Nat.le_refl _) _).alloc (by simp) _).alloc (by simp; omega) _⟩
 · have := (Box2.new (w.alloc (Obj.cells #[u0, u1] tN)) v0 v1 tN).alloc (Obj.cells #[.bool false, .slice none 0 0, .bool false, .slice none 0 0] tR)
   rw [World.size_alloc] at this; exact this
 · have := Quad.new ((w.alloc (Obj.cells #[u0, u1] tN)).alloc (Obj.cells #[v0, v1] tN)) (.bool false) (.slice none 0 0) (.bool false) (.slice none 0 0) tR
   rw [World.size_alloc, World.size_alloc] at this; exact this
set_option maxRecDepth 100000 in
set_option maxHeartbeats 4000000 in
theorem over_r (sa sb : Bool) (aa ab : Option Addr) (na nb ca cb : Nat) (za zb : Int) (hna : na ≤ 64) (hnb : nb ≤ 64) (hca : na ≤ ca) (hz : Hid (zb ≠ 0)) (w : World) (ha : IsN w sa aa na za) (hb : IsN w sb ab nb zb) :
 Calls Tryz.prog 61 #[.agg #[.bool sa, .slice aa na ca], .agg #[.bool sb, .slice ab nb cb]] w (OneV w (za / zb)) := by
 go_enter Tryz.func61, Tryz.ntmps61
 go_wp2_with fail
 obtain ⟨W1, hW1⟩ : ∃ W1, ((w.alloc (Obj.cells #[.bool sa, .slice aa na ca] 25)).alloc (Obj.cells #[.bool sb, .slice ab nb cb] 25)).alloc (Obj.cells #[.bool false, .slice none 0 0] 25) = W1 := ⟨_, rfl⟩
 obtain ⟨bA, bB, qC, hB⟩ := three_boxes w _ _ _ _ _ hW1
 have ha := ha.below hB
 have hb := hb.below hB
 try rw [hW1]
 clear hW1
 obtain ⟨x10, x11, -, -⟩ := id bA
 obtain ⟨x20, x21, -, -⟩ := id bB
 go_wp2_with fail
 clear x10 x11 x20 x21
 have cc := rdiv_arg sa sb aa ab na nb ca cb (some za) (some zb) hca W1 ⟨ha, hna⟩ ⟨hb, hnb⟩
 rw [(some_b za hz.out).1, (some_b za hz.out).2.1, (some_b za hz.out).2.2] at cc
 refine cc.mono ?_
 clear cc
 rintro e u1 ⟨s5, a5, n5, c5, s6, a6, n6, c6, rfl, N5, N6, k5, k6, hk⟩
 have hB := hB.trans (hk.mono hB.size)
 have ha := ha.below hk
 have hb := hb.below hk
 have bA := bA.below hk bA.lt
 have bB := bB.below hk bB.lt
 have qC := qC.below hk qC.lt
 clear hk
 obtain ⟨Z5, hZ5⟩ : ∃ Z, (u1.alloc (Obj.cells #[.bool false, .slice none 0 0] 25)).alloc (Obj.cells #[.bool false, .slice none 0 0] 25) = Z := ⟨_, rfl⟩
 obtain ⟨W5, hW5⟩ : ∃ W, (((Z5.setCell ⟨u1.heap.size, 0, none⟩ (.bool s5)).setCell ⟨u1.heap.size, 1, none⟩ (.slice a5 n5 c5)).setCell ⟨u1.heap.size + 1, 0, none⟩ (.bool s6)).setCell ⟨u1.heap.size + 1, 1, none⟩ (.slice a6 n6 c6) = W := ⟨_, rfl⟩
 obtain ⟨H5, H6, hk, bx5, bx6, -⟩ := two_nums (c1 := c5) (c2 := c6) hZ5 hW5 N5 N6
 clear N5 N6
 obtain ⟨B5, hB5⟩ : ∃ B, u1.heap.size = B := ⟨_, rfl⟩
 have hB := hB.trans (hk.mono hB.size)
 have ha := ha.below hk
 have hb := hb.below hk
 have bA := bA.below hk bA.lt
 have bB := bB.below hk bB.lt
 have qC := qC.below hk qC.lt
 clear hk
 rw [hB5] at hW5 H5 H6 bx5 bx6
 have P1 := H5.num
 obtain ⟨Wz, hWz⟩ : ∃ W, (W5.setCell ⟨w.heap.size + 1 + 1, 0, none⟩ (.bool s5)).setCell ⟨w.heap.size + 1 + 1, 1, none⟩ (.slice a5 n5 c5) = W := ⟨_, rfl⟩
 have hQ := qC.set (.bool s5) (.slice a5 n5 c5)
 have hBz := below_set2 hB (B := w.heap.size + 1 + 1) (by omega) (.bool s5) (.slice a5 n5 c5)
 have P1 := P1.put qC (.bool s5) (.slice a5 n5 c5)
 rw [hWz] at hQ hBz P1
 have K := hide (And.intro hQ (And.intro P1 hBz))
 have HWz := hide hWz
 clear hQ hBz hWz P1
 obtain ⟨x90, x91, z90, z91⟩ := id qC
 obtain ⟨y50, y51, yz50, yz51⟩ := id bx5
 obtain ⟨y60, y61, yz60, yz61⟩ := id bx6
 obtain ⟨x50, x51, -, -⟩ := id H5.box
 go_wp2
 try rw [hW5]
 try rw [hB5]
 obtain ⟨⟨q0, q1, -, -⟩, P1, hBB⟩ := K.out
 rw [HWz.out]
 exact bodyPost_ret (v := .agg #[.bool s5, .slice a5 n5 c5]) (by simp [results, Tryz.results61, go_sem, q0, q1]) rfl ⟨_, _, _, _, rfl, P1, k5, hBB⟩
set_option maxRecDepth 100000 in
set_option maxHeartbeats 16000000 in
theorem rofR_pos (s1 s2 : Bool) (a1 a2 : Option Addr) (n1 n2 c1 c2 : Nat) (n d : Int) (k1 : n1 ≤ 64) (k2 : n2 ≤ 64) (l1 : n1 ≤ c1) (l2 : n2 ≤ c2) (hd0 : 0 < d) (w : World) (h1 : IsN w s1 a1 n1 n) (h2 : IsN w s2 a2 n2 d) :
 Calls Tryz.prog 25 #[.agg #[.bool s1, .slice a1 n1 c1], .agg #[.bool s2, .slice a2 n2 c2]] w (RatPost w (some (Rat.divInt n d))) := by
 have HD := hide hd0
 have HZ : Hid (((Int.gcd n d : Nat) : Int) ≠ 0) := hide fun e => by
  have h : Int.gcd n d ≠ 0 := fun h => by have := (Int.gcd_eq_zero_iff.1 h).2; omega
  omega
 have HC : Hid (cmpZ d 0 = 1) := hide (by unfold cmpZ; rw [if_neg (by omega), if_neg (by omega)])
 have HR : Hid (n / ((Int.gcd n d : Nat) : Int) = (Rat.divInt n d).num ∧ d / ((Int.gcd n d : Nat) : Int) = ((Rat.divInt n d).den : Int)) := hide (by
  obtain ⟨e1, e2⟩ := rat_divInt n d (by omega)
  rw [ofG_pos hd0] at e1 e2
  exact ⟨e1.symm, e2.symm⟩)
 obtain ⟨g, hg⟩ : ∃ g, ((Int.gcd n d : Nat) : Int) = g := ⟨_, rfl⟩
 rw [hg] at HZ HR
 have HG := hide hg
 clear hd0 hg
 go_enter Tryz.func25, Tryz.ntmps25
 go_wp2_with fail
 obtain ⟨W1, hW1⟩ : ∃ W1, ((w.alloc (Obj.cells #[.bool s1, .slice a1 n1 c1] 25)).alloc (Obj.cells #[.bool s2, .slice a2 n2 c2] 25)).alloc (Obj.cells #[.bool false, .slice none 0 0, .bool false, .slice none 0 0] 27) = W1 := ⟨_, rfl⟩
 obtain ⟨bA, bB, qC, hB⟩ := rof_boxes w _ _ _ _ _ _ hW1
 have h1 := h1.below hB
 have h2 := h2.below hB
 try rw [hW1]
 clear hW1
 have hB := hB.drew
 have h1 := h1.below (Below.drew (Below.refl W1.heap.size W1))
 have h2 := h2.below (Below.drew (Below.refl W1.heap.size W1))
 have bA : Box2 W1.drew _ _ _ := bA.below (Below.drew (Below.refl _ _)) bA.lt
 have bB : Box2 W1.drew _ _ _ := bB.below (Below.drew (Below.refl _ _)) bB.lt
 have qC := qC.below (Below.drew (Below.refl W1.heap.size W1))
 refine wp_region_held_drew (S := fun w' => Below (W1.drew.heap.size) W1.drew w') (by kernel_rfl) (Below.refl _ _) (fun hHeld => ?_)
 obtain ⟨WE, hWE⟩ : ∃ W, W1.drew = W := ⟨_, rfl⟩
 rw [hWE] at hB h1 h2 bA bB qC hHeld ⊢
 clear hWE
 have hE := Below.refl WE.heap.size WE
 have lA := bA.lt
 have lB := bB.lt
 obtain ⟨x10, x11, -, -⟩ := id bA
 obtain ⟨x20, x21, -, -⟩ := id bB
 refine tk 0 (.agg #[.bool s1, .slice a1 n1 c1]) 9 rfl rfl ?_ (Or.inl ⟨by rfl, fun w' hSw => by have q0 := (hSw.cell (p := ⟨w.heap.size, 0, none⟩) lA).trans x10; have q1 := (hSw.cell (p := ⟨w.heap.size, 1, none⟩) lA).trans x11; go_simp⟩)
 simp only [Act.put, pA, pB, pC]
 refine wpAnyH_one 1 (by kernel_rfl) ?_
 refine wpOp_call (i := 1) (f := 67) (args := #[.agg #[.bool s1, .slice a1 n1 c1]]) 10 rfl rfl (by rfl) (by go_simp) ?_
 refine (rright_yes s1 a1 n1 c1 n k1 WE h1).mono ?_
 rintro e r1 ⟨rfl, hk⟩
 have hE := hE.trans (hk.mono hE.size)
 have h1 := h1.below hk
 have h2 := h2.below hk
 have qC := qC.below hk
 have bA := bA.below hk bA.lt
 have bB := bB.below hk bB.lt
 refine ⟨_, rfl, hE, ?_⟩
 simp only [Act.put, pA, pB, pC]
 refine tk 2 (.bool false) 11 rfl rfl ?_
 simp only [Act.put, pA, pB, pC]
 refine tk 3 (.bool false) 12 rfl rfl ?_
 simp only [Act.put, pA, pB, pC]
 refine tk 4 (.agg #[.bool s2, .slice a2 n2 c2]) 13 rfl rfl ?_ (Or.inl ⟨by rfl, fun w' hSw => by have q0 := (hSw.cell (p := ⟨w.heap.size + 1, 0, none⟩) lB).trans x20; have q1 := (hSw.cell (p := ⟨w.heap.size + 1, 1, none⟩) lB).trans x21; go_simp⟩)
 simp only [Act.put, pA, pB, pC]
 refine wpAnyH_one 5 (by kernel_rfl) ?_
 refine wpOp_call (i := 5) (f := 67) (args := #[.agg #[.bool s2, .slice a2 n2 c2]]) 14 rfl rfl (by rfl) (by go_simp) ?_
 refine (rright_yes s2 a2 n2 c2 d k2 r1 h2).mono ?_
 rintro e r2 ⟨rfl, hk⟩
 have hE := hE.trans (hk.mono hE.size)
 have h1 := h1.below hk
 have h2 := h2.below hk
 have qC := qC.below hk
 have bA := bA.below hk bA.lt
 have bB := bB.below hk bB.lt
 refine ⟨_, rfl, hE, ?_⟩
 simp only [Act.put, pA, pB, pC]
 refine tk 6 (.bool false) 15 rfl rfl ?_
 simp only [Act.put, pA, pB, pC]
 refine tk 7 (.bool false) 16 rfl rfl ?_
 simp only [Act.put, pA, pB, pC]
 refine tk 8 (.bool false) 17 rfl rfl ?_
 simp only [Act.put, pA, pB, pC]
 refine tk 9 (.agg #[.bool s2, .slice a2 n2 c2]) 18 rfl rfl ?_ (Or.inl ⟨by rfl, fun w' hSw => by have q0 := (hSw.cell (p := ⟨w.heap.size + 1, 0, none⟩) lB).trans x20; have q1 := (hSw.cell (p := ⟨w.heap.size + 1, 1, none⟩) lB).trans x21; go_simp⟩)
 simp only [Act.put, pA, pB, pC]
 refine wpAnyH_one 10 (by kernel_rfl) ?_
 refine wpOp_call (i := 10) (f := 55) (args := #[.int .i64 0]) 19 rfl rfl (by rfl) (by go_simp) ?_
 refine (whole_r 0 (by decide) (by decide) r2).mono ?_
 rintro e r3 ⟨s6, a6, n6, c6, rfl, N6, k6, -, hk⟩
 have hE := hE.trans (hk.mono hE.size)
 have h1 := h1.below hk
 have h2 := h2.below hk
 have qC := qC.below hk
 have bA := bA.below hk bA.lt
 have bB := bB.below hk bB.lt
 refine ⟨_, rfl, hE, ?_⟩
 simp only [Act.put, pA, pB, pC]
 refine wpAnyH_one 11 (by kernel_rfl) ?_
 have cc := rcmp_any s2 s6 a2 a6 n2 n6 c2 c6 d 0 k2 k6 r3 h2 N6
 rw [HC.out] at cc
 refine wpOp_call (i := 11) (f := 54) (args := #[.agg #[.bool s2, .slice a2 n2 c2], .agg #[.bool s6, .slice a6 n6 c6]]) 20 rfl rfl (by rfl) (by go_simp) ?_
 refine (cc).mono ?_
 rintro e r4 ⟨rfl, hk⟩
 clear cc
 have hE := hE.trans (hk.mono hE.size)
 have h1 := h1.below hk
 have h2 := h2.below hk
 have qC := qC.below hk
 have N6 := N6.below hk
 have bA := bA.below hk bA.lt
 have bB := bB.below hk bB.lt
 clear N6
 refine ⟨_, rfl, hE, ?_⟩
 simp only [Act.put, pA, pB, pC]
 refine tk 12 (.bool false) 21 rfl rfl ?_
 simp only [Act.put, pA, pB, pC]
 refine tk 13 (.bool false) 22 rfl rfl ?_
 simp only [Act.put, pA, pB, pC]
 refine wpAnyH_done (by kernel_rfl) ?_ _
 clear x10 x11 x20 x21 lA lB
 have hB := hB.trans (hE.mono hB.size)
 clear hE hHeld
 obtain ⟨x10, x11, -, -⟩ := id bA
 obtain ⟨x20, x21, -, -⟩ := id bB
 go_wp2_with fail
 clear x10 x11 x20 x21
 have cc := rgcd_num s1 s2 a1 a2 n1 n2 c1 c2 n d k1 k2 l1 l2 r4 h1 h2
 rw [HG.out] at cc
 refine cc.mono ?_
 clear cc
 rintro e u1 ⟨s6, a6, n6, c6, rfl, N6, -, hk⟩
 have k6 : n6 ≤ 64 := by rw [N6.dig.len, ← HG.out]; exact gcd_fit h1 h2 k1 k2
 have hB := hB.trans (hk.mono hB.size)
 have h1 := h1.below hk
 have h2 := h2.below hk
 have bA := bA.below hk bA.lt
 have bB := bB.below hk bB.lt
 have qC := qC.below hk
 clear hk
 obtain ⟨Z6, hZ6⟩ : ∃ Z, u1.alloc (Obj.cells #[.bool false, .slice none 0 0] 25) = Z := ⟨_, rfl⟩
 obtain ⟨W6, hW6⟩ : ∃ W, (Z6.setCell ⟨u1.heap.size, 0, none⟩ (.bool s6)).setCell ⟨u1.heap.size, 1, none⟩ (.slice a6 n6 c6) = W := ⟨_, rfl⟩
 obtain ⟨H6, hk, bx6⟩ := num_new (c := c6) hZ6 hW6 N6
 clear N6
 obtain ⟨B6, hB6⟩ : ∃ B, u1.heap.size = B := ⟨_, rfl⟩
 have lq6 := qC.lt
 rw [hB6] at lq6
 have hB := hB.trans (hk.mono hB.size)
 have h1 := h1.below hk
 have h2 := h2.below hk
 have bA := bA.below hk bA.lt
 have bB := bB.below hk bB.lt
 have qC := qC.below hk
 clear hk
 rw [hB6] at hW6 H6 bx6
 obtain ⟨y60, y61, yz60, yz61⟩ := id bx6
 go_wp2_with fail
 try rw [hW6]
 try rw [hB6]
 clear hW6 hB6
 clear y60 y61 yz60 yz61
 have hB := hB.drew
 have h1 := h1.below (Below.drew (Below.refl W6.heap.size W6))
 have h2 := h2.below (Below.drew (Below.refl W6.heap.size W6))
 have H6 := H6.below (Below.drew (Below.refl W6.heap.size W6))
 have bA : Box2 W6.drew _ _ _ := bA.below (Below.drew (Below.refl _ _)) bA.lt
 have bB : Box2 W6.drew _ _ _ := bB.below (Below.drew (Below.refl _ _)) bB.lt
 have qC := qC.below (Below.drew (Below.refl W6.heap.size W6))
 refine wp_region_held_drew (S := fun w' => Below (B6 + 1) W6.drew w') (by kernel_rfl) (Below.refl _ _) (fun hHeld => ?_)
 obtain ⟨WF, hWE⟩ : ∃ W, W6.drew = W := ⟨_, rfl⟩
 rw [hWE] at hB h1 h2 H6 bA bB qC hHeld ⊢
 clear hWE
 have hE := Below.refl WF.heap.size WF
 have lS : B6 + 1 ≤ WF.heap.size := H6.box.lt
 have lG : B6 < B6 + 1 := by omega
 have lA : w.heap.size < B6 + 1 := by omega
 have lB : w.heap.size + 1 < B6 + 1 := by omega
 obtain ⟨x10, x11, -, -⟩ := id bA
 obtain ⟨x20, x21, -, -⟩ := id bB
 obtain ⟨x30, x31, -, -⟩ := id H6.box
 refine tk 0 (.agg #[.bool s1, .slice a1 n1 c1]) 30 rfl rfl ?_ (Or.inl ⟨by rfl, fun w' hSw => by have q0 := (hSw.cell (p := ⟨w.heap.size, 0, none⟩) lA).trans x10; have q1 := (hSw.cell (p := ⟨w.heap.size, 1, none⟩) lA).trans x11; go_simp⟩)
 simp only [Act.put, pA, pB, pC]
 refine tk 1 (.agg #[.bool s6, .slice a6 n6 c6]) 31 rfl rfl ?_ (Or.inl ⟨by rfl, fun w' hSw => by have q0 := (hSw.cell (p := ⟨B6, 0, none⟩) lG).trans x30; have q1 := (hSw.cell (p := ⟨B6, 1, none⟩) lG).trans x31; go_simp⟩)
 simp only [Act.put, pA, pB, pC]
 refine tk 3 (.agg #[.bool s2, .slice a2 n2 c2]) 33 rfl rfl ?_ (Or.inl ⟨by rfl, fun w' hSw => by have q0 := (hSw.cell (p := ⟨w.heap.size + 1, 0, none⟩) lB).trans x20; have q1 := (hSw.cell (p := ⟨w.heap.size + 1, 1, none⟩) lB).trans x21; go_simp⟩)
 simp only [Act.put, pA, pB, pC]
 refine tk 4 (.agg #[.bool s6, .slice a6 n6 c6]) 34 rfl rfl ?_ (Or.inl ⟨by rfl, fun w' hSw => by have q0 := (hSw.cell (p := ⟨B6, 0, none⟩) lG).trans x30; have q1 := (hSw.cell (p := ⟨B6, 1, none⟩) lG).trans x31; go_simp⟩)
 simp only [Act.put, pA, pB, pC]
 refine wpAnyH_twoR 2 7 (by kernel_rfl) ?_ ?_
 · refine wpOp_call (i := 2) (f := 61) (args := #[.agg #[.bool s1, .slice a1 n1 c1], .agg #[.bool s6, .slice a6 n6 c6]]) 32 rfl rfl (by rfl) (by go_simp) ?_
   refine (over_r s1 s6 a1 a6 n1 n6 c1 c6 n g k1 k6 l1 HZ WF h1 H6.num).mono ?_
   rintro e r1 ⟨s8, a8, n8, c8, rfl, N8, k8, hk⟩
   have hE := hE.trans (hk.mono hE.size)
   have h1 := h1.below hk
   have h2 := h2.below hk
   have H6 := H6.below hk
   have qC := qC.below hk
   have bB := bB.below hk bB.lt
   have hS : Below (B6 + 1) WF r1 := hE.mono lS
   refine ⟨_, rfl, hS, ?_⟩
   simp only [Act.put, pA, pB, pC]
   refine wpAnyH_twoR 5 7 (by kernel_rfl) ?_ ?_
   · refine wpOp_call (i := 5) (f := 61) (args := #[.agg #[.bool s2, .slice a2 n2 c2], .agg #[.bool s6, .slice a6 n6 c6]]) 35 rfl rfl (by rfl) (by go_simp) ?_
     refine (over_r s2 s6 a2 a6 n2 n6 c2 c6 d g k2 k6 l2 HZ r1 h2 H6.num).mono ?_
     rintro e r2 ⟨s9, a9, n9, c9, rfl, N9, k9, hk⟩
     have hE := hE.trans (hk.mono hE.size)
     have h1 := h1.below hk
     have h2 := h2.below hk
     have H6 := H6.below hk
     have qC := qC.below hk
     have N8 := N8.below hk
     have bB := bB.below hk bB.lt
     have hS : Below (B6 + 1) WF r2 := hE.mono lS
     refine ⟨_, rfl, hS, ?_⟩
     simp only [Act.put, pA, pB, pC]
     refine tk 6 (.agg #[.bool s8, .slice a8 n8 c8, .bool s9, .slice a9 n9 c9]) 36 rfl rfl ?_
     simp only [Act.put, pA, pB, pC]
     refine wpAnyH_one 7 (by kernel_rfl) ?_
     refine wpOp_run (i := 7) rfl ?_
     go_simp
     have qr := Quad.new r2 (Value.bool false) (Value.slice none 0 0) (Value.bool false) (Value.slice none 0 0) 27
     have hk := below_alloc' r2 (Obj.cells #[.bool false, .slice none 0 0, .bool false, .slice none 0 0] 27)
     obtain ⟨r3, hw⟩ : ∃ W, r2.alloc (Obj.cells #[.bool false, .slice none 0 0, .bool false, .slice none 0 0] 27) = W := ⟨_, rfl⟩
     obtain ⟨bqr, hbb⟩ : ∃ b, r2.heap.size = b := ⟨_, rfl⟩
     have gqr : WF.heap.size ≤ bqr := by rw [← hbb]; exact hE.size
     rw [hw] at hk qr ⊢
     have hE := hE.trans (hk.mono hE.size)
     have h1 := h1.below hk
     have h2 := h2.below hk
     have H6 := H6.below hk
     have qC := qC.below hk
     have N8 := N8.below hk
     have N9 := N9.below hk
     have bB := bB.below hk bB.lt
     rw [hbb] at qr ⊢
     clear hw hbb hk
     have hS : Below (B6 + 1) WF r3 := hE.mono lS
     refine ⟨hS, ?_⟩
     refine wpAnyH_one 8 (by kernel_rfl) ?_
     obtain ⟨Wz, hWz⟩ : ∃ W, (((r3.setCell ⟨bqr, 0, none⟩ (.bool s8)).setCell ⟨bqr, 1, none⟩ (.slice a8 n8 c8)).setCell ⟨bqr, 2, none⟩ (.bool s9)).setCell ⟨bqr, 3, none⟩ (.slice a9 n9 c9) = W := ⟨_, rfl⟩
     obtain ⟨hQ, hT⟩ := qr.set _ _ _ _ hWz
     have qC := qC.touch (by omega) hT
     have bB' : Box2 Wz (w.heap.size + 1) (.bool s2) (.slice a2 n2 c2) := by
      have hb := hT.block (w.heap.size + 1) bB.lt (by omega)
      exact ⟨(cell_of_block_eq hb _).trans bB.c0, (cell_of_block_eq hb _).trans bB.c1, (frozen_of_block_eq hb _).trans bB.z0, (frozen_of_block_eq hb _).trans bB.z1⟩
     have N8 := N8.quad qr.four hT
     have N9 := N9.quad qr.four hT
     have h2 := h2.quad qr.four hT
     have hSz : Below WF.heap.size WF ((((r3.setCell ⟨bqr, 0, none⟩ (.bool s8)).setCell ⟨bqr, 1, none⟩ (.slice a8 n8 c8)).setCell ⟨bqr, 2, none⟩ (.bool s9)).setCell ⟨bqr, 3, none⟩ (.slice a9 n9 c9)) := below_set4 hE gqr _ _ _ _
     have hS := hSz.mono lS
     have HWz := hide hWz
     have K := hide (And.intro hQ (And.intro qC (And.intro bB' (And.intro N8 (And.intro N9 (And.intro h2 hSz))))))
     clear hWz hT hQ bB' N8 N9 h2
     obtain ⟨⟨x90, x91, x92, x93⟩, z90, z91, z92, z93⟩ := id qr
     refine wpOp_run (i := 8) rfl ?_
     go_simp
     refine wpAnyH_done (by kernel_rfl) ?_ _
     rw [HWz.out]
     obtain ⟨hQ, qC, bB, N8, N9, h2, hSz⟩ := K.out
     rw [HWz.out] at hSz
     clear K HWz hE x90 x91 x92 x93 z90 z91 z92 z93 qr x10 x11 x20 x21 x30 x31 lA lB lG lS hS hHeld
     have hB := hB.trans (hSz.mono hB.size)
     clear hSz
     go_wp2_with fail
     have hB := hB.drew
     have N8 := N8.below (Below.drew (Below.refl Wz.heap.size Wz))
     have N9 := N9.below (Below.drew (Below.refl Wz.heap.size Wz))
     have h2 := h2.below (Below.drew (Below.refl Wz.heap.size Wz))
     have hQ := hQ.below (Below.drew (Below.refl Wz.heap.size Wz))
     have bB : Box2 Wz.drew _ _ _ := bB.below (Below.drew (Below.refl _ _)) bB.lt
     have qC := qC.below (Below.drew (Below.refl Wz.heap.size Wz))
     refine wp_region_held_drew (S := fun w' => Below (Wz.drew.heap.size) Wz.drew w') (by kernel_rfl) (Below.refl _ _) (fun hHeld => ?_)
     obtain ⟨WG, hWE⟩ : ∃ W, Wz.drew = W := ⟨_, rfl⟩
     rw [hWE] at hB N8 N9 h2 hQ bB qC hHeld ⊢
     clear hWE
     have hE := Below.refl WG.heap.size WG
     have lB := bB.lt
     obtain ⟨x20, x21, -, -⟩ := id bB
     refine tk 0 (.agg #[.bool s2, .slice a2 n2 c2]) 37 rfl rfl ?_ (Or.inl ⟨by rfl, fun w' hSw => by have q0 := (hSw.cell (p := ⟨w.heap.size + 1, 0, none⟩) lB).trans x20; have q1 := (hSw.cell (p := ⟨w.heap.size + 1, 1, none⟩) lB).trans x21; go_simp⟩)
     simp only [Act.put, pA, pB, pC]
     refine wpAnyH_one 1 (by kernel_rfl) ?_
     refine wpOp_call (i := 1) (f := 55) (args := #[.int .i64 0]) 38 rfl rfl (by rfl) (by go_simp) ?_
     refine (whole_r 0 (by decide) (by decide) WG).mono ?_
     rintro e r1 ⟨s7, a7, n7, c7, rfl, N7, k7, -, hk⟩
     have hE := hE.trans (hk.mono hE.size)
     have N8 := N8.below hk
     have N9 := N9.below hk
     have h2 := h2.below hk
     have hQ := hQ.below hk
     have qC := qC.below hk
     refine ⟨_, rfl, hE, ?_⟩
     simp only [Act.put, pA, pB, pC]
     refine wpAnyH_one 2 (by kernel_rfl) ?_
     have cc := rcmp_any s2 s7 a2 a7 n2 n7 c2 c7 d 0 k2 k7 r1 h2 N7
     rw [HC.out] at cc
     refine wpOp_call (i := 2) (f := 54) (args := #[.agg #[.bool s2, .slice a2 n2 c2], .agg #[.bool s7, .slice a7 n7 c7]]) 39 rfl rfl (by rfl) (by go_simp) ?_
     refine (cc).mono ?_
     rintro e r2 ⟨rfl, hk⟩
     clear cc
     have hE := hE.trans (hk.mono hE.size)
     have N8 := N8.below hk
     have N9 := N9.below hk
     have h2 := h2.below hk
     have hQ := hQ.below hk
     have qC := qC.below hk
     have N7 := N7.below hk
     refine ⟨_, rfl, hE, ?_⟩
     simp only [Act.put, pA, pB, pC]
     refine tk 3 (.bool false) 40 rfl rfl ?_
     simp only [Act.put, pA, pB, pC]
     refine wpAnyH_done (by kernel_rfl) ?_ _
     clear x20 x21 lB
     have hB := hB.trans (hE.mono hB.size)
     clear hE hHeld
     have P1 := N8
     have P2 := N9
     obtain ⟨Wz, hWz⟩ : ∃ W, (((r2.setCell ⟨w.heap.size + 1 + 1, 0, none⟩ (.bool s8)).setCell ⟨w.heap.size + 1 + 1, 1, none⟩ (.slice a8 n8 c8)).setCell ⟨w.heap.size + 1 + 1, 2, none⟩ (.bool s9)).setCell ⟨w.heap.size + 1 + 1, 3, none⟩ (.slice a9 n9 c9) = W := ⟨_, rfl⟩
     obtain ⟨hQ, hT⟩ := qC.set _ _ _ _ hWz
     have hBz : Below w.heap.size w Wz := by rw [← hWz]; exact below_set4 hB (by omega) _ _ _ _
     have P1 := P1.quad qC.four hT
     have P2 := P2.quad qC.four hT
     have K := hide (And.intro hQ (And.intro P1 (And.intro P2 hBz)))
     have HWz := hide hWz
     clear hQ hBz hWz hT P1 P2
     obtain ⟨⟨x90, x91, x92, x93⟩, z90, z91, z92, z93⟩ := id qC
     obtain ⟨⟨x70, x71, x72, x73⟩, -, -, -, -⟩ := id hQ
     go_wp2
     obtain ⟨⟨⟨q0, q1, q2, q3⟩, -, -, -, -⟩, P1, P2, hBB⟩ := K.out
     rw [HWz.out]
     exact bodyPost_ret (v := .tuple #[.agg #[.bool s8, .slice a8 n8 c8, .bool s9, .slice a9 n9 c9], .bool true]) (by simp [results, Tryz.results25, go_sem, q0, q1, q2, q3]) rfl ⟨_, _, _, _, _, _, _, _, rfl, by rw [HR.out.1] at P1; exact P1, by rw [HR.out.2] at P2; exact P2, k8, k9, hBB⟩
   · refine wpOp_run (i := 7) rfl ?_
     go_simp
     have qr := Quad.new r1 (Value.bool false) (Value.slice none 0 0) (Value.bool false) (Value.slice none 0 0) 27
     have hk := below_alloc' r1 (Obj.cells #[.bool false, .slice none 0 0, .bool false, .slice none 0 0] 27)
     obtain ⟨r4, hw⟩ : ∃ W, r1.alloc (Obj.cells #[.bool false, .slice none 0 0, .bool false, .slice none 0 0] 27) = W := ⟨_, rfl⟩
     obtain ⟨bqr, hbb⟩ : ∃ b, r1.heap.size = b := ⟨_, rfl⟩
     have gqr : WF.heap.size ≤ bqr := by rw [← hbb]; exact hE.size
     rw [hw] at hk qr ⊢
     have hE := hE.trans (hk.mono hE.size)
     have h1 := h1.below hk
     have h2 := h2.below hk
     have H6 := H6.below hk
     have qC := qC.below hk
     have N8 := N8.below hk
     have bB := bB.below hk bB.lt
     rw [hbb] at qr ⊢
     clear hw hbb hk
     have hS : Below (B6 + 1) WF r4 := hE.mono lS
     refine ⟨hS, ?_⟩
     refine wpAnyH_one 5 (by kernel_rfl) ?_
     refine wpOp_call (i := 5) (f := 61) (args := #[.agg #[.bool s2, .slice a2 n2 c2], .agg #[.bool s6, .slice a6 n6 c6]]) 35 rfl rfl (by rfl) (by go_simp) ?_
     refine (over_r s2 s6 a2 a6 n2 n6 c2 c6 d g k2 k6 l2 HZ r4 h2 H6.num).mono ?_
     rintro e r5 ⟨s9, a9, n9, c9, rfl, N9, k9, hk⟩
     have hE := hE.trans (hk.mono hE.size)
     have h1 := h1.below hk
     have h2 := h2.below hk
     have H6 := H6.below hk
     have qC := qC.below hk
     have N8 := N8.below hk
     have qr := qr.below hk
     have bB := bB.below hk bB.lt
     have hS : Below (B6 + 1) WF r5 := hE.mono lS
     refine ⟨_, rfl, hS, ?_⟩
     simp only [Act.put, pA, pB, pC]
     refine tk 6 (.agg #[.bool s8, .slice a8 n8 c8, .bool s9, .slice a9 n9 c9]) 36 rfl rfl ?_
     simp only [Act.put, pA, pB, pC]
     refine wpAnyH_one 8 (by kernel_rfl) ?_
     obtain ⟨Wz, hWz⟩ : ∃ W, (((r5.setCell ⟨bqr, 0, none⟩ (.bool s8)).setCell ⟨bqr, 1, none⟩ (.slice a8 n8 c8)).setCell ⟨bqr, 2, none⟩ (.bool s9)).setCell ⟨bqr, 3, none⟩ (.slice a9 n9 c9) = W := ⟨_, rfl⟩
     obtain ⟨hQ, hT⟩ := qr.set _ _ _ _ hWz
     have qC := qC.touch (by omega) hT
     have bB' : Box2 Wz (w.heap.size + 1) (.bool s2) (.slice a2 n2 c2) := by
      have hb := hT.block (w.heap.size + 1) bB.lt (by omega)
      exact ⟨(cell_of_block_eq hb _).trans bB.c0, (cell_of_block_eq hb _).trans bB.c1, (frozen_of_block_eq hb _).trans bB.z0, (frozen_of_block_eq hb _).trans bB.z1⟩
     have N8 := N8.quad qr.four hT
     have N9 := N9.quad qr.four hT
     have h2 := h2.quad qr.four hT
     have hSz : Below WF.heap.size WF ((((r5.setCell ⟨bqr, 0, none⟩ (.bool s8)).setCell ⟨bqr, 1, none⟩ (.slice a8 n8 c8)).setCell ⟨bqr, 2, none⟩ (.bool s9)).setCell ⟨bqr, 3, none⟩ (.slice a9 n9 c9)) := below_set4 hE gqr _ _ _ _
     have hS := hSz.mono lS
     have HWz := hide hWz
     have K := hide (And.intro hQ (And.intro qC (And.intro bB' (And.intro N8 (And.intro N9 (And.intro h2 hSz))))))
     clear hWz hT hQ bB' N8 N9 h2
     obtain ⟨⟨x90, x91, x92, x93⟩, z90, z91, z92, z93⟩ := id qr
     refine wpOp_run (i := 8) rfl ?_
     go_simp
     refine wpAnyH_done (by kernel_rfl) ?_ _
     rw [HWz.out]
     obtain ⟨hQ, qC, bB, N8, N9, h2, hSz⟩ := K.out
     rw [HWz.out] at hSz
     clear K HWz hE x90 x91 x92 x93 z90 z91 z92 z93 qr x10 x11 x20 x21 x30 x31 lA lB lG lS hS hHeld
     have hB := hB.trans (hSz.mono hB.size)
     clear hSz
     go_wp2_with fail
     have hB := hB.drew
     have N8 := N8.below (Below.drew (Below.refl Wz.heap.size Wz))
     have N9 := N9.below (Below.drew (Below.refl Wz.heap.size Wz))
     have h2 := h2.below (Below.drew (Below.refl Wz.heap.size Wz))
     have hQ := hQ.below (Below.drew (Below.refl Wz.heap.size Wz))
     have bB : Box2 Wz.drew _ _ _ := bB.below (Below.drew (Below.refl _ _)) bB.lt
     have qC := qC.below (Below.drew (Below.refl Wz.heap.size Wz))
     refine wp_region_held_drew (S := fun w' => Below (Wz.drew.heap.size) Wz.drew w') (by kernel_rfl) (Below.refl _ _) (fun hHeld => ?_)
     obtain ⟨WG, hWE⟩ : ∃ W, Wz.drew = W := ⟨_, rfl⟩
     rw [hWE] at hB N8 N9 h2 hQ bB qC hHeld ⊢
     clear hWE
     have hE := Below.refl WG.heap.size WG
     have lB := bB.lt
     obtain ⟨x20, x21, -, -⟩ := id bB
     refine tk 0 (.agg #[.bool s2, .slice a2 n2 c2]) 37 rfl rfl ?_ (Or.inl ⟨by rfl, fun w' hSw => by have q0 := (hSw.cell (p := ⟨w.heap.size + 1, 0, none⟩) lB).trans x20; have q1 := (hSw.cell (p := ⟨w.heap.size + 1, 1, none⟩) lB).trans x21; go_simp⟩)
     simp only [Act.put, pA, pB, pC]
     refine wpAnyH_one 1 (by kernel_rfl) ?_
     refine wpOp_call (i := 1) (f := 55) (args := #[.int .i64 0]) 38 rfl rfl (by rfl) (by go_simp) ?_
     refine (whole_r 0 (by decide) (by decide) WG).mono ?_
     rintro e r1 ⟨s7, a7, n7, c7, rfl, N7, k7, -, hk⟩
     have hE := hE.trans (hk.mono hE.size)
     have N8 := N8.below hk
     have N9 := N9.below hk
     have h2 := h2.below hk
     have hQ := hQ.below hk
     have qC := qC.below hk
     refine ⟨_, rfl, hE, ?_⟩
     simp only [Act.put, pA, pB, pC]
     refine wpAnyH_one 2 (by kernel_rfl) ?_
     have cc := rcmp_any s2 s7 a2 a7 n2 n7 c2 c7 d 0 k2 k7 r1 h2 N7
     rw [HC.out] at cc
     refine wpOp_call (i := 2) (f := 54) (args := #[.agg #[.bool s2, .slice a2 n2 c2], .agg #[.bool s7, .slice a7 n7 c7]]) 39 rfl rfl (by rfl) (by go_simp) ?_
     refine (cc).mono ?_
     rintro e r2 ⟨rfl, hk⟩
     clear cc
     have hE := hE.trans (hk.mono hE.size)
     have N8 := N8.below hk
     have N9 := N9.below hk
     have h2 := h2.below hk
     have hQ := hQ.below hk
     have qC := qC.below hk
     have N7 := N7.below hk
     refine ⟨_, rfl, hE, ?_⟩
     simp only [Act.put, pA, pB, pC]
     refine tk 3 (.bool false) 40 rfl rfl ?_
     simp only [Act.put, pA, pB, pC]
     refine wpAnyH_done (by kernel_rfl) ?_ _
     clear x20 x21 lB
     have hB := hB.trans (hE.mono hB.size)
     clear hE hHeld
     have P1 := N8
     have P2 := N9
     obtain ⟨Wz, hWz⟩ : ∃ W, (((r2.setCell ⟨w.heap.size + 1 + 1, 0, none⟩ (.bool s8)).setCell ⟨w.heap.size + 1 + 1, 1, none⟩ (.slice a8 n8 c8)).setCell ⟨w.heap.size + 1 + 1, 2, none⟩ (.bool s9)).setCell ⟨w.heap.size + 1 + 1, 3, none⟩ (.slice a9 n9 c9) = W := ⟨_, rfl⟩
     obtain ⟨hQ, hT⟩ := qC.set _ _ _ _ hWz
     have hBz : Below w.heap.size w Wz := by rw [← hWz]; exact below_set4 hB (by omega) _ _ _ _
     have P1 := P1.quad qC.four hT
     have P2 := P2.quad qC.four hT
     have K := hide (And.intro hQ (And.intro P1 (And.intro P2 hBz)))
     have HWz := hide hWz
     clear hQ hBz hWz hT P1 P2
     obtain ⟨⟨x90, x91, x92, x93⟩, z90, z91, z92, z93⟩ := id qC
     obtain ⟨⟨x70, x71, x72, x73⟩, -, -, -, -⟩ := id hQ
     go_wp2
     obtain ⟨⟨⟨q0, q1, q2, q3⟩, -, -, -, -⟩, P1, P2, hBB⟩ := K.out
     rw [HWz.out]
     exact bodyPost_ret (v := .tuple #[.agg #[.bool s8, .slice a8 n8 c8, .bool s9, .slice a9 n9 c9], .bool true]) (by simp [results, Tryz.results25, go_sem, q0, q1, q2, q3]) rfl ⟨_, _, _, _, _, _, _, _, rfl, by rw [HR.out.1] at P1; exact P1, by rw [HR.out.2] at P2; exact P2, k8, k9, hBB⟩
 · refine wpOp_run (i := 7) rfl ?_
   go_simp
   have qr := Quad.new WF (Value.bool false) (Value.slice none 0 0) (Value.bool false) (Value.slice none 0 0) 27
   have hk := below_alloc' WF (Obj.cells #[.bool false, .slice none 0 0, .bool false, .slice none 0 0] 27)
   obtain ⟨r6, hw⟩ : ∃ W, WF.alloc (Obj.cells #[.bool false, .slice none 0 0, .bool false, .slice none 0 0] 27) = W := ⟨_, rfl⟩
   obtain ⟨bqr, hbb⟩ : ∃ b, WF.heap.size = b := ⟨_, rfl⟩
   have gqr : WF.heap.size ≤ bqr := by rw [← hbb]; exact hE.size
   rw [hw] at hk qr ⊢
   have hE := hE.trans (hk.mono hE.size)
   have h1 := h1.below hk
   have h2 := h2.below hk
   have H6 := H6.below hk
   have qC := qC.below hk
   have bB := bB.below hk bB.lt
   rw [hbb] at qr ⊢
   clear hw hbb hk
   have hS : Below (B6 + 1) WF r6 := hE.mono lS
   refine ⟨hS, ?_⟩
   refine wpAnyH_one 2 (by kernel_rfl) ?_
   refine wpOp_call (i := 2) (f := 61) (args := #[.agg #[.bool s1, .slice a1 n1 c1], .agg #[.bool s6, .slice a6 n6 c6]]) 32 rfl rfl (by rfl) (by go_simp) ?_
   refine (over_r s1 s6 a1 a6 n1 n6 c1 c6 n g k1 k6 l1 HZ r6 h1 H6.num).mono ?_
   rintro e r7 ⟨s8, a8, n8, c8, rfl, N8, k8, hk⟩
   have hE := hE.trans (hk.mono hE.size)
   have h1 := h1.below hk
   have h2 := h2.below hk
   have H6 := H6.below hk
   have qC := qC.below hk
   have qr := qr.below hk
   have bB := bB.below hk bB.lt
   have hS : Below (B6 + 1) WF r7 := hE.mono lS
   refine ⟨_, rfl, hS, ?_⟩
   simp only [Act.put, pA, pB, pC]
   refine wpAnyH_one 5 (by kernel_rfl) ?_
   refine wpOp_call (i := 5) (f := 61) (args := #[.agg #[.bool s2, .slice a2 n2 c2], .agg #[.bool s6, .slice a6 n6 c6]]) 35 rfl rfl (by rfl) (by go_simp) ?_
   refine (over_r s2 s6 a2 a6 n2 n6 c2 c6 d g k2 k6 l2 HZ r7 h2 H6.num).mono ?_
   rintro e r8 ⟨s9, a9, n9, c9, rfl, N9, k9, hk⟩
   have hE := hE.trans (hk.mono hE.size)
   have h1 := h1.below hk
   have h2 := h2.below hk
   have H6 := H6.below hk
   have qC := qC.below hk
   have N8 := N8.below hk
   have qr := qr.below hk
   have bB := bB.below hk bB.lt
   have hS : Below (B6 + 1) WF r8 := hE.mono lS
   refine ⟨_, rfl, hS, ?_⟩
   simp only [Act.put, pA, pB, pC]
   refine tk 6 (.agg #[.bool s8, .slice a8 n8 c8, .bool s9, .slice a9 n9 c9]) 36 rfl rfl ?_
   simp only [Act.put, pA, pB, pC]
   refine wpAnyH_one 8 (by kernel_rfl) ?_
   obtain ⟨Wz, hWz⟩ : ∃ W, (((r8.setCell ⟨bqr, 0, none⟩ (.bool s8)).setCell ⟨bqr, 1, none⟩ (.slice a8 n8 c8)).setCell ⟨bqr, 2, none⟩ (.bool s9)).setCell ⟨bqr, 3, none⟩ (.slice a9 n9 c9) = W := ⟨_, rfl⟩
   obtain ⟨hQ, hT⟩ := qr.set _ _ _ _ hWz
   have qC := qC.touch (by omega) hT
   have bB' : Box2 Wz (w.heap.size + 1) (.bool s2) (.slice a2 n2 c2) := by
    have hb := hT.block (w.heap.size + 1) bB.lt (by omega)
    exact ⟨(cell_of_block_eq hb _).trans bB.c0, (cell_of_block_eq hb _).trans bB.c1, (frozen_of_block_eq hb _).trans bB.z0, (frozen_of_block_eq hb _).trans bB.z1⟩
   have N8 := N8.quad qr.four hT
   have N9 := N9.quad qr.four hT
   have h2 := h2.quad qr.four hT
   have hSz : Below WF.heap.size WF ((((r8.setCell ⟨bqr, 0, none⟩ (.bool s8)).setCell ⟨bqr, 1, none⟩ (.slice a8 n8 c8)).setCell ⟨bqr, 2, none⟩ (.bool s9)).setCell ⟨bqr, 3, none⟩ (.slice a9 n9 c9)) := below_set4 hE gqr _ _ _ _
   have hS := hSz.mono lS
   have HWz := hide hWz
   have K := hide (And.intro hQ (And.intro qC (And.intro bB' (And.intro N8 (And.intro N9 (And.intro h2 hSz))))))
   clear hWz hT hQ bB' N8 N9 h2
   obtain ⟨⟨x90, x91, x92, x93⟩, z90, z91, z92, z93⟩ := id qr
   refine wpOp_run (i := 8) rfl ?_
   go_simp
   refine wpAnyH_done (by kernel_rfl) ?_ _
   rw [HWz.out]
   obtain ⟨hQ, qC, bB, N8, N9, h2, hSz⟩ := K.out
   rw [HWz.out] at hSz
   clear K HWz hE x90 x91 x92 x93 z90 z91 z92 z93 qr x10 x11 x20 x21 x30 x31 lA lB lG lS hS hHeld
   have hB := hB.trans (hSz.mono hB.size)
   clear hSz
   go_wp2_with fail
   have hB := hB.drew
   have N8 := N8.below (Below.drew (Below.refl Wz.heap.size Wz))
   have N9 := N9.below (Below.drew (Below.refl Wz.heap.size Wz))
   have h2 := h2.below (Below.drew (Below.refl Wz.heap.size Wz))
   have hQ := hQ.below (Below.drew (Below.refl Wz.heap.size Wz))
   have bB : Box2 Wz.drew _ _ _ := bB.below (Below.drew (Below.refl _ _)) bB.lt
   have qC := qC.below (Below.drew (Below.refl Wz.heap.size Wz))
   refine wp_region_held_drew (S := fun w' => Below (Wz.drew.heap.size) Wz.drew w') (by kernel_rfl) (Below.refl _ _) (fun hHeld => ?_)
   obtain ⟨WG, hWE⟩ : ∃ W, Wz.drew = W := ⟨_, rfl⟩
   rw [hWE] at hB N8 N9 h2 hQ bB qC hHeld ⊢
   clear hWE
   have hE := Below.refl WG.heap.size WG
   have lB := bB.lt
   obtain ⟨x20, x21, -, -⟩ := id bB
   refine tk 0 (.agg #[.bool s2, .slice a2 n2 c2]) 37 rfl rfl ?_ (Or.inl ⟨by rfl, fun w' hSw => by have q0 := (hSw.cell (p := ⟨w.heap.size + 1, 0, none⟩) lB).trans x20; have q1 := (hSw.cell (p := ⟨w.heap.size + 1, 1, none⟩) lB).trans x21; go_simp⟩)
   simp only [Act.put, pA, pB, pC]
   refine wpAnyH_one 1 (by kernel_rfl) ?_
   refine wpOp_call (i := 1) (f := 55) (args := #[.int .i64 0]) 38 rfl rfl (by rfl) (by go_simp) ?_
   refine (whole_r 0 (by decide) (by decide) WG).mono ?_
   rintro e r1 ⟨s7, a7, n7, c7, rfl, N7, k7, -, hk⟩
   have hE := hE.trans (hk.mono hE.size)
   have N8 := N8.below hk
   have N9 := N9.below hk
   have h2 := h2.below hk
   have hQ := hQ.below hk
   have qC := qC.below hk
   refine ⟨_, rfl, hE, ?_⟩
   simp only [Act.put, pA, pB, pC]
   refine wpAnyH_one 2 (by kernel_rfl) ?_
   have cc := rcmp_any s2 s7 a2 a7 n2 n7 c2 c7 d 0 k2 k7 r1 h2 N7
   rw [HC.out] at cc
   refine wpOp_call (i := 2) (f := 54) (args := #[.agg #[.bool s2, .slice a2 n2 c2], .agg #[.bool s7, .slice a7 n7 c7]]) 39 rfl rfl (by rfl) (by go_simp) ?_
   refine (cc).mono ?_
   rintro e r2 ⟨rfl, hk⟩
   clear cc
   have hE := hE.trans (hk.mono hE.size)
   have N8 := N8.below hk
   have N9 := N9.below hk
   have h2 := h2.below hk
   have hQ := hQ.below hk
   have qC := qC.below hk
   have N7 := N7.below hk
   refine ⟨_, rfl, hE, ?_⟩
   simp only [Act.put, pA, pB, pC]
   refine tk 3 (.bool false) 40 rfl rfl ?_
   simp only [Act.put, pA, pB, pC]
   refine wpAnyH_done (by kernel_rfl) ?_ _
   clear x20 x21 lB
   have hB := hB.trans (hE.mono hB.size)
   clear hE hHeld
   have P1 := N8
   have P2 := N9
   obtain ⟨Wz, hWz⟩ : ∃ W, (((r2.setCell ⟨w.heap.size + 1 + 1, 0, none⟩ (.bool s8)).setCell ⟨w.heap.size + 1 + 1, 1, none⟩ (.slice a8 n8 c8)).setCell ⟨w.heap.size + 1 + 1, 2, none⟩ (.bool s9)).setCell ⟨w.heap.size + 1 + 1, 3, none⟩ (.slice a9 n9 c9) = W := ⟨_, rfl⟩
   obtain ⟨hQ, hT⟩ := qC.set _ _ _ _ hWz
   have hBz : Below w.heap.size w Wz := by rw [← hWz]; exact below_set4 hB (by omega) _ _ _ _
   have P1 := P1.quad qC.four hT
   have P2 := P2.quad qC.four hT
   have K := hide (And.intro hQ (And.intro P1 (And.intro P2 hBz)))
   have HWz := hide hWz
   clear hQ hBz hWz hT P1 P2
   obtain ⟨⟨x90, x91, x92, x93⟩, z90, z91, z92, z93⟩ := id qC
   obtain ⟨⟨x70, x71, x72, x73⟩, -, -, -, -⟩ := id hQ
   go_wp2
   obtain ⟨⟨⟨q0, q1, q2, q3⟩, -, -, -, -⟩, P1, P2, hBB⟩ := K.out
   rw [HWz.out]
   exact bodyPost_ret (v := .tuple #[.agg #[.bool s8, .slice a8 n8 c8, .bool s9, .slice a9 n9 c9], .bool true]) (by simp [results, Tryz.results25, go_sem, q0, q1, q2, q3]) rfl ⟨_, _, _, _, _, _, _, _, rfl, by rw [HR.out.1] at P1; exact P1, by rw [HR.out.2] at P2; exact P2, k8, k9, hBB⟩
end Go.Proofs.YtikepnocefdmnaaGreatDoor
