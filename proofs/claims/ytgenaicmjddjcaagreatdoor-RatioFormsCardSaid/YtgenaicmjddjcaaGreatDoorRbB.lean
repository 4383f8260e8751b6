/- ratio's reference: opposite, over, Of of any two Nums, with 'length at most capacity'. -/
import Derived.Test.YtgenaicmjddjcaaGreatDoorRbA
import Derived.Test.YtgenaicmjddjcaaGreatDoorRbD
import Derived.Test.YtgenaicmjddjcaaGreatDoorDagS
namespace Go.Proofs.YtgenaicmjddjcaaGreatDoor
open Go.RowKit Go.Shelf

theorem rof_boxes (w : World) (u0 u1 v0 v1 : Value) (tN tR : TypeId) {W1 : World} (hW : (((w.alloc (Obj.cells #[u0, u1] tN)).alloc (Obj.cells #[v0, v1] tN)).alloc (Obj.cells #[.bool false, .slice none 0 0, .bool false, .slice none 0 0] tR)) = W1) :
 Box2 W1 w.heap.size u0 u1 ∧ Box2 W1 (w.heap.size + 1) v0 v1 ∧ Quad W1 (w.heap.size + 1 + 1) (.bool false) (.slice none 0 0) (.bool false) (.slice none 0 0) ∧ Below w.heap.size w W1 := by
 subst hW
 refine ⟨((Box2.new w _ _ _).alloc _).alloc _, ?_, ?_, (((Below.refl _ w).alloc (Nat.le_refl _) _).alloc (by simp) _).alloc (by simp; omega) _⟩
 · have := (Box2.new (w.alloc (Obj.cells #[u0, u1] tN)) v0 v1 tN).alloc (Obj.cells #[.bool false, .slice none 0 0, .bool false, .slice none 0 0] tR)
   rw [World.size_alloc] at this; exact this
 · have := Quad.new ((w.alloc (Obj.cells #[u0, u1] tN)).alloc (Obj.cells #[v0, v1] tN)) (.bool false) (.slice none 0 0) (.bool false) (.slice none 0 0) tR
   rw [World.size_alloc, World.size_alloc] at this; exact this
def RatPC (w : World) (o : Option Rat) (e : Ending) (w' : World) : Prop :=
 ∃ (s1 : Bool) (a1 : Option Addr) (n1 c1 : Nat) (s2 : Bool) (a2 : Option Addr) (n2 c2 : Nat), e = .returned (.tuple #[.agg #[.bool s1, .slice a1 n1 c1, .bool s2, .slice a2 n2 c2], .bool o.isSome]) ∧
  IsN w' s1 a1 n1 (numO o) ∧ IsN w' s2 a2 n2 (denO o) ∧ n1 ≤ 64 ∧ n2 ≤ 64 ∧ Below w.heap.size w w' ∧ n1 ≤ c1 ∧ n2 ≤ c2
def RatVC (w : World) (o : Option Rat) (e : Ending) (w' : World) : Prop :=
 ∃ (s1 : Bool) (a1 : Option Addr) (n1 c1 : Nat) (s2 : Bool) (a2 : Option Addr) (n2 c2 : Nat), e = .returned (.agg #[.bool s1, .slice a1 n1 c1, .bool s2, .slice a2 n2 c2]) ∧
  IsN w' s1 a1 n1 (numO o) ∧ IsN w' s2 a2 n2 (denO o) ∧ n1 ≤ 64 ∧ n2 ≤ 64 ∧ Below w.heap.size w w' ∧ n1 ≤ c1 ∧ n2 ≤ c2
theorem RatPC.post {w w' : World} {o : Option Rat} {e : Ending} (h : RatPC w o e w') : RatPost w o e w' := by
 obtain ⟨s1, a1, n1, c1, s2, a2, n2, c2, h1, h2, h3, h4, h5, h6, -, -⟩ := h
 exact ⟨s1, a1, n1, c1, s2, a2, n2, c2, h1, h2, h3, h4, h5, h6⟩
theorem RatVC.val {w w' : World} {o : Option Rat} {e : Ending} (h : RatVC w o e w') : RatVal w o e w' := by
 obtain ⟨s1, a1, n1, c1, s2, a2, n2, c2, h1, h2, h3, h4, h5, h6, -, -⟩ := h
 exact ⟨s1, a1, n1, c1, s2, a2, n2, c2, h1, h2, h3, h4, h5, h6⟩
theorem Quad.set0 {w : World} {b : Nat} {v0 v1 v2 v3 : Value} (u0 u1 : Value) (h : Quad w b v0 v1 v2 v3) {W : World}
 (hW : (w.setCell ⟨b, 0, none⟩ u0).setCell ⟨b, 1, none⟩ u1 = W) : Quad W b u0 u1 v2 v3 ∧ Touch b 0 4 w W := by
 subst hW
 have ne : ∀ i j : Nat, i ≠ j → (⟨b, i, none⟩ : Addr) ≠ ⟨b, j, none⟩ := fun i j hij e => hij (by have := congrArg Addr.off e; simpa using this)
 have fz : ∀ k, ((w.setCell ⟨b, 0, none⟩ u0).setCell ⟨b, 1, none⟩ u1).frozen? ⟨b, k, none⟩ = w.frozen? ⟨b, k, none⟩ := fun k => by
  rw [World.frozen?_setCell, World.frozen?_setCell]
 refine ⟨⟨⟨?_, ?_, ?_, ?_⟩, (fz 0).trans h.z0, (fz 1).trans h.z1, (fz 2).trans h.z2, (fz 3).trans h.z3⟩, ?_⟩
 · rw [cell_setCell_ne _ _ _ _ (ne 0 1 (by decide)) rfl rfl]
   exact World.cell?_setCell_same' _ _ _ (by rw [h.four.c0]; rfl)
 · exact World.cell?_setCell_same' _ _ _ (by rw [cell_setCell_ne _ _ _ _ (ne 1 0 (by decide)) rfl rfl, h.four.c1]; rfl)
 · rw [cell_setCell_ne _ _ _ _ (ne 2 1 (by decide)) rfl rfl, cell_setCell_ne _ _ _ _ (ne 2 0 (by decide)) rfl rfl]; exact h.four.c2
 · rw [cell_setCell_ne _ _ _ _ (ne 3 1 (by decide)) rfl rfl, cell_setCell_ne _ _ _ _ (ne 3 0 (by decide)) rfl rfl]; exact h.four.c3
 · exact (Touch.setCell w u0 (Nat.le_refl _) (by omega)).trans (Touch.setCell _ u1 (by omega) (by omega))
theorem Quad.set2 {w : World} {b : Nat} {v0 v1 v2 v3 : Value} (u2 u3 : Value) (h : Quad w b v0 v1 v2 v3) {W : World}
 (hW : (w.setCell ⟨b, 2, none⟩ u2).setCell ⟨b, 3, none⟩ u3 = W) : Quad W b v0 v1 u2 u3 ∧ Touch b 0 4 w W := by
 subst hW
 have ne : ∀ i j : Nat, i ≠ j → (⟨b, i, none⟩ : Addr) ≠ ⟨b, j, none⟩ := fun i j hij e => hij (by have := congrArg Addr.off e; simpa using this)
 have fz : ∀ k, ((w.setCell ⟨b, 2, none⟩ u2).setCell ⟨b, 3, none⟩ u3).frozen? ⟨b, k, none⟩ = w.frozen? ⟨b, k, none⟩ := fun k => by
  rw [World.frozen?_setCell, World.frozen?_setCell]
 refine ⟨⟨⟨?_, ?_, ?_, ?_⟩, (fz 0).trans h.z0, (fz 1).trans h.z1, (fz 2).trans h.z2, (fz 3).trans h.z3⟩, ?_⟩
 · rw [cell_setCell_ne _ _ _ _ (ne 0 3 (by decide)) rfl rfl, cell_setCell_ne _ _ _ _ (ne 0 2 (by decide)) rfl rfl]; exact h.four.c0
 · rw [cell_setCell_ne _ _ _ _ (ne 1 3 (by decide)) rfl rfl, cell_setCell_ne _ _ _ _ (ne 1 2 (by decide)) rfl rfl]; exact h.four.c1
 · rw [cell_setCell_ne _ _ _ _ (ne 2 3 (by decide)) rfl rfl]
   exact World.cell?_setCell_same' _ _ _ (by rw [h.four.c2]; rfl)
 · exact World.cell?_setCell_same' _ _ _ (by rw [cell_setCell_ne _ _ _ _ (ne 3 2 (by decide)) rfl rfl, h.four.c3]; rfl)
 · exact (Touch.setCell w u2 (by omega) (by omega)).trans (Touch.setCell _ u3 (by omega) (by omega))
set_option maxRecDepth 100000 in
set_option maxHeartbeats 4000000 in
theorem ropp_c (s : Bool) (a : Option Addr) (n c : Nat) (z : Int) (hn : n ≤ 64) (w : World) (h : IsN w s a n z) :
 Calls Tryz.prog 87 #[.agg #[.bool s, .slice a n c]] w (OneC w (-z)) := by
 have hz := hide (show dlen (0 - z).natAbs ≤ 64 by rw [Int.zero_sub, Int.natAbs_neg, ← h.dig.len]; exact hn)
 go_enter Tryz.func87, Tryz.ntmps87
 go_wp2_with fail
 obtain ⟨W1, hW1⟩ : ∃ W1, (w.alloc (Obj.cells #[.bool s, .slice a n c] 25)).alloc (Obj.cells #[.bool false, .slice none 0 0] 25) = W1 := ⟨_, rfl⟩
 have bA : Box2 W1 w.heap.size (.bool s) (.slice a n c) := by rw [← hW1]; exact (Box2.new w _ _ _).alloc _
 have bC : Box2 W1 (w.heap.size + 1) (.bool false) (.slice none 0 0) := by
  rw [← hW1]; have := Box2.new (w.alloc (Obj.cells #[.bool s, .slice a n c] 25)) (.bool false) (.slice none 0 0) 25
  rw [World.size_alloc] at this; exact this
 have hB : Below w.heap.size w W1 := by rw [← hW1]; exact ((Below.refl _ w).alloc (Nat.le_refl _) _).alloc (by simp) _
 have h5 := h.below hB
 try rw [hW1]
 clear hW1
 have hB := hB.drew
 have h5 := h5.below (Below.drew (Below.refl W1.heap.size W1))
 have bA : Box2 W1.drew _ _ _ := bA.below (Below.drew (Below.refl _ _)) bA.lt
 have bC : Box2 W1.drew _ _ _ := bC.below (Below.drew (Below.refl _ _)) bC.lt
 refine wp_region_held_drew (S := fun w' => Below (W1.drew.heap.size) W1.drew w') (by kernel_rfl) (Below.refl _ _) (fun hHeld => ?_)
 obtain ⟨WE, hWE⟩ : ∃ W, W1.drew = W := ⟨_, rfl⟩
 rw [hWE] at hB h5 bA bC hHeld ⊢
 clear hWE
 have hE := Below.refl WE.heap.size WE
 have lA := bA.lt
 obtain ⟨x0, x1, -, -⟩ := id bA
 clear hHeld
 refine dagT 9 rfl (fun X => ⟨#[.agg #[.bool s, .slice a n c], .pointer (some ⟨w.heap.size, 0, none⟩), .pointer (some ⟨w.heap.size + 1, 0, none⟩), X 6, X 8, X 3, X 0, X 1, X 2, X 4, X 5, undef], []⟩) [(0, 0, 0), (0, 0, 0), (0, 0, 0), (0, 0, 0), (0, 0, 0), (0, 0, 0), (1, 7, 4), (3, 6, 4), (0, 0, 0)] [.num 0 true, .val (.agg #[.bool s, .slice a n c]), .one (0 - z) true true, .one (0 - z) true true, .num (0 - z) true, .val (.bool true), .none, .none, .val (.bool true)] [[], [], [0, 1], [2], [3], [3], [], [4, 6], [5]] [0, 1, 2, 3, 4, 5, 8] [6] [7] 25 37 WE (by kernel_rfl) (by kernel_rfl) (by kernel_rfl) (by kernel_rfl) (by kernel_rfl) ?op ?al ?st ?fin (fun _ => undef) _ _ (by kernel_rfl) (of_decide_eq_true (by kernel_rfl)) (of_decide_eq_true (by kernel_rfl))
 case op =>
  repeat' first | exact Each.nil | refine Each.cons ?_ ?_
  all_goals intro X w7 H hb hD h
  · refine wpOp_call (i := 0) (f := 82) (args := #[.int .i64 0]) 6 rfl rfl (by rfl) (by go_simp) ?_
    refine (whole_r 0 (by decide) (by decide) w7).mono ?_
    rintro e w8 ⟨s6, a6, n6, c6, rfl, N6, k6, l6, hk⟩
    exact ⟨_, rfl, h _ w8 ⟨s6, a6, n6, c6, rfl, N6, k6, fun _ => l6⟩ hk⟩
  · have z0 := (hb.cell (p := ⟨w.heap.size, 0, none⟩) lA).trans x0
    have z1 := (hb.cell (p := ⟨w.heap.size, 1, none⟩) lA).trans x1
    refine tv rfl (by rfl) ?_ (by exact h _ w7 rfl (Below.refl _ _))
    go_simp <;> rfl
  · obtain ⟨s0_, a0_, n0_, c0_, e0_, N0_, k0_, q0_⟩ := hD 0 (by decide) rfl
    have e1_ : X 1 = _ := hD 1 (by decide) rfl
    have h5 := h5.below hb
    refine wpOp_call (i := 2) (f := 124) (args := #[.agg #[.bool s0_, .slice a0_ n0_ c0_], .agg #[.bool s, .slice a n c]]) 8 rfl rfl (by simp only [e0_, e1_]; rfl) (by simp only [e0_, e1_]; go_simp) ?_
    refine (rsub_c s0_ s a0_ a n0_ n c0_ c 0 z k0_ hn w7 N0_ h5 hz.out).mono ?_
    rintro e w8 ⟨s6, a6, n6, c6, rfl, N6, -, hk, l6⟩
    have k6 : n6 ≤ 64 := by rw [N6.dig.len]; exact hz.out
    exact ⟨_, rfl, h _ w8 ⟨s6, a6, n6, c6, rfl, N6, k6, fun _ => l6⟩ hk⟩
  · obtain ⟨s2_, a2_, n2_, c2_, e2_, N2_, k2_, q2_⟩ := hD 2 (by decide) rfl
    refine tv rfl (by simp only [e2_]; rfl) ?_ (by exact h _ w7 ⟨s2_, a2_, n2_, c2_, rfl, N2_, k2_, q2_⟩ (Below.refl _ _))
    simp only [e2_]; go_simp <;> rfl
  · obtain ⟨s3_, a3_, n3_, c3_, e3_, N3_, k3_, q3_⟩ := hD 3 (by decide) rfl
    refine tv rfl (by simp only [e3_]; rfl) ?_ (by exact h _ w7 ⟨s3_, a3_, n3_, c3_, rfl, N3_, k3_, q3_⟩ (Below.refl _ _))
    simp only [e3_]; go_simp <;> rfl
  · obtain ⟨s3_, a3_, n3_, c3_, e3_, N3_, k3_, q3_⟩ := hD 3 (by decide) rfl
    refine tv rfl (by simp only [e3_]; rfl) ?_ (by exact h _ w7 rfl (Below.refl _ _))
    simp only [e3_]; go_simp <;> rfl
  · have e5_ : X 5 = _ := hD 5 (by decide) rfl
    refine tv rfl (by simp only [e5_]; rfl) ?_ (by exact h _ w7 rfl (Below.refl _ _))
    simp only [e5_]; go_simp <;> rfl
 case al =>
  repeat' first | exact Each.nil | refine Each.cons ?_ ?_
  all_goals exact fun X w7 H h => wpOp_run rfl (by go_simp; exact h)
 case st =>
  repeat' first | exact Each.nil | refine Each.cons ?_ ?_
  all_goals intro X w7 H b u0 hX hC hG h
  · replace hX : X 6 = .pointer (some ⟨b, 0, none⟩) := hX
    obtain ⟨s4_, a4_, n4_, c4_, e4_, N4_, k4_, q4_⟩ := hG
    obtain ⟨_, _, _, _, -, ⟨y0, y1, z0, z1⟩⟩ := hC
    have e : X 4 = _ := e4_
    refine wpOp_run rfl ?_
    simp only [hX, e] at h ⊢
    go_simp
    exact h _ ⟨_, _, _, _, e4_, rfl⟩
 case fin =>
  intro X1 w9 hI
  have hE := hI.below
  obtain ⟨s4_, a4_, n4_, c4_, e4_, N4_, k4_, q4_⟩ := hI.fact 4 (by decide) rfl rfl
  obtain ⟨B6, e6_, g6, Q6⟩ := hI.box 6 (by decide) rfl (by decide)
  replace Q6 : Cont 1 w9 B6 (X1 4) := Q6
  rw [e4_] at Q6
  replace Q6 := Q6.num
  have bC := bC.below hE bC.lt
  clear hI
  simp only [e4_, e6_]
  clear e4_ e6_
  clear x0 x1 lA bA h5
  have hB := hB.trans (hE.mono hB.size)
  have l4 := q4_ rfl
  have P1 := N4_
  obtain ⟨Wz, hWz⟩ : ∃ W, (w9.setCell ⟨w.heap.size + 1, 0, none⟩ (.bool s4_)).setCell ⟨w.heap.size + 1, 1, none⟩ (.slice a4_ n4_ c4_) = W := ⟨_, rfl⟩
  have hQ := bC.set (.bool s4_) (.slice a4_ n4_ c4_)
  have hBz := below_set2 hB (B := w.heap.size + 1) (by omega) (.bool s4_) (.slice a4_ n4_ c4_)
  have P1 := P1.put bC (.bool s4_) (.slice a4_ n4_ c4_)
  rw [hWz] at hQ hBz P1
  have K := hide (And.intro hQ (And.intro P1 hBz))
  have HWz := hide hWz
  clear hQ hBz hWz P1
  obtain ⟨x90, x91, z90, z91⟩ := id bC
  obtain ⟨x50, x51, -, -⟩ := id Q6
  go_wp2
  obtain ⟨⟨q0, q1, -, -⟩, P1, hBB⟩ := K.out
  rw [HWz.out]
  exact bodyPost_ret (v := .agg #[.bool s4_, .slice a4_ n4_ c4_]) (by simp [results, Tryz.results87, go_sem, q0, q1]) rfl ⟨_, _, _, _, rfl, by rw [show -z = 0 - z by omega]; exact P1, k4_, l4, hBB⟩
set_option maxRecDepth 100000 in
set_option maxHeartbeats 4000000 in
theorem over_c (sa sb : Bool) (aa ab : Option Addr) (na nb ca cb : Nat) (za zb : Int) (hna : na ≤ 64) (hnb : nb ≤ 64) (hca : na ≤ ca) (hz : Hid (zb ≠ 0)) (w : World) (ha : IsN w sa aa na za) (hb : IsN w sb ab nb zb) :
 Calls Tryz.prog 85 #[.agg #[.bool sa, .slice aa na ca], .agg #[.bool sb, .slice ab nb cb]] w (OneC w (za / zb)) := by
 go_enter Tryz.func85, Tryz.ntmps85
 go_wp2_with fail
 obtain ⟨W1, hW1⟩ : ∃ W1, ((w.alloc (Obj.cells #[.bool sa, .slice aa na ca] 25)).alloc (Obj.cells #[.bool sb, .slice ab nb cb] 25)).alloc (Obj.cells #[.bool false, .slice none 0 0] 25) = W1 := ⟨_, rfl⟩
 obtain ⟨bA, bB, qC, hB⟩ := three_boxes w _ _ _ _ _ hW1
 have ha := ha.below hB
 have hb := hb.below hB
 try rw [hW1]
 clear hW1
 obtain ⟨x10, x11, -, -⟩ := id bA
 obtain ⟨x20, x21, -, -⟩ := id bB
 go_wp2_with fail
 clear x10 x11 x20 x21
 have cc := rdivc_num sa sb aa ab na nb ca cb za zb hna hnb hca W1 ha hb (len_pos hb hz.out)
 refine cc.mono ?_
 clear cc
 rintro e u1 ⟨q5, q6, s5, a5, n5, c5, s6, a6, n6, c6, rfl, e8, e9, e10, N5, N6, k5, k6, hk, l5, -⟩
 obtain ⟨rfl, rfl⟩ := divs_unique e8 e9 e10 hz.out
 clear e8 e9 e10
 have hB := hB.trans (hk.mono hB.size)
 have ha := ha.below hk
 have hb := hb.below hk
 have bA := bA.below hk bA.lt
 have bB := bB.below hk bB.lt
 have qC := qC.below hk qC.lt
 clear hk
 obtain ⟨Z5, hZ5⟩ : ∃ Z, (u1.alloc (Obj.cells #[.bool false, .slice none 0 0] 25)).alloc (Obj.cells #[.bool false, .slice none 0 0] 25) = Z := ⟨_, rfl⟩
 obtain ⟨W5, hW5⟩ : ∃ W, (((Z5.setCell ⟨u1.heap.size, 0, none⟩ (.bool s5)).setCell ⟨u1.heap.size, 1, none⟩ (.slice a5 n5 c5)).setCell ⟨u1.heap.size + 1, 0, none⟩ (.bool s6)).setCell ⟨u1.heap.size + 1, 1, none⟩ (.slice a6 n6 c6) = W := ⟨_, rfl⟩
 obtain ⟨H5, H6, hk, bx5, bx6, -⟩ := two_nums (c1 := c5) (c2 := c6) hZ5 hW5 N5 N6
 clear N5 N6
 obtain ⟨B5, hB5⟩ : ∃ B, u1.heap.size = B := ⟨_, rfl⟩
 have hB := hB.trans (hk.mono hB.size)
 have ha := ha.below hk
 have hb := hb.below hk
 have bA := bA.below hk bA.lt
 have bB := bB.below hk bB.lt
 have qC := qC.below hk qC.lt
 clear hk
 rw [hB5] at hW5 H5 H6 bx5 bx6
 have P1 := H5.num
 obtain ⟨Wz, hWz⟩ : ∃ W, (W5.setCell ⟨w.heap.size + 1 + 1, 0, none⟩ (.bool s5)).setCell ⟨w.heap.size + 1 + 1, 1, none⟩ (.slice a5 n5 c5) = W := ⟨_, rfl⟩
 have hQ := qC.set (.bool s5) (.slice a5 n5 c5)
 have hBz := below_set2 hB (B := w.heap.size + 1 + 1) (by omega) (.bool s5) (.slice a5 n5 c5)
 have P1 := P1.put qC (.bool s5) (.slice a5 n5 c5)
 rw [hWz] at hQ hBz P1
 have K := hide (And.intro hQ (And.intro P1 hBz))
 have HWz := hide hWz
 clear hQ hBz hWz P1
 obtain ⟨x90, x91, z90, z91⟩ := id qC
 obtain ⟨y50, y51, yz50, yz51⟩ := id bx5
 obtain ⟨y60, y61, yz60, yz61⟩ := id bx6
 obtain ⟨x50, x51, -, -⟩ := id H5.box
 go_wp2
 try rw [hW5]
 try rw [hB5]
 obtain ⟨⟨q0, q1, -, -⟩, P1, hBB⟩ := K.out
 rw [HWz.out]
 exact bodyPost_ret (v := .agg #[.bool s5, .slice a5 n5 c5]) (by simp [results, Tryz.results85, go_sem, q0, q1]) rfl ⟨_, _, _, _, rfl, P1, k5, l5, hBB⟩
set_option maxRecDepth 100000 in
set_option maxHeartbeats 16000000 in
theorem rofC_any (s1 s2 : Bool) (a1 a2 : Option Addr) (n1 n2 c1 c2 : Nat) (n d : Int) (k1 : n1 ≤ 64) (k2 : n2 ≤ 64) (l1 : n1 ≤ c1) (l2 : n2 ≤ c2) (hd0 : d ≠ 0) (w : World) (h1 : IsN w s1 a1 n1 n) (h2 : IsN w s2 a2 n2 d) :
 Calls Tryz.prog 31 #[.agg #[.bool s1, .slice a1 n1 c1], .agg #[.bool s2, .slice a2 n2 c2]] w (RatPC w (some (Rat.divInt n d))) := by
 have HD := hide hd0
 have HZ : Hid (((Int.gcd n d : Nat) : Int) ≠ 0) := hide fun e => by
  have h : Int.gcd n d ≠ 0 := fun h => hd0 (Int.gcd_eq_zero_iff.1 h).2
  omega
 have HR : Hid ((0 < d → n / ((Int.gcd n d : Nat) : Int) = (Rat.divInt n d).num ∧ d / ((Int.gcd n d : Nat) : Int) = ((Rat.divInt n d).den : Int)) ∧ (d < 0 → -(n / ((Int.gcd n d : Nat) : Int)) = (Rat.divInt n d).num ∧ -(d / ((Int.gcd n d : Nat) : Int)) = ((Rat.divInt n d).den : Int))) := hide (by
  obtain ⟨e1, e2⟩ := rat_divInt n d hd0
  refine ⟨fun h => ?_, fun h => ?_⟩
  · rw [ofG_pos h] at e1 e2
    exact ⟨e1.symm, e2.symm⟩
  · rw [show ofG n d = -((Int.gcd n d : Nat) : Int) from if_pos h] at e1 e2
    rw [Int.ediv_neg] at e1 e2
    exact ⟨e1.symm, e2.symm⟩)
 obtain ⟨C, hC⟩ : ∃ C, cmpZ d 0 = C := ⟨_, rfl⟩
 have hC0 : (C == 0) = false := by
  rw [← hC]; unfold cmpZ
  by_cases h : d < 0
  · rw [if_pos h]; rfl
  · rw [if_neg h, if_neg (by omega)]; rfl
 have HC := hide hC
 obtain ⟨g, hg⟩ : ∃ g, ((Int.gcd n d : Nat) : Int) = g := ⟨_, rfl⟩
 rw [hg] at HZ HR
 have HG := hide hg
 clear hd0 hg hC
 go_enter Tryz.func31, Tryz.ntmps31
 go_wp2_with fail
 obtain ⟨W1, hW1⟩ : ∃ W1, ((w.alloc (Obj.cells #[.bool s1, .slice a1 n1 c1] 25)).alloc (Obj.cells #[.bool s2, .slice a2 n2 c2] 25)).alloc (Obj.cells #[.bool false, .slice none 0 0, .bool false, .slice none 0 0] 37) = W1 := ⟨_, rfl⟩
 obtain ⟨bA, bB, qC, hB⟩ := rof_boxes w _ _ _ _ _ _ hW1
 have h1 := h1.below hB
 have h2 := h2.below hB
 try rw [hW1]
 clear hW1
 have hB := hB.drew
 have h1 := h1.below (Below.drew (Below.refl W1.heap.size W1))
 have h2 := h2.below (Below.drew (Below.refl W1.heap.size W1))
 have bA : Box2 W1.drew _ _ _ := bA.below (Below.drew (Below.refl _ _)) bA.lt
 have bB : Box2 W1.drew _ _ _ := bB.below (Below.drew (Below.refl _ _)) bB.lt
 have qC := qC.below (Below.drew (Below.refl W1.heap.size W1))
 refine wp_region_held_drew (S := fun w' => Below (W1.drew.heap.size) W1.drew w') (by kernel_rfl) (Below.refl _ _) (fun hHeld => ?_)
 obtain ⟨WE, hWE⟩ : ∃ W, W1.drew = W := ⟨_, rfl⟩
 rw [hWE] at hB h1 h2 bA bB qC hHeld ⊢
 clear hWE
 have hE := Below.refl WE.heap.size WE
 have lA := bA.lt
 have lB := bB.lt
 obtain ⟨x10, x11, -, -⟩ := id bA
 obtain ⟨x20, x21, -, -⟩ := id bB
 clear hHeld
 refine dagT 14 rfl (fun X => ⟨#[.agg #[.bool s1, .slice a1 n1 c1], .agg #[.bool s2, .slice a2 n2 c2], .pointer (some ⟨w.heap.size, 0, none⟩), .pointer (some ⟨w.heap.size + 1, 0, none⟩), .pointer (some ⟨w.heap.size + 1 + 1, 0, none⟩), .bool false, undef, undef, undef, X 0, X 1, X 2, X 3, X 4, X 5, X 6, X 7, X 8, X 9, X 10, X 11, X 12, X 13, undef, undef, undef, undef, undef, undef, undef, undef, undef, undef, undef, undef, undef, undef, undef, undef, undef, undef, undef, undef, undef, undef, undef, undef, undef, undef, undef], []⟩) [(0, 0, 0), (0, 0, 0), (0, 0, 0), (0, 0, 0), (0, 0, 0), (0, 0, 0), (0, 0, 0), (0, 0, 0), (0, 0, 0), (0, 0, 0), (0, 0, 0), (0, 0, 0), (0, 0, 0), (0, 0, 0)] [.val (.agg #[.bool s1, .slice a1 n1 c1]), .val (.bool true), .val (.bool false), .val (.bool false), .val (.agg #[.bool s2, .slice a2 n2 c2]), .val (.bool true), .val (.bool false), .val (.bool false), .val (.bool false), .val (.agg #[.bool s2, .slice a2 n2 c2]), .num 0 true, .val (.int .i64 C), .val (.bool false), .val (.bool false)] [[], [0], [1], [2], [3], [3, 4], [3, 5], [3, 6], [7], [8], [8], [8, 9, 10], [8, 11], [8, 12]] [0, 1, 2, 3, 4, 5, 6, 7, 8, 9, 10, 11, 12, 13] [] [] 25 37 WE (by kernel_rfl) (by kernel_rfl) (by kernel_rfl) (by kernel_rfl) (by kernel_rfl) ?op ?al ?st ?fin (fun _ => undef) _ _ (by kernel_rfl) (of_decide_eq_true (by kernel_rfl)) (of_decide_eq_true (by kernel_rfl))
 case op =>
  repeat' first | exact Each.nil | refine Each.cons ?_ ?_
  all_goals intro X w7 H hb hD h
  · have z0 := (hb.cell (p := ⟨w.heap.size, 0, none⟩) lA).trans x10
    have z1 := (hb.cell (p := ⟨w.heap.size, 1, none⟩) lA).trans x11
    refine tv rfl (by rfl) ?_ (by exact h _ w7 rfl (Below.refl _ _))
    go_simp <;> rfl
  · have e0_ : X 0 = _ := hD 0 (by decide) rfl
    have h1 := h1.below hb
    refine wpOp_call (i := 1) (f := 61) (args := #[.agg #[.bool s1, .slice a1 n1 c1]]) 10 rfl rfl (by simp only [e0_]; rfl) (by simp only [e0_]; go_simp) ?_
    refine (rright_yes s1 a1 n1 c1 n k1 w7 h1).mono ?_
    rintro e w8 ⟨rfl, hk⟩
    exact ⟨_, rfl, h _ w8 rfl hk⟩
  · have e1_ : X 1 = _ := hD 1 (by decide) rfl
    refine tv rfl (by simp only [e1_]; rfl) ?_ (by exact h _ w7 rfl (Below.refl _ _))
    simp only [e1_]; go_simp <;> rfl
  · have e2_ : X 2 = _ := hD 2 (by decide) rfl
    refine tv rfl (by simp only [e2_]; rfl) ?_ (by exact h _ w7 rfl (Below.refl _ _))
    simp only [e2_]; go_simp <;> rfl
  · have e3_ : X 3 = _ := hD 3 (by decide) rfl
    have z0 := (hb.cell (p := ⟨w.heap.size + 1, 0, none⟩) lB).trans x20
    have z1 := (hb.cell (p := ⟨w.heap.size + 1, 1, none⟩) lB).trans x21
    refine tv rfl (by simp only [e3_]; rfl) ?_ (by exact h _ w7 rfl (Below.refl _ _))
    simp only [e3_]; go_simp <;> rfl
  · have e3_ : X 3 = _ := hD 3 (by decide) rfl
    have e4_ : X 4 = _ := hD 4 (by decide) rfl
    have h2 := h2.below hb
    refine wpOp_call (i := 5) (f := 61) (args := #[.agg #[.bool s2, .slice a2 n2 c2]]) 14 rfl rfl (by simp only [e3_, e4_]; rfl) (by simp only [e3_, e4_]; go_simp) ?_
    refine (rright_yes s2 a2 n2 c2 d k2 w7 h2).mono ?_
    rintro e w8 ⟨rfl, hk⟩
    exact ⟨_, rfl, h _ w8 rfl hk⟩
  · have e3_ : X 3 = _ := hD 3 (by decide) rfl
    have e5_ : X 5 = _ := hD 5 (by decide) rfl
    refine tv rfl (by simp only [e3_, e5_]; rfl) ?_ (by exact h _ w7 rfl (Below.refl _ _))
    simp only [e3_, e5_]; go_simp <;> rfl
  · have e3_ : X 3 = _ := hD 3 (by decide) rfl
    have e6_ : X 6 = _ := hD 6 (by decide) rfl
    refine tv rfl (by simp only [e3_, e6_]; rfl) ?_ (by exact h _ w7 rfl (Below.refl _ _))
    simp only [e3_, e6_]; go_simp <;> rfl
  · have e7_ : X 7 = _ := hD 7 (by decide) rfl
    refine tv rfl (by simp only [e7_]; rfl) ?_ (by exact h _ w7 rfl (Below.refl _ _))
    simp only [e7_]; go_simp <;> rfl
  · have e8_ : X 8 = _ := hD 8 (by decide) rfl
    have z0 := (hb.cell (p := ⟨w.heap.size + 1, 0, none⟩) lB).trans x20
    have z1 := (hb.cell (p := ⟨w.heap.size + 1, 1, none⟩) lB).trans x21
    refine tv rfl (by simp only [e8_]; rfl) ?_ (by exact h _ w7 rfl (Below.refl _ _))
    simp only [e8_]; go_simp <;> rfl
  · have e8_ : X 8 = _ := hD 8 (by decide) rfl
    refine wpOp_call (i := 10) (f := 82) (args := #[.int .i64 0]) 19 rfl rfl (by simp only [e8_]; rfl) (by simp only [e8_]; go_simp) ?_
    refine (whole_r 0 (by decide) (by decide) w7).mono ?_
    rintro e w8 ⟨s6, a6, n6, c6, rfl, N6, k6, l6, hk⟩
    exact ⟨_, rfl, h _ w8 ⟨s6, a6, n6, c6, rfl, N6, k6, fun _ => l6⟩ hk⟩
  · have e8_ : X 8 = _ := hD 8 (by decide) rfl
    have e9_ : X 9 = _ := hD 9 (by decide) rfl
    obtain ⟨s10_, a10_, n10_, c10_, e10_, N10_, k10_, q10_⟩ := hD 10 (by decide) rfl
    have h2 := h2.below hb
    have cc := rcmp_any s2 s10_ a2 a10_ n2 n10_ c2 c10_ d 0 k2 k10_ w7 h2 N10_
    rw [HC.out] at cc
    refine wpOp_call (i := 11) (f := 81) (args := #[.agg #[.bool s2, .slice a2 n2 c2], .agg #[.bool s10_, .slice a10_ n10_ c10_]]) 20 rfl rfl (by simp only [e8_, e9_, e10_]; rfl) (by simp only [e8_, e9_, e10_]; go_simp) ?_
    refine (cc).mono ?_
    rintro e w8 ⟨rfl, hk⟩
    exact ⟨_, rfl, h _ w8 rfl hk⟩
  · have e8_ : X 8 = _ := hD 8 (by decide) rfl
    have e11_ : X 11 = _ := hD 11 (by decide) rfl
    refine tv rfl (by simp only [e8_, e11_]; rfl) ?_ (by exact h _ w7 rfl (Below.refl _ _))
    simp only [e8_, e11_]; go_simp <;> rfl
  · have e8_ : X 8 = _ := hD 8 (by decide) rfl
    have e12_ : X 12 = _ := hD 12 (by decide) rfl
    refine tv rfl (by simp only [e8_, e12_]; rfl) ?_ (by exact h _ w7 rfl (Below.refl _ _))
    simp only [e8_, e12_]; go_simp <;> rfl
 case al => exact Each.nil
 case st => exact Each.nil
 case fin =>
  intro X1 w9 hI
  have hE := hI.below
  have e13_ : X1 13 = _ := hI.fact 13 (by decide) rfl rfl
  have h1 := h1.below hE
  have h2 := h2.below hE
  have bA := bA.below hE bA.lt
  have bB := bB.below hE bB.lt
  have qC := qC.below hE
  clear hI
  simp only [e13_]
  clear e13_
  clear x10 x11 x20 x21 lA lB
  have hB := hB.trans (hE.mono hB.size)
  clear hE
  obtain ⟨x10, x11, -, -⟩ := id bA
  obtain ⟨x20, x21, -, -⟩ := id bB
  go_wp2_with fail
  clear x10 x11 x20 x21
  have cc := rgcd_num s1 s2 a1 a2 n1 n2 c1 c2 n d k1 k2 l1 l2 w9 h1 h2
  rw [HG.out] at cc
  refine cc.mono ?_
  clear cc
  rintro e u1 ⟨s6, a6, n6, c6, rfl, N6, -, hk⟩
  have k6 : n6 ≤ 64 := by rw [N6.dig.len, ← HG.out]; exact gcd_fit h1 h2 k1 k2
  have hB := hB.trans (hk.mono hB.size)
  have h1 := h1.below hk
  have h2 := h2.below hk
  have bA := bA.below hk bA.lt
  have bB := bB.below hk bB.lt
  have qC := qC.below hk
  clear hk
  obtain ⟨Z6, hZ6⟩ : ∃ Z, u1.alloc (Obj.cells #[.bool false, .slice none 0 0] 25) = Z := ⟨_, rfl⟩
  obtain ⟨W6, hW6⟩ : ∃ W, (Z6.setCell ⟨u1.heap.size, 0, none⟩ (.bool s6)).setCell ⟨u1.heap.size, 1, none⟩ (.slice a6 n6 c6) = W := ⟨_, rfl⟩
  obtain ⟨H6, hk, bx6⟩ := num_new (c := c6) hZ6 hW6 N6
  clear N6
  obtain ⟨B6, hB6⟩ : ∃ B, u1.heap.size = B := ⟨_, rfl⟩
  have lq6 := qC.lt
  rw [hB6] at lq6
  have hB := hB.trans (hk.mono hB.size)
  have h1 := h1.below hk
  have h2 := h2.below hk
  have bA := bA.below hk bA.lt
  have bB := bB.below hk bB.lt
  have qC := qC.below hk
  clear hk
  rw [hB6] at hW6 H6 bx6
  obtain ⟨y60, y61, yz60, yz61⟩ := id bx6
  go_wp2_with fail
  try rw [hW6]
  try rw [hB6]
  clear hW6 hB6
  clear y60 y61 yz60 yz61
  have hB := hB.drew
  have h1 := h1.below (Below.drew (Below.refl W6.heap.size W6))
  have h2 := h2.below (Below.drew (Below.refl W6.heap.size W6))
  have H6 := H6.below (Below.drew (Below.refl W6.heap.size W6))
  have bA : Box2 W6.drew _ _ _ := bA.below (Below.drew (Below.refl _ _)) bA.lt
  have bB : Box2 W6.drew _ _ _ := bB.below (Below.drew (Below.refl _ _)) bB.lt
  have qC := qC.below (Below.drew (Below.refl W6.heap.size W6))
  refine wp_region_held_drew (S := fun w' => Below (W6.drew.heap.size) W6.drew w') (by kernel_rfl) (Below.refl _ _) (fun hHeld => ?_)
  obtain ⟨WF, hWE⟩ : ∃ W, W6.drew = W := ⟨_, rfl⟩
  rw [hWE] at hB h1 h2 H6 bA bB qC hHeld ⊢
  clear hWE
  have hE := Below.refl WF.heap.size WF
  have lA := bA.lt
  have lB := bB.lt
  obtain ⟨x10, x11, -, -⟩ := id bA
  obtain ⟨x20, x21, -, -⟩ := id bB
  clear hHeld
  have lG := H6.box.lt
  have lC := qC.lt
  obtain ⟨x30, x31, -, -⟩ := id H6.box
  refine dagT 9 rfl (fun X => ⟨#[.agg #[.bool s1, .slice a1 n1 c1], .agg #[.bool s2, .slice a2 n2 c2], .pointer (some ⟨w.heap.size, 0, none⟩), .pointer (some ⟨w.heap.size + 1, 0, none⟩), .pointer (some ⟨w.heap.size + 1 + 1, 0, none⟩), .bool false, .pointer (some ⟨B6, 0, none⟩), .bool true, X 7, X1 0, X1 1, X1 2, X1 3, X1 4, X1 5, X1 6, X1 7, X1 8, X1 9, X1 10, X1 11, X1 12, .bool false, undef, .tuple #[.agg #[.bool s6, .slice a6 n6 c6], .bool true], .agg #[.bool s1, .slice a1 n1 c1], .agg #[.bool s2, .slice a2 n2 c2], .tuple #[.agg #[.bool s6, .slice a6 n6 c6], .bool true], .agg #[.bool s6, .slice a6 n6 c6], .bool true, X 0, X 1, X 2, X 3, X 4, X 5, X 6, undef, undef, undef, undef, undef, undef, undef, undef, undef, undef, undef, undef, undef], []⟩) [(0, 0, 0), (0, 0, 0), (0, 0, 0), (0, 0, 0), (0, 0, 0), (0, 0, 0), (0, 0, 0), (2, 8, 6), (3, 7, 6)] [.val (.agg #[.bool s1, .slice a1 n1 c1]), .val (.agg #[.bool s6, .slice a6 n6 c6]), .num (n / g) true, .val (.agg #[.bool s2, .slice a2 n2 c2]), .val (.agg #[.bool s6, .slice a6 n6 c6]), .num (d / g) true, .rat (n / g) (d / g) true, .none, .none] [[], [], [0, 1], [], [], [3, 4], [2, 5], [], [6, 7]] [0, 1, 2, 3, 4, 5, 6] [7] [8] 25 37 WF (by kernel_rfl) (by kernel_rfl) (by kernel_rfl) (by kernel_rfl) (by kernel_rfl) ?op ?al ?st ?fin (fun _ => undef) _ _ (by kernel_rfl) (of_decide_eq_true (by kernel_rfl)) (of_decide_eq_true (by kernel_rfl))
  case op =>
   repeat' first | exact Each.nil | refine Each.cons ?_ ?_
   all_goals intro X w7 H hb hD h
   · have z0 := (hb.cell (p := ⟨w.heap.size, 0, none⟩) lA).trans x10
     have z1 := (hb.cell (p := ⟨w.heap.size, 1, none⟩) lA).trans x11
     refine tv rfl (by rfl) ?_ (by exact h _ w7 rfl (Below.refl _ _))
     go_simp <;> rfl
   · have z0 := (hb.cell (p := ⟨B6, 0, none⟩) lG).trans x30
     have z1 := (hb.cell (p := ⟨B6, 1, none⟩) lG).trans x31
     refine tv rfl (by rfl) ?_ (by exact h _ w7 rfl (Below.refl _ _))
     go_simp <;> rfl
   · have e0_ : X 0 = _ := hD 0 (by decide) rfl
     have e1_ : X 1 = _ := hD 1 (by decide) rfl
     have h1 := h1.below hb
     have H6 := H6.below hb
     refine wpOp_call (i := 2) (f := 85) (args := #[.agg #[.bool s1, .slice a1 n1 c1], .agg #[.bool s6, .slice a6 n6 c6]]) 32 rfl rfl (by simp only [e0_, e1_]; rfl) (by simp only [e0_, e1_]; go_simp) ?_
     refine (over_c s1 s6 a1 a6 n1 n6 c1 c6 n g k1 k6 l1 HZ w7 h1 H6.num).mono ?_
     rintro e w8 ⟨s8, a8, n8, c8, rfl, N8, k8, l8, hk⟩
     exact ⟨_, rfl, h _ w8 ⟨s8, a8, n8, c8, rfl, N8, k8, fun _ => l8⟩ hk⟩
   · have z0 := (hb.cell (p := ⟨w.heap.size + 1, 0, none⟩) lB).trans x20
     have z1 := (hb.cell (p := ⟨w.heap.size + 1, 1, none⟩) lB).trans x21
     refine tv rfl (by rfl) ?_ (by exact h _ w7 rfl (Below.refl _ _))
     go_simp <;> rfl
   · have z0 := (hb.cell (p := ⟨B6, 0, none⟩) lG).trans x30
     have z1 := (hb.cell (p := ⟨B6, 1, none⟩) lG).trans x31
     refine tv rfl (by rfl) ?_ (by exact h _ w7 rfl (Below.refl _ _))
     go_simp <;> rfl
   · have e3_ : X 3 = _ := hD 3 (by decide) rfl
     have e4_ : X 4 = _ := hD 4 (by decide) rfl
     have h2 := h2.below hb
     have H6 := H6.below hb
     refine wpOp_call (i := 5) (f := 85) (args := #[.agg #[.bool s2, .slice a2 n2 c2], .agg #[.bool s6, .slice a6 n6 c6]]) 35 rfl rfl (by simp only [e3_, e4_]; rfl) (by simp only [e3_, e4_]; go_simp) ?_
     refine (over_c s2 s6 a2 a6 n2 n6 c2 c6 d g k2 k6 l2 HZ w7 h2 H6.num).mono ?_
     rintro e w8 ⟨s8, a8, n8, c8, rfl, N8, k8, l8, hk⟩
     exact ⟨_, rfl, h _ w8 ⟨s8, a8, n8, c8, rfl, N8, k8, fun _ => l8⟩ hk⟩
   · obtain ⟨s2_, a2_, n2_, c2_, e2_, N2_, k2_, q2_⟩ := hD 2 (by decide) rfl
     obtain ⟨s5_, a5_, n5_, c5_, e5_, N5_, k5_, q5_⟩ := hD 5 (by decide) rfl
     refine tv rfl (by simp only [e2_, e5_]; rfl) ?_ (by exact h _ w7 ⟨s2_, a2_, n2_, c2_, s5_, a5_, n5_, c5_, rfl, N2_, N5_, k2_, k5_, fun h => ⟨q2_ h, q5_ h⟩⟩ (Below.refl _ _))
     simp only [e2_, e5_]; go_simp <;> rfl
  case al =>
   repeat' first | exact Each.nil | refine Each.cons ?_ ?_
   all_goals exact fun X w7 H h => wpOp_run rfl (by go_simp; exact h)
  case st =>
   repeat' first | exact Each.nil | refine Each.cons ?_ ?_
   all_goals intro X w7 H b u0 hX hC hG h
   · replace hX : X 7 = .pointer (some ⟨b, 0, none⟩) := hX
     obtain ⟨s6_, a6_, n6_, c6_, t6_, b6_, m6_, d6_, e6_, N6_, M6_, k6_, l6_, q6_⟩ := hG
     obtain ⟨_, _, _, _, _, _, _, _, -, ⟨⟨y0, y1, y2, y3⟩, z0, z1, z2, z3⟩⟩ := hC
     have e : X 6 = _ := e6_
     refine wpOp_run rfl ?_
     simp only [hX, e] at h ⊢
     go_simp
     exact h _ ⟨_, _, _, _, _, _, _, _, e6_, rfl⟩
  case fin =>
   intro X4 w9 hI
   have hE := hI.below
   obtain ⟨s6_, a6_, n6_, c6_, t6_, b6_, m6_, d6_, e6_, N6_, M6_, k6_, l6_, q6_⟩ := hI.fact 6 (by decide) rfl rfl
   obtain ⟨B7, e7_, g7, Q7⟩ := hI.box 7 (by decide) rfl (by decide)
   replace Q7 : Cont 2 w9 B7 (X4 6) := Q7
   rw [e6_] at Q7
   replace Q7 := Q7.rat
   have h2 := h2.below hE
   have bB := bB.below hE bB.lt
   have qC := qC.below hE
   clear hI
   simp only [e6_, e7_]
   clear e6_ e7_
   clear x10 x11 x20 x21 x30 x31 lA lB lG
   have hB := hB.trans (hE.mono hB.size)
   have gq : w.heap.size + 1 + 1 < B7 := Nat.lt_of_lt_of_le lC g7
   clear hE lC g7 bA H6 h1
   obtain ⟨l8, l9⟩ := q6_ rfl
   clear q6_
   have hQ := Q7
   clear Q7
   go_wp2_with fail
   have hB := hB.drew
   have h2 := h2.below (Below.drew (Below.refl w9.heap.size w9))
   have N6_ := N6_.below (Below.drew (Below.refl w9.heap.size w9))
   have M6_ := M6_.below (Below.drew (Below.refl w9.heap.size w9))
   have hQ := hQ.below (Below.drew (Below.refl w9.heap.size w9))
   have bB : Box2 w9.drew _ _ _ := bB.below (Below.drew (Below.refl _ _)) bB.lt
   have qC := qC.below (Below.drew (Below.refl w9.heap.size w9))
   refine wp_region_held_drew (S := fun w' => Below (w9.drew.heap.size) w9.drew w') (by kernel_rfl) (Below.refl _ _) (fun hHeld => ?_)
   obtain ⟨WG, hWE⟩ : ∃ W, w9.drew = W := ⟨_, rfl⟩
   rw [hWE] at hB h2 N6_ M6_ hQ bB qC hHeld ⊢
   clear hWE
   have hE := Below.refl WG.heap.size WG
   have lB := bB.lt
   obtain ⟨x20, x21, -, -⟩ := id bB
   clear hHeld
   refine dagT 4 rfl (fun X => ⟨#[.agg #[.bool s1, .slice a1 n1 c1], .agg #[.bool s2, .slice a2 n2 c2], .pointer (some ⟨w.heap.size, 0, none⟩), .pointer (some ⟨w.heap.size + 1, 0, none⟩), .pointer (some ⟨w.heap.size + 1 + 1, 0, none⟩), .bool false, .pointer (some ⟨B6, 0, none⟩), .bool true, .pointer (some ⟨B7, 0, none⟩), X1 0, X1 1, X1 2, X1 3, X1 4, X1 5, X1 6, X1 7, X1 8, X1 9, X1 10, X1 11, X1 12, .bool false, undef, .tuple #[.agg #[.bool s6, .slice a6 n6 c6], .bool true], .agg #[.bool s1, .slice a1 n1 c1], .agg #[.bool s2, .slice a2 n2 c2], .tuple #[.agg #[.bool s6, .slice a6 n6 c6], .bool true], .agg #[.bool s6, .slice a6 n6 c6], .bool true, X4 0, X4 1, X4 2, X4 3, X4 4, X4 5, .agg #[.bool s6_, .slice a6_ n6_ c6_, .bool t6_, .slice b6_ m6_ d6_], X 0, X 1, X 2, X 3, undef, undef, undef, undef, undef, undef, undef, undef, undef], []⟩) [(0, 0, 0), (0, 0, 0), (0, 0, 0), (0, 0, 0)] [.val (.agg #[.bool s2, .slice a2 n2 c2]), .num 0 true, .val (.int .i64 C), .val (.bool (decide (C < 0)))] [[], [], [0, 1], [2]] [0, 1, 2, 3] [] [] 25 37 WG (by kernel_rfl) (by kernel_rfl) (by kernel_rfl) (by kernel_rfl) (by kernel_rfl) ?op ?al ?st ?fin (fun _ => undef) _ _ (by kernel_rfl) (of_decide_eq_true (by kernel_rfl)) (of_decide_eq_true (by kernel_rfl))
   case op =>
    repeat' first | exact Each.nil | refine Each.cons ?_ ?_
    all_goals intro X w7 H hb hD h
    · have z0 := (hb.cell (p := ⟨w.heap.size + 1, 0, none⟩) lB).trans x20
      have z1 := (hb.cell (p := ⟨w.heap.size + 1, 1, none⟩) lB).trans x21
      refine tv rfl (by rfl) ?_ (by exact h _ w7 rfl (Below.refl _ _))
      go_simp <;> rfl
    · refine wpOp_call (i := 1) (f := 82) (args := #[.int .i64 0]) 38 rfl rfl (by rfl) (by go_simp) ?_
      refine (whole_r 0 (by decide) (by decide) w7).mono ?_
      rintro e w8 ⟨s6, a6, n6, c6, rfl, N6, k6, l6, hk⟩
      exact ⟨_, rfl, h _ w8 ⟨s6, a6, n6, c6, rfl, N6, k6, fun _ => l6⟩ hk⟩
    · have e0_ : X 0 = _ := hD 0 (by decide) rfl
      obtain ⟨s1_, a1_, n1_, c1_, e1_, N1_, k1_, q1_⟩ := hD 1 (by decide) rfl
      have h2 := h2.below hb
      have cc := rcmp_any s2 s1_ a2 a1_ n2 n1_ c2 c1_ d 0 k2 k1_ w7 h2 N1_
      rw [HC.out] at cc
      refine wpOp_call (i := 2) (f := 81) (args := #[.agg #[.bool s2, .slice a2 n2 c2], .agg #[.bool s1_, .slice a1_ n1_ c1_]]) 39 rfl rfl (by simp only [e0_, e1_]; rfl) (by simp only [e0_, e1_]; go_simp) ?_
      refine (cc).mono ?_
      rintro e w8 ⟨rfl, hk⟩
      exact ⟨_, rfl, h _ w8 rfl hk⟩
    · have e2_ : X 2 = _ := hD 2 (by decide) rfl
      refine tv rfl (by simp only [e2_]; rfl) ?_ (by exact h _ w7 rfl (Below.refl _ _))
      simp only [e2_]; go_simp <;> rfl
   case al => exact Each.nil
   case st => exact Each.nil
   case fin =>
    intro X5 wG hI
    have hE := hI.below
    have e3_ : X5 3 = _ := hI.fact 3 (by decide) rfl rfl
    have N6_ := N6_.below hE
    have M6_ := M6_.below hE
    have hQ := hQ.below hE
    have qC := qC.below hE
    clear hI
    simp only [e3_]
    clear e3_
    clear x20 x21 lB bB h2
    have hB := hB.trans (hE.mono hB.size)
    clear hE
    have hneg : d < 0 ∨ 0 < d := by have := HD.out; omega
    rcases hneg with hneg | hneg
    · have hCl : decide (C < 0) = true := by rw [← HC.out]; unfold cmpZ; rw [if_pos hneg]; rfl
      have HRn := hide (HR.out.2 hneg)
      simp only [hCl]
      clear hneg hCl
      obtain ⟨⟨x70, x71, x72, x73⟩, -, -, -, -⟩ := id hQ
      go_wp2_with fail
      clear x70 x71 x72 x73
      refine (ropp_c s6_ a6_ n6_ c6_ (n / g) k6_ wG N6_).mono ?_
      rintro e v1 ⟨s11, a11, n11, c11, rfl, N11, k11, l11, hk⟩
      have hB := hB.trans (hk.mono hB.size)
      have N6_ := N6_.below hk
      have M6_ := M6_.below hk
      have hQ := hQ.below hk
      have qC := qC.below hk
      clear hk
      clear N6_
      obtain ⟨V1, hV1⟩ : ∃ W, (v1.setCell ⟨B7, 0, none⟩ (.bool s11)).setCell ⟨B7, 1, none⟩ (.slice a11 n11 c11) = W := ⟨_, rfl⟩
      obtain ⟨hQn, hT⟩ := hQ.set0 _ _ hV1
      have qC := qC.touch (Nat.ne_of_lt gq) hT
      have hB : Below w.heap.size w V1 := by rw [← hV1]; exact (hB.setCell (p := ⟨B7, 0, none⟩) (by show w.heap.size ≤ B7; omega) _).setCell (p := ⟨B7, 1, none⟩) (by show w.heap.size ≤ B7; omega) _
      have M6_ := M6_.quad hQ.four hT
      have N11 := N11.quad hQ.four hT
      have ho := id hQ
      have hQ := hQn
      clear hQn hT
      obtain ⟨⟨x80, x81, x82, x83⟩, z80, z81, z82, z83⟩ := id ho
      obtain ⟨⟨x70, x71, x72, x73⟩, -, -, -, -⟩ := id hQ
      go_wp2_with fail
      try rw [hV1]
      clear hV1
      clear x80 x81 x82 x83 z80 z81 z82 z83 x70 x71 x72 x73
      clear ho
      refine (ropp_c t6_ b6_ m6_ d6_ (d / g) l6_ V1 M6_).mono ?_
      rintro e v2 ⟨s12, a12, n12, c12, rfl, N12, k12, l12, hk⟩
      have hB := hB.trans (hk.mono hB.size)
      have M6_ := M6_.below hk
      have hQ := hQ.below hk
      have qC := qC.below hk
      have N11 := N11.below hk
      clear hk
      clear M6_
      obtain ⟨V2, hV2⟩ : ∃ W, (v2.setCell ⟨B7, 2, none⟩ (.bool s12)).setCell ⟨B7, 3, none⟩ (.slice a12 n12 c12) = W := ⟨_, rfl⟩
      obtain ⟨hQn, hT⟩ := hQ.set2 _ _ hV2
      have qC := qC.touch (Nat.ne_of_lt gq) hT
      have hB : Below w.heap.size w V2 := by rw [← hV2]; exact (hB.setCell (p := ⟨B7, 2, none⟩) (by show w.heap.size ≤ B7; omega) _).setCell (p := ⟨B7, 3, none⟩) (by show w.heap.size ≤ B7; omega) _
      have N11 := N11.quad hQ.four hT
      have N12 := N12.quad hQ.four hT
      have ho := id hQ
      have hQ := hQn
      clear hQn hT
      have P1 := N11
      have P2 := N12
      obtain ⟨Wz, hWz⟩ : ∃ W, (((V2.setCell ⟨w.heap.size + 1 + 1, 0, none⟩ (.bool s11)).setCell ⟨w.heap.size + 1 + 1, 1, none⟩ (.slice a11 n11 c11)).setCell ⟨w.heap.size + 1 + 1, 2, none⟩ (.bool s12)).setCell ⟨w.heap.size + 1 + 1, 3, none⟩ (.slice a12 n12 c12) = W := ⟨_, rfl⟩
      obtain ⟨hQ, hT⟩ := qC.set _ _ _ _ hWz
      have hBz : Below w.heap.size w Wz := by rw [← hWz]; exact below_set4 hB (by omega) _ _ _ _
      have P1 := P1.quad qC.four hT
      have P2 := P2.quad qC.four hT
      have K := hide (And.intro hQ (And.intro P1 (And.intro P2 hBz)))
      have HWz := hide hWz
      clear hQ hBz hWz hT P1 P2
      obtain ⟨⟨x90, x91, x92, x93⟩, z90, z91, z92, z93⟩ := id qC
      obtain ⟨⟨x70, x71, x72, x73⟩, -, -, -, -⟩ := id hQ
      obtain ⟨⟨x60, x61, x62, x63⟩, z60, z61, z62, z63⟩ := id ho
      go_wp2
      try rw [hV2]
      obtain ⟨⟨⟨q0, q1, q2, q3⟩, -, -, -, -⟩, P1, P2, hBB⟩ := K.out
      rw [HWz.out]
      exact bodyPost_ret (v := .tuple #[.agg #[.bool s11, .slice a11 n11 c11, .bool s12, .slice a12 n12 c12], .bool true]) (by simp [results, Tryz.results31, go_sem, q0, q1, q2, q3]) rfl ⟨_, _, _, _, _, _, _, _, rfl, by rw [HRn.out.1] at P1; exact P1, by rw [HRn.out.2] at P2; exact P2, k11, k12, hBB, l11, l12⟩
    · have hCl : decide (C < 0) = false := by rw [← HC.out]; unfold cmpZ; rw [if_neg (by omega), if_neg (by omega)]; rfl
      have HRp := hide (HR.out.1 hneg)
      simp only [hCl]
      clear hneg hCl
      have P1 := N6_
      have P2 := M6_
      obtain ⟨Wz, hWz⟩ : ∃ W, (((wG.setCell ⟨w.heap.size + 1 + 1, 0, none⟩ (.bool s6_)).setCell ⟨w.heap.size + 1 + 1, 1, none⟩ (.slice a6_ n6_ c6_)).setCell ⟨w.heap.size + 1 + 1, 2, none⟩ (.bool t6_)).setCell ⟨w.heap.size + 1 + 1, 3, none⟩ (.slice b6_ m6_ d6_) = W := ⟨_, rfl⟩
      obtain ⟨hQ, hT⟩ := qC.set _ _ _ _ hWz
      have hBz : Below w.heap.size w Wz := by rw [← hWz]; exact below_set4 hB (by omega) _ _ _ _
      have P1 := P1.quad qC.four hT
      have P2 := P2.quad qC.four hT
      have K := hide (And.intro hQ (And.intro P1 (And.intro P2 hBz)))
      have HWz := hide hWz
      clear hQ hBz hWz hT P1 P2
      obtain ⟨⟨x90, x91, x92, x93⟩, z90, z91, z92, z93⟩ := id qC
      obtain ⟨⟨x70, x71, x72, x73⟩, -, -, -, -⟩ := id hQ
      go_wp2
      obtain ⟨⟨⟨q0, q1, q2, q3⟩, -, -, -, -⟩, P1, P2, hBB⟩ := K.out
      rw [HWz.out]
      exact bodyPost_ret (v := .tuple #[.agg #[.bool s6_, .slice a6_ n6_ c6_, .bool t6_, .slice b6_ m6_ d6_], .bool true]) (by simp [results, Tryz.results31, go_sem, q0, q1, q2, q3]) rfl ⟨_, _, _, _, _, _, _, _, rfl, by rw [HRp.out.1] at P1; exact P1, by rw [HRp.out.2] at P2; exact P2, k6_, l6_, hBB, l8, l9⟩
theorem rofR_any (s1 s2 : Bool) (a1 a2 : Option Addr) (n1 n2 c1 c2 : Nat) (n d : Int) (k1 : n1 ≤ 64) (k2 : n2 ≤ 64) (l1 : n1 ≤ c1) (l2 : n2 ≤ c2) (hd : d ≠ 0) (w : World) (h1 : IsN w s1 a1 n1 n) (h2 : IsN w s2 a2 n2 d) :
 Calls Tryz.prog 31 #[.agg #[.bool s1, .slice a1 n1 c1], .agg #[.bool s2, .slice a2 n2 c2]] w (RatPost w (some (Rat.divInt n d))) :=
 (rofC_any s1 s2 a1 a2 n1 n2 c1 c2 n d k1 k2 l1 l2 hd w h1 h2).mono fun _ _ h => h.post
theorem rofR_pos (s1 s2 : Bool) (a1 a2 : Option Addr) (n1 n2 c1 c2 : Nat) (n d : Int) (k1 : n1 ≤ 64) (k2 : n2 ≤ 64) (l1 : n1 ≤ c1) (l2 : n2 ≤ c2) (hd0 : 0 < d) (w : World) (h1 : IsN w s1 a1 n1 n) (h2 : IsN w s2 a2 n2 d) :
 Calls Tryz.prog 31 #[.agg #[.bool s1, .slice a1 n1 c1], .agg #[.bool s2, .slice a2 n2 c2]] w (RatPost w (some (Rat.divInt n d))) :=
 rofR_any s1 s2 a1 a2 n1 n2 c1 c2 n d k1 k2 l1 l2 (by omega) w h1 h2
end Go.Proofs.YtgenaicmjddjcaaGreatDoor
