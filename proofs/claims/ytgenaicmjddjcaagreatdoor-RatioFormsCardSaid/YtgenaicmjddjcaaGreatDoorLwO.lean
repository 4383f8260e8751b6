/- the reference's number: at most three digits. -/
import Derived.Test.YtgenaicmjddjcaaGreatDoorRbD
import Derived.Test.YtgenaicmjddjcaaGreatDoorRbC
namespace Go.Proofs.YtgenaicmjddjcaaGreatDoor
open Go.RowKit Go.Shelf

theorem Held.other {w : World} {B C : Nat} {s s1 : Bool} {a a1 : Option Addr} {n c n1 c1 : Nat} {z : Int} (h : Held w C s a n c z) (q : Box2 w B (.bool s1) (.slice a1 n1 c1)) (hne : C ≠ B) (v0 v1 : Value) : Held ((w.setCell ⟨B, 0, none⟩ v0).setCell ⟨B, 1, none⟩ v1) C s a n c z := ⟨h.box.other v0 v1 hne, h.num.put q v0 v1⟩
theorem number_lt {z r : Int} {i : Nat} (hz : z.natAbs < bp i) (h0 : -4294967296 < r) (h1 : r < 4294967296) : (z * 4294967296 + r).natAbs < bp (i + 1) := by
 have e : bp (i + 1) = bp i * 4294967296 := by unfold bp; exact Nat.pow_succ _ _
 rw [e]; omega
theorem number_lt' {z : Int} {i : Nat} (hz : z.natAbs < bp i) : (z * 4294967296).natAbs < bp (i + 1) := by
 have := number_lt (r := 0) hz (by decide) (by decide)
 rwa [Int.add_zero] at this
theorem tmod_bd' (n : Int) {m : Int} (hm : 0 < m) : -m < Int.tmod n m ∧ Int.tmod n m < m := by
 refine ⟨?_, Int.tmod_lt_of_pos n hm⟩
 by_cases h : n < 0
 · have := Int.tmod_lt_of_pos (-n) hm
   rw [Int.neg_tmod] at this; omega
 · have := Int.tmod_nonneg (a := n) m (by omega); omega
def NumV (w : World) (e : Ending) (w' : World) : Prop :=
 ∃ (z : Int) (s : Bool) (a : Option Addr) (n c : Nat), e = .returned (.agg #[.bool s, .slice a n c]) ∧ IsN w' s a n z ∧ z.natAbs < bp 3 ∧ n ≤ 64 ∧ n ≤ c ∧ Below w.heap.size w w'
set_option maxRecDepth 100000 in
set_option maxHeartbeats 16000000 in
theorem rnumber_0 (ao : Option Addr) (L cap : Nat) (g : Nat → Int) (hL : L ≤ 9223372036854775807) (w : World) (hl : Ints w ao L g) :
 Calls Tryz.prog 80 #[.slice ao L cap, .int .i64 0] w (NumV w) := by
 have HLI := hide hl
 go_enter Tryz.func80, Tryz.ntmps80
 go_wp2_with fail
 obtain ⟨W1, hW1⟩ : ∃ W1, w.alloc (Obj.cells #[.bool false, .slice none 0 0] 25) = W1 := ⟨_, rfl⟩
 have bR : Box2 W1 w.heap.size (.bool false) (.slice none 0 0) := by rw [← hW1]; exact Box2.new _ _ _ _
 have hB : Below w.heap.size w W1 := by rw [← hW1]; exact below_alloc _ _
 try rw [hW1]
 clear hW1
 refine (whole_r 0 (by decide) (by decide) W1).mono ?_
 rintro e u1 ⟨s5, a5, n5, c5, rfl, N5, k5, l5, hk⟩
 have hB := hB.trans (hk.mono hB.size)
 have bR := bR.below hk bR.lt
 clear hk
 obtain ⟨Z5, hZ5⟩ : ∃ Z, u1.alloc (Obj.cells #[.bool false, .slice none 0 0] 25) = Z := ⟨_, rfl⟩
 obtain ⟨W5, hW5⟩ : ∃ W, (Z5.setCell ⟨u1.heap.size, 0, none⟩ (.bool s5)).setCell ⟨u1.heap.size, 1, none⟩ (.slice a5 n5 c5) = W := ⟨_, rfl⟩
 obtain ⟨H5, hk, bx5⟩ := num_new (c := c5) hZ5 hW5 N5
 clear N5
 obtain ⟨B5, hB5⟩ : ∃ B, u1.heap.size = B := ⟨_, rfl⟩
 have lR5 := bR.lt
 rw [hB5] at lR5
 have hB := hB.trans (hk.mono hB.size)
 have bR := bR.below hk bR.lt
 clear hk
 rw [hB5] at hW5 H5 bx5
 obtain ⟨y50, y51, yz50, yz51⟩ := id bx5
 go_wp2_with fail
 try rw [hW5]
 try rw [hB5]
 clear hW5 hB5
 clear y50 y51 yz50 yz51
 refine (whole_r 4294967296 (by decide) (by decide) W5).mono ?_
 rintro e u2 ⟨s6, a6, n6, c6, rfl, N6, k6, l6, hk⟩
 have hB := hB.trans (hk.mono hB.size)
 have bR := bR.below hk bR.lt
 have H5 := H5.below hk
 clear hk
 obtain ⟨Z6, hZ6⟩ : ∃ Z, u2.alloc (Obj.cells #[.bool false, .slice none 0 0] 25) = Z := ⟨_, rfl⟩
 obtain ⟨W6, hW6⟩ : ∃ W, (Z6.setCell ⟨u2.heap.size, 0, none⟩ (.bool s6)).setCell ⟨u2.heap.size, 1, none⟩ (.slice a6 n6 c6) = W := ⟨_, rfl⟩
 obtain ⟨H6, hk, bx6⟩ := num_new (c := c6) hZ6 hW6 N6
 clear N6
 obtain ⟨B6, hB6⟩ : ∃ B, u2.heap.size = B := ⟨_, rfl⟩
 have l56 := H5.box.lt
 rw [hB6] at l56
 have hB := hB.trans (hk.mono hB.size)
 have bR := bR.below hk bR.lt
 have H5 := H5.below hk
 clear hk
 rw [hB6] at hW6 H6 bx6
 obtain ⟨y60, y61, yz60, yz61⟩ := id bx6
 go_wp2_with fail
 try rw [hW6]
 try rw [hB6]
 clear hW6 hB6
 clear y60 y61 yz60 yz61
 clear l6
 go_loopw [7] (fun i wr => ∃ (k : Nat) (z : Int) (s : Bool) (a : Option Addr) (n c : Nat), 0 ≤ k ∧ k ≤ 3 ∧ i = .int .i64 (k : Int) ∧ z.natAbs < bp (k - 0) ∧ n ≤ c ∧ n ≤ 64 ∧ Held wr B5 s a n c z ∧ Held wr B6 s6 a6 n6 c6 4294967296 ∧ Box2 wr w.heap.size (.bool false) (.slice none 0 0) ∧ Below w.heap.size w wr) (fun i _ => 3 - (intOf i).toNat)
 case atStart => exact ⟨0, 0, s5, a5, n5, c5, by decide, by decide, rfl, by decide, l5, k5, H5, H6, bR, hB⟩
 case round =>
  clear H5 H6 bR hB k5 l5
  obtain ⟨k, z, s, a, n, c, hk0, hk1, rfl, hz, hnc, hn, H5, H6, bR, hB⟩ := hrel
  by_cases hgo : k < L ∧ k < 3
  case pos =>
   obtain ⟨hg1, hg2⟩ := hgo
   obtain ⟨b, off, rfl, hc⟩ : ∃ b off, ao = some ⟨b, off, none⟩ ∧ ∀ j, j < L → w.cell? ⟨b, off + j, none⟩ = some (.int .i64 (g j)) := HLI.out.resolve_left (by omega)
   have hx := hc k hg1
   clear hc
   have hbw := lt_of_cell hx
   obtain ⟨r0, r1⟩ := tmod_bd' (g k) (show (0 : Int) < 4294967296 by decide)
   obtain ⟨r, hr⟩ : ∃ r, Int.tmod (g k) 4294967296 = r := ⟨_, rfl⟩
   rw [hr] at r0 r1
   have q1 : (k : Int) < (L : Int) := by omega
   have q2 : (k : Int) < 3 := by omega
   have q0 : (0 : Int) ≤ (k : Int) := by omega
   have z1 := fit_of (number_lt' hz) (by omega : k - 0 + 1 ≤ 64)
   have hz2 := number_lt hz r0 r1
   have z2 := fit_of hz2 (by omega : k - 0 + 1 ≤ 64)
   have HZ := hide (And.intro z1 (And.intro hz2 z2))
   have HKK := hide (And.intro hk0 (And.intro hg1 hg2))
   have l5 : w.heap.size < B5 := lR5
   have q56 : B6 ≠ B5 := by omega
   have qR5 : w.heap.size ≠ B5 := by omega
   clear z1 z2 hz2 hz hk0 hk1 hg1 hg2 hnc
   obtain ⟨x10, x11, -, -⟩ := id H5.box
   obtain ⟨x20, x21, -, -⟩ := id H6.box
   go_wp2_with fail
   clear x10 x11 x20 x21
   refine (rmul_c s s6 a a6 n n6 c c6 z 4294967296 hn k6 HZ.out.1 wr H5.num H6.num).mono ?_
   rintro e u3 ⟨s7, a7, n7, c7, rfl, N7, -, hk, l7⟩
   have hB := hB.trans (hk.mono hB.size)
   have H5 := H5.below hk
   have H6 := H6.below hk
   have bR := bR.below hk bR.lt
   clear hk
   have k7 : n7 ≤ 64 := by rw [N7.dig.len]; exact HZ.out.1
   obtain ⟨W7, hW7⟩ : ∃ W, (u3.setCell ⟨B5, 0, none⟩ (.bool s7)).setCell ⟨B5, 1, none⟩ (.slice a7 n7 c7) = W := ⟨_, rfl⟩
   have H5n : Held W7 B5 s7 a7 n7 c7 (z * 4294967296) := by rw [← hW7]; exact Held.put N7 H5.box
   have H6 : Held W7 B6 s6 a6 n6 c6 4294967296 := by rw [← hW7]; exact H6.other H5.box q56 _ _
   have bR : Box2 W7 w.heap.size (.bool false) (.slice none 0 0) := by rw [← hW7]; exact bR.other _ _ qR5
   have hB : Below w.heap.size w W7 := by rw [← hW7]; exact below_set2 hB (Nat.le_of_lt l5) _ _
   have ho := id H5.box
   have H5 := H5n
   clear H5n N7 hn l7
   obtain ⟨y0, y1, yz0, yz1⟩ := id ho
   go_wp2_with fail
   try rw [hW7]
   clear hW7
   clear y0 y1 yz0 yz1
   clear ho
   have hB := hB.drew
   have H5 := H5.below (Below.drew (Below.refl W7.heap.size W7))
   have H6 := H6.below (Below.drew (Below.refl W7.heap.size W7))
   have bR : Box2 W7.drew _ _ _ := bR.below (Below.drew (Below.refl _ _)) bR.lt
   refine wp_region_held_drew (S := fun w' => Below (w.heap.size) W7.drew w') (by kernel_rfl) (Below.refl _ _) (fun hHeld => ?_)
   obtain ⟨WE, hWE⟩ : ∃ W, W7.drew = W := ⟨_, rfl⟩
   rw [hWE] at hB H5 H6 bR hHeld ⊢
   clear hWE
   have hE := Below.refl WE.heap.size WE
   have lS : w.heap.size ≤ WE.heap.size := hB.size
   have hS : Below w.heap.size WE WE := Below.refl _ _
   have hx : WE.cell? ⟨b, off + k, none⟩ = some (.int .i64 (g k)) := (hB.cell (p := ⟨b, off + k, none⟩) hbw).trans hx
   refine tk 1 (.slice (some ⟨b, off, none⟩) L cap) 31 rfl rfl ?_
   simp only [Act.put, pA, pB, pC]
   refine tk 2 (.int .i64 (k : Int)) 32 rfl rfl ?_
   simp only [Act.put, pA, pB, pC]
   refine tk 3 (.pointer (some ⟨b, off + k, none⟩)) 33 rfl rfl ?_
   simp only [Act.put, pA, pB, pC]
   refine tk 4 (.int .i64 (g k)) 34 rfl rfl ?_ (Or.inl ⟨by rfl, fun w' hSw => by have q0 := (hSw.cell (p := ⟨b, off + k, none⟩) hbw).trans hx; go_simp⟩)
   simp only [Act.put, pA, pB, pC]
   refine tk 5 (.int .i64 r) 35 rfl rfl ?_
   simp only [Act.put, pA, pB, pC]
   refine wpAnyH_twoR 0 6 (by kernel_rfl) ?g1 ?g2
   case' g1 =>
    obtain ⟨y0, y1, -, -⟩ := id H5.box
    refine wpOp_run (i := 0) rfl ?_
    go_simp
    clear y0 y1
    refine wpAnyH_one 6 (by kernel_rfl) ?_
    refine wpOp_call (i := 6) (f := 82) (args := #[.int .i64 r]) 36 rfl rfl (by rfl) (by go_simp) ?_
    refine (whole_r r (by omega) (by omega) WE).mono ?_
    rintro e r1 ⟨s8, a8, n8, c8, rfl, N8, k8, l8, hk⟩
    have hE := hE.trans (hk.mono hE.size)
    have H5 := H5.below hk
    have H6 := H6.below hk
    have bR := bR.below hk bR.lt
    have hS : Below w.heap.size WE r1 := hE.mono lS
    refine ⟨_, rfl, hS, ?_⟩
    simp only [Act.put, pA, pB, pC]
    refine wpAnyH_one 7 (by kernel_rfl) ?_
    refine wpOp_call (i := 7) (f := 96) (args := #[.agg #[.bool s7, .slice a7 n7 c7], .agg #[.bool s8, .slice a8 n8 c8]]) 37 rfl rfl (by rfl) (by go_simp) ?_
    refine (radd_c s7 s8 a7 a8 n7 n8 c7 c8 (z * 4294967296) r k7 k8 HZ.out.2.2 r1 H5.num N8).mono ?_
    rintro e r2 ⟨s9, a9, n9, c9, rfl, N9, -, hk, l9⟩
    have hE := hE.trans (hk.mono hE.size)
    have H5 := H5.below hk
    have H6 := H6.below hk
    have N8 := N8.below hk
    have bR := bR.below hk bR.lt
    have k9 : n9 ≤ 64 := by rw [N9.dig.len]; exact HZ.out.2.2
    have hS : Below w.heap.size WE r2 := hE.mono lS
    refine ⟨_, rfl, hS, ?_⟩
    simp only [Act.put, pA, pB, pC]
    refine tk 8 (.tuple #[.agg #[.bool s9, .slice a9 n9 c9], .bool true]) 29 rfl rfl ?_
    simp only [Act.put, pA, pB, pC]
    refine tk 9 (.agg #[.bool s9, .slice a9 n9 c9]) 38 rfl rfl ?_
    simp only [Act.put, pA, pB, pC]
    refine tk 10 (.bool true) 39 rfl rfl ?_
    simp only [Act.put, pA, pB, pC]
    refine wpAnyH_one 11 (by kernel_rfl) ?_
    obtain ⟨Wz, hWz⟩ : ∃ W, (r2.setCell ⟨B5, 0, none⟩ (.bool s9)).setCell ⟨B5, 1, none⟩ (.slice a9 n9 c9) = W := ⟨_, rfl⟩
    have H5n : Held Wz B5 s9 a9 n9 c9 (z * 4294967296 + r) := by rw [← hWz]; exact Held.put N9 H5.box
    have H6 : Held Wz B6 s6 a6 n6 c6 4294967296 := by rw [← hWz]; exact H6.other H5.box q56 _ _
    have bR : Box2 Wz w.heap.size (.bool false) (.slice none 0 0) := by rw [← hWz]; exact bR.other _ _ qR5
    have hS : Below w.heap.size WE Wz := by rw [← hWz]; exact below_set2 hS (Nat.le_of_lt l5) _ _
    obtain ⟨y0, y1, yz0, yz1⟩ := id H5.box
    have H5 := H5n
    clear H5n N9
    refine wpOp_run (i := 11) rfl ?_
    go_simp
    try rw [hWz]
    try refine ⟨hS, ?_⟩
    clear y0 y1 yz0 yz1 hWz
    refine wpAnyH_done (by kernel_rfl) ?_ _
   case' g2 =>
    refine wpOp_call (i := 6) (f := 82) (args := #[.int .i64 r]) 36 rfl rfl (by rfl) (by go_simp) ?_
    refine (whole_r r (by omega) (by omega) WE).mono ?_
    rintro e r3 ⟨s8, a8, n8, c8, rfl, N8, k8, l8, hk⟩
    have hE := hE.trans (hk.mono hE.size)
    have H5 := H5.below hk
    have H6 := H6.below hk
    have bR := bR.below hk bR.lt
    have hS : Below w.heap.size WE r3 := hE.mono lS
    refine ⟨_, rfl, hS, ?_⟩
    simp only [Act.put, pA, pB, pC]
    refine wpAnyH_one 0 (by kernel_rfl) ?_
    obtain ⟨y0, y1, -, -⟩ := id H5.box
    refine wpOp_run (i := 0) rfl ?_
    go_simp
    clear y0 y1
    refine wpAnyH_one 7 (by kernel_rfl) ?_
    refine wpOp_call (i := 7) (f := 96) (args := #[.agg #[.bool s7, .slice a7 n7 c7], .agg #[.bool s8, .slice a8 n8 c8]]) 37 rfl rfl (by rfl) (by go_simp) ?_
    refine (radd_c s7 s8 a7 a8 n7 n8 c7 c8 (z * 4294967296) r k7 k8 HZ.out.2.2 r3 H5.num N8).mono ?_
    rintro e r4 ⟨s9, a9, n9, c9, rfl, N9, -, hk, l9⟩
    have hE := hE.trans (hk.mono hE.size)
    have H5 := H5.below hk
    have H6 := H6.below hk
    have N8 := N8.below hk
    have bR := bR.below hk bR.lt
    have k9 : n9 ≤ 64 := by rw [N9.dig.len]; exact HZ.out.2.2
    have hS : Below w.heap.size WE r4 := hE.mono lS
    refine ⟨_, rfl, hS, ?_⟩
    simp only [Act.put, pA, pB, pC]
    refine tk 8 (.tuple #[.agg #[.bool s9, .slice a9 n9 c9], .bool true]) 29 rfl rfl ?_
    simp only [Act.put, pA, pB, pC]
    refine tk 9 (.agg #[.bool s9, .slice a9 n9 c9]) 38 rfl rfl ?_
    simp only [Act.put, pA, pB, pC]
    refine tk 10 (.bool true) 39 rfl rfl ?_
    simp only [Act.put, pA, pB, pC]
    refine wpAnyH_one 11 (by kernel_rfl) ?_
    obtain ⟨Wz, hWz⟩ : ∃ W, (r4.setCell ⟨B5, 0, none⟩ (.bool s9)).setCell ⟨B5, 1, none⟩ (.slice a9 n9 c9) = W := ⟨_, rfl⟩
    have H5n : Held Wz B5 s9 a9 n9 c9 (z * 4294967296 + r) := by rw [← hWz]; exact Held.put N9 H5.box
    have H6 : Held Wz B6 s6 a6 n6 c6 4294967296 := by rw [← hWz]; exact H6.other H5.box q56 _ _
    have bR : Box2 Wz w.heap.size (.bool false) (.slice none 0 0) := by rw [← hWz]; exact bR.other _ _ qR5
    have hS : Below w.heap.size WE Wz := by rw [← hWz]; exact below_set2 hS (Nat.le_of_lt l5) _ _
    obtain ⟨y0, y1, yz0, yz1⟩ := id H5.box
    have H5 := H5n
    clear H5n N9
    refine wpOp_run (i := 11) rfl ?_
    go_simp
    try rw [hWz]
    try refine ⟨hS, ?_⟩
    clear y0 y1 yz0 yz1 hWz
    refine wpAnyH_done (by kernel_rfl) ?_ _
   all_goals
    have hB := hB.trans hS
    clear hE hS lS hx hHeld
    go_wp2
    go_roundw
    case rel => exact ⟨k + 1, z * 4294967296 + r, s9, a9, n9, c9, by have := HKK.out.1; omega, by have := HKK.out.2.2; omega, by go_num, by rw [show k + 1 - 0 = k - 0 + 1 by have := HKK.out.1; omega]; exact HZ.out.2.1, l9, k9, H5, H6, bR, hB⟩
    case measure => simp [intOf]; have := HKK.out.2.2; omega
  case neg =>
   have hz3 := lt_mono hz (by omega : k - 0 ≤ 3)
   have K2 := hide hz3
   clear hz3
   by_cases hlt : k < L
   case pos =>
    have h3 : k = 3 := by omega
    subst h3
    have q1 : (3 : Int) < (L : Int) := by omega
    clear hgo hz hk0 hk1
    have N9 := H5.num
    have o5 := id H5.box
    clear H6
    obtain ⟨Wz, hWz⟩ : ∃ W, (wr.setCell ⟨w.heap.size, 0, none⟩ (.bool s)).setCell ⟨w.heap.size, 1, none⟩ (.slice a n c) = W := ⟨_, rfl⟩
    have hQ := bR.set (.bool s) (.slice a n c)
    have hBz := below_set2 hB (B := w.heap.size) (by omega) (.bool s) (.slice a n c)
    have N9 := N9.put bR (.bool s) (.slice a n c)
    rw [hWz] at hQ hBz N9
    have K := hide (And.intro hQ (And.intro N9 hBz))
    have HWz := hide hWz
    clear hQ hBz hWz N9
    obtain ⟨x90, x91, z90, z91⟩ := id bR
    obtain ⟨x10, x11, -, -⟩ := id o5
    go_wp2
    obtain ⟨⟨q0, q1, -, -⟩, P1, hBB⟩ := K.out
    rw [HWz.out]
    exact bodyPost_ret (v := .agg #[.bool s, .slice a n c]) (by simp [results, Tryz.results80, go_sem, q0, q1]) rfl ⟨_, _, _, _, _, rfl, P1, K2.out, hn, hnc, hBB⟩
   case neg =>
    have q1 : decide ((k : Int) < (L : Int)) = false := decide_eq_false (by omega)
    clear hgo hz hk0 hk1
    have N9 := H5.num
    have o5 := id H5.box
    clear H6
    obtain ⟨Wz, hWz⟩ : ∃ W, (wr.setCell ⟨w.heap.size, 0, none⟩ (.bool s)).setCell ⟨w.heap.size, 1, none⟩ (.slice a n c) = W := ⟨_, rfl⟩
    have hQ := bR.set (.bool s) (.slice a n c)
    have hBz := below_set2 hB (B := w.heap.size) (by omega) (.bool s) (.slice a n c)
    have N9 := N9.put bR (.bool s) (.slice a n c)
    rw [hWz] at hQ hBz N9
    have K := hide (And.intro hQ (And.intro N9 hBz))
    have HWz := hide hWz
    clear hQ hBz hWz N9
    obtain ⟨x90, x91, z90, z91⟩ := id bR
    obtain ⟨x10, x11, -, -⟩ := id o5
    go_wp2
    obtain ⟨⟨q0, q1, -, -⟩, P1, hBB⟩ := K.out
    rw [HWz.out]
    exact bodyPost_ret (v := .agg #[.bool s, .slice a n c]) (by simp [results, Tryz.results80, go_sem, q0, q1]) rfl ⟨_, _, _, _, _, rfl, P1, K2.out, hn, hnc, hBB⟩
set_option maxRecDepth 100000 in
set_option maxHeartbeats 16000000 in
theorem rnumber_3 (ao : Option Addr) (L cap : Nat) (g : Nat → Int) (hL : L ≤ 9223372036854775807) (w : World) (hl : Ints w ao L g) :
 Calls Tryz.prog 80 #[.slice ao L cap, .int .i64 3] w (NumV w) := by
 have HLI := hide hl
 go_enter Tryz.func80, Tryz.ntmps80
 go_wp2_with fail
 obtain ⟨W1, hW1⟩ : ∃ W1, w.alloc (Obj.cells #[.bool false, .slice none 0 0] 25) = W1 := ⟨_, rfl⟩
 have bR : Box2 W1 w.heap.size (.bool false) (.slice none 0 0) := by rw [← hW1]; exact Box2.new _ _ _ _
 have hB : Below w.heap.size w W1 := by rw [← hW1]; exact below_alloc _ _
 try rw [hW1]
 clear hW1
 refine (whole_r 0 (by decide) (by decide) W1).mono ?_
 rintro e u1 ⟨s5, a5, n5, c5, rfl, N5, k5, l5, hk⟩
 have hB := hB.trans (hk.mono hB.size)
 have bR := bR.below hk bR.lt
 clear hk
 obtain ⟨Z5, hZ5⟩ : ∃ Z, u1.alloc (Obj.cells #[.bool false, .slice none 0 0] 25) = Z := ⟨_, rfl⟩
 obtain ⟨W5, hW5⟩ : ∃ W, (Z5.setCell ⟨u1.heap.size, 0, none⟩ (.bool s5)).setCell ⟨u1.heap.size, 1, none⟩ (.slice a5 n5 c5) = W := ⟨_, rfl⟩
 obtain ⟨H5, hk, bx5⟩ := num_new (c := c5) hZ5 hW5 N5
 clear N5
 obtain ⟨B5, hB5⟩ : ∃ B, u1.heap.size = B := ⟨_, rfl⟩
 have lR5 := bR.lt
 rw [hB5] at lR5
 have hB := hB.trans (hk.mono hB.size)
 have bR := bR.below hk bR.lt
 clear hk
 rw [hB5] at hW5 H5 bx5
 obtain ⟨y50, y51, yz50, yz51⟩ := id bx5
 go_wp2_with fail
 try rw [hW5]
 try rw [hB5]
 clear hW5 hB5
 clear y50 y51 yz50 yz51
 refine (whole_r 4294967296 (by decide) (by decide) W5).mono ?_
 rintro e u2 ⟨s6, a6, n6, c6, rfl, N6, k6, l6, hk⟩
 have hB := hB.trans (hk.mono hB.size)
 have bR := bR.below hk bR.lt
 have H5 := H5.below hk
 clear hk
 obtain ⟨Z6, hZ6⟩ : ∃ Z, u2.alloc (Obj.cells #[.bool false, .slice none 0 0] 25) = Z := ⟨_, rfl⟩
 obtain ⟨W6, hW6⟩ : ∃ W, (Z6.setCell ⟨u2.heap.size, 0, none⟩ (.bool s6)).setCell ⟨u2.heap.size, 1, none⟩ (.slice a6 n6 c6) = W := ⟨_, rfl⟩
 obtain ⟨H6, hk, bx6⟩ := num_new (c := c6) hZ6 hW6 N6
 clear N6
 obtain ⟨B6, hB6⟩ : ∃ B, u2.heap.size = B := ⟨_, rfl⟩
 have l56 := H5.box.lt
 rw [hB6] at l56
 have hB := hB.trans (hk.mono hB.size)
 have bR := bR.below hk bR.lt
 have H5 := H5.below hk
 clear hk
 rw [hB6] at hW6 H6 bx6
 obtain ⟨y60, y61, yz60, yz61⟩ := id bx6
 go_wp2_with fail
 try rw [hW6]
 try rw [hB6]
 clear hW6 hB6
 clear y60 y61 yz60 yz61
 clear l6
 go_loopw [7] (fun i wr => ∃ (k : Nat) (z : Int) (s : Bool) (a : Option Addr) (n c : Nat), 3 ≤ k ∧ k ≤ 6 ∧ i = .int .i64 (k : Int) ∧ z.natAbs < bp (k - 3) ∧ n ≤ c ∧ n ≤ 64 ∧ Held wr B5 s a n c z ∧ Held wr B6 s6 a6 n6 c6 4294967296 ∧ Box2 wr w.heap.size (.bool false) (.slice none 0 0) ∧ Below w.heap.size w wr) (fun i _ => 6 - (intOf i).toNat)
 case atStart => exact ⟨3, 0, s5, a5, n5, c5, by decide, by decide, rfl, by decide, l5, k5, H5, H6, bR, hB⟩
 case round =>
  clear H5 H6 bR hB k5 l5
  obtain ⟨k, z, s, a, n, c, hk0, hk1, rfl, hz, hnc, hn, H5, H6, bR, hB⟩ := hrel
  by_cases hgo : k < L ∧ k < 6
  case pos =>
   obtain ⟨hg1, hg2⟩ := hgo
   obtain ⟨b, off, rfl, hc⟩ : ∃ b off, ao = some ⟨b, off, none⟩ ∧ ∀ j, j < L → w.cell? ⟨b, off + j, none⟩ = some (.int .i64 (g j)) := HLI.out.resolve_left (by omega)
   have hx := hc k hg1
   clear hc
   have hbw := lt_of_cell hx
   obtain ⟨r0, r1⟩ := tmod_bd' (g k) (show (0 : Int) < 4294967296 by decide)
   obtain ⟨r, hr⟩ : ∃ r, Int.tmod (g k) 4294967296 = r := ⟨_, rfl⟩
   rw [hr] at r0 r1
   have q1 : (k : Int) < (L : Int) := by omega
   have q2 : (k : Int) < 6 := by omega
   have q0 : (0 : Int) ≤ (k : Int) := by omega
   have z1 := fit_of (number_lt' hz) (by omega : k - 3 + 1 ≤ 64)
   have hz2 := number_lt hz r0 r1
   have z2 := fit_of hz2 (by omega : k - 3 + 1 ≤ 64)
   have HZ := hide (And.intro z1 (And.intro hz2 z2))
   have HKK := hide (And.intro hk0 (And.intro hg1 hg2))
   have l5 : w.heap.size < B5 := lR5
   have q56 : B6 ≠ B5 := by omega
   have qR5 : w.heap.size ≠ B5 := by omega
   clear z1 z2 hz2 hz hk0 hk1 hg1 hg2 hnc
   obtain ⟨x10, x11, -, -⟩ := id H5.box
   obtain ⟨x20, x21, -, -⟩ := id H6.box
   go_wp2_with fail
   clear x10 x11 x20 x21
   refine (rmul_c s s6 a a6 n n6 c c6 z 4294967296 hn k6 HZ.out.1 wr H5.num H6.num).mono ?_
   rintro e u3 ⟨s7, a7, n7, c7, rfl, N7, -, hk, l7⟩
   have hB := hB.trans (hk.mono hB.size)
   have H5 := H5.below hk
   have H6 := H6.below hk
   have bR := bR.below hk bR.lt
   clear hk
   have k7 : n7 ≤ 64 := by rw [N7.dig.len]; exact HZ.out.1
   obtain ⟨W7, hW7⟩ : ∃ W, (u3.setCell ⟨B5, 0, none⟩ (.bool s7)).setCell ⟨B5, 1, none⟩ (.slice a7 n7 c7) = W := ⟨_, rfl⟩
   have H5n : Held W7 B5 s7 a7 n7 c7 (z * 4294967296) := by rw [← hW7]; exact Held.put N7 H5.box
   have H6 : Held W7 B6 s6 a6 n6 c6 4294967296 := by rw [← hW7]; exact H6.other H5.box q56 _ _
   have bR : Box2 W7 w.heap.size (.bool false) (.slice none 0 0) := by rw [← hW7]; exact bR.other _ _ qR5
   have hB : Below w.heap.size w W7 := by rw [← hW7]; exact below_set2 hB (Nat.le_of_lt l5) _ _
   have ho := id H5.box
   have H5 := H5n
   clear H5n N7 hn l7
   obtain ⟨y0, y1, yz0, yz1⟩ := id ho
   go_wp2_with fail
   try rw [hW7]
   clear hW7
   clear y0 y1 yz0 yz1
   clear ho
   have hB := hB.drew
   have H5 := H5.below (Below.drew (Below.refl W7.heap.size W7))
   have H6 := H6.below (Below.drew (Below.refl W7.heap.size W7))
   have bR : Box2 W7.drew _ _ _ := bR.below (Below.drew (Below.refl _ _)) bR.lt
   refine wp_region_held_drew (S := fun w' => Below (w.heap.size) W7.drew w') (by kernel_rfl) (Below.refl _ _) (fun hHeld => ?_)
   obtain ⟨WE, hWE⟩ : ∃ W, W7.drew = W := ⟨_, rfl⟩
   rw [hWE] at hB H5 H6 bR hHeld ⊢
   clear hWE
   have hE := Below.refl WE.heap.size WE
   have lS : w.heap.size ≤ WE.heap.size := hB.size
   have hS : Below w.heap.size WE WE := Below.refl _ _
   have hx : WE.cell? ⟨b, off + k, none⟩ = some (.int .i64 (g k)) := (hB.cell (p := ⟨b, off + k, none⟩) hbw).trans hx
   refine tk 1 (.slice (some ⟨b, off, none⟩) L cap) 31 rfl rfl ?_
   simp only [Act.put, pA, pB, pC]
   refine tk 2 (.int .i64 (k : Int)) 32 rfl rfl ?_
   simp only [Act.put, pA, pB, pC]
   refine tk 3 (.pointer (some ⟨b, off + k, none⟩)) 33 rfl rfl ?_
   simp only [Act.put, pA, pB, pC]
   refine tk 4 (.int .i64 (g k)) 34 rfl rfl ?_ (Or.inl ⟨by rfl, fun w' hSw => by have q0 := (hSw.cell (p := ⟨b, off + k, none⟩) hbw).trans hx; go_simp⟩)
   simp only [Act.put, pA, pB, pC]
   refine tk 5 (.int .i64 r) 35 rfl rfl ?_
   simp only [Act.put, pA, pB, pC]
   refine wpAnyH_twoR 0 6 (by kernel_rfl) ?g1 ?g2
   case' g1 =>
    obtain ⟨y0, y1, -, -⟩ := id H5.box
    refine wpOp_run (i := 0) rfl ?_
    go_simp
    clear y0 y1
    refine wpAnyH_one 6 (by kernel_rfl) ?_
    refine wpOp_call (i := 6) (f := 82) (args := #[.int .i64 r]) 36 rfl rfl (by rfl) (by go_simp) ?_
    refine (whole_r r (by omega) (by omega) WE).mono ?_
    rintro e r1 ⟨s8, a8, n8, c8, rfl, N8, k8, l8, hk⟩
    have hE := hE.trans (hk.mono hE.size)
    have H5 := H5.below hk
    have H6 := H6.below hk
    have bR := bR.below hk bR.lt
    have hS : Below w.heap.size WE r1 := hE.mono lS
    refine ⟨_, rfl, hS, ?_⟩
    simp only [Act.put, pA, pB, pC]
    refine wpAnyH_one 7 (by kernel_rfl) ?_
    refine wpOp_call (i := 7) (f := 96) (args := #[.agg #[.bool s7, .slice a7 n7 c7], .agg #[.bool s8, .slice a8 n8 c8]]) 37 rfl rfl (by rfl) (by go_simp) ?_
    refine (radd_c s7 s8 a7 a8 n7 n8 c7 c8 (z * 4294967296) r k7 k8 HZ.out.2.2 r1 H5.num N8).mono ?_
    rintro e r2 ⟨s9, a9, n9, c9, rfl, N9, -, hk, l9⟩
    have hE := hE.trans (hk.mono hE.size)
    have H5 := H5.below hk
    have H6 := H6.below hk
    have N8 := N8.below hk
    have bR := bR.below hk bR.lt
    have k9 : n9 ≤ 64 := by rw [N9.dig.len]; exact HZ.out.2.2
    have hS : Below w.heap.size WE r2 := hE.mono lS
    refine ⟨_, rfl, hS, ?_⟩
    simp only [Act.put, pA, pB, pC]
    refine tk 8 (.tuple #[.agg #[.bool s9, .slice a9 n9 c9], .bool true]) 29 rfl rfl ?_
    simp only [Act.put, pA, pB, pC]
    refine tk 9 (.agg #[.bool s9, .slice a9 n9 c9]) 38 rfl rfl ?_
    simp only [Act.put, pA, pB, pC]
    refine tk 10 (.bool true) 39 rfl rfl ?_
    simp only [Act.put, pA, pB, pC]
    refine wpAnyH_one 11 (by kernel_rfl) ?_
    obtain ⟨Wz, hWz⟩ : ∃ W, (r2.setCell ⟨B5, 0, none⟩ (.bool s9)).setCell ⟨B5, 1, none⟩ (.slice a9 n9 c9) = W := ⟨_, rfl⟩
    have H5n : Held Wz B5 s9 a9 n9 c9 (z * 4294967296 + r) := by rw [← hWz]; exact Held.put N9 H5.box
    have H6 : Held Wz B6 s6 a6 n6 c6 4294967296 := by rw [← hWz]; exact H6.other H5.box q56 _ _
    have bR : Box2 Wz w.heap.size (.bool false) (.slice none 0 0) := by rw [← hWz]; exact bR.other _ _ qR5
    have hS : Below w.heap.size WE Wz := by rw [← hWz]; exact below_set2 hS (Nat.le_of_lt l5) _ _
    obtain ⟨y0, y1, yz0, yz1⟩ := id H5.box
    have H5 := H5n
    clear H5n N9
    refine wpOp_run (i := 11) rfl ?_
    go_simp
    try rw [hWz]
    try refine ⟨hS, ?_⟩
    clear y0 y1 yz0 yz1 hWz
    refine wpAnyH_done (by kernel_rfl) ?_ _
   case' g2 =>
    refine wpOp_call (i := 6) (f := 82) (args := #[.int .i64 r]) 36 rfl rfl (by rfl) (by go_simp) ?_
    refine (whole_r r (by omega) (by omega) WE).mono ?_
    rintro e r3 ⟨s8, a8, n8, c8, rfl, N8, k8, l8, hk⟩
    have hE := hE.trans (hk.mono hE.size)
    have H5 := H5.below hk
    have H6 := H6.below hk
    have bR := bR.below hk bR.lt
    have hS : Below w.heap.size WE r3 := hE.mono lS
    refine ⟨_, rfl, hS, ?_⟩
    simp only [Act.put, pA, pB, pC]
    refine wpAnyH_one 0 (by kernel_rfl) ?_
    obtain ⟨y0, y1, -, -⟩ := id H5.box
    refine wpOp_run (i := 0) rfl ?_
    go_simp
    clear y0 y1
    refine wpAnyH_one 7 (by kernel_rfl) ?_
    refine wpOp_call (i := 7) (f := 96) (args := #[.agg #[.bool s7, .slice a7 n7 c7], .agg #[.bool s8, .slice a8 n8 c8]]) 37 rfl rfl (by rfl) (by go_simp) ?_
    refine (radd_c s7 s8 a7 a8 n7 n8 c7 c8 (z * 4294967296) r k7 k8 HZ.out.2.2 r3 H5.num N8).mono ?_
    rintro e r4 ⟨s9, a9, n9, c9, rfl, N9, -, hk, l9⟩
    have hE := hE.trans (hk.mono hE.size)
    have H5 := H5.below hk
    have H6 := H6.below hk
    have N8 := N8.below hk
    have bR := bR.below hk bR.lt
    have k9 : n9 ≤ 64 := by rw [N9.dig.len]; exact HZ.out.2.2
    have hS : Below w.heap.size WE r4 := hE.mono lS
    refine ⟨_, rfl, hS, ?_⟩
    simp only [Act.put, pA, pB, pC]
    refine tk 8 (.tuple #[.agg #[.bool s9, .slice a9 n9 c9], .bool true]) 29 rfl rfl ?_
    simp only [Act.put, pA, pB, pC]
    refine tk 9 (.agg #[.bool s9, .slice a9 n9 c9]) 38 rfl rfl ?_
    simp only [Act.put, pA, pB, pC]
    refine tk 10 (.bool true) 39 rfl rfl ?_
    simp only [Act.put, pA, pB, pC]
    refine wpAnyH_one 11 (by kernel_rfl) ?_
    obtain ⟨Wz, hWz⟩ : ∃ W, (r4.setCell ⟨B5, 0, none⟩ (.bool s9)).setCell ⟨B5, 1, none⟩ (.slice a9 n9 c9) = W := ⟨_, rfl⟩
    have H5n : Held Wz B5 s9 a9 n9 c9 (z * 4294967296 + r) := by rw [← hWz]; exact Held.put N9 H5.box
    have H6 : Held Wz B6 s6 a6 n6 c6 4294967296 := by rw [← hWz]; exact H6.other H5.box q56 _ _
    have bR : Box2 Wz w.heap.size (.bool false) (.slice none 0 0) := by rw [← hWz]; exact bR.other _ _ qR5
    have hS : Below w.heap.size WE Wz := by rw [← hWz]; exact below_set2 hS (Nat.le_of_lt l5) _ _
    obtain ⟨y0, y1, yz0, yz1⟩ := id H5.box
    have H5 := H5n
    clear H5n N9
    refine wpOp_run (i := 11) rfl ?_
    go_simp
    try rw [hWz]
    try refine ⟨hS, ?_⟩
    clear y0 y1 yz0 yz1 hWz
    refine wpAnyH_done (by kernel_rfl) ?_ _
   all_goals
    have hB := hB.trans hS
    clear hE hS lS hx hHeld
    go_wp2
    go_roundw
    case rel => exact ⟨k + 1, z * 4294967296 + r, s9, a9, n9, c9, by have := HKK.out.1; omega, by have := HKK.out.2.2; omega, by go_num, by rw [show k + 1 - 3 = k - 3 + 1 by have := HKK.out.1; omega]; exact HZ.out.2.1, l9, k9, H5, H6, bR, hB⟩
    case measure => simp [intOf]; have := HKK.out.2.2; omega
  case neg =>
   have hz3 := lt_mono hz (by omega : k - 3 ≤ 3)
   have K2 := hide hz3
   clear hz3
   by_cases hlt : k < L
   case pos =>
    have h3 : k = 6 := by omega
    subst h3
    have q1 : (6 : Int) < (L : Int) := by omega
    clear hgo hz hk0 hk1
    have N9 := H5.num
    have o5 := id H5.box
    clear H6
    obtain ⟨Wz, hWz⟩ : ∃ W, (wr.setCell ⟨w.heap.size, 0, none⟩ (.bool s)).setCell ⟨w.heap.size, 1, none⟩ (.slice a n c) = W := ⟨_, rfl⟩
    have hQ := bR.set (.bool s) (.slice a n c)
    have hBz := below_set2 hB (B := w.heap.size) (by omega) (.bool s) (.slice a n c)
    have N9 := N9.put bR (.bool s) (.slice a n c)
    rw [hWz] at hQ hBz N9
    have K := hide (And.intro hQ (And.intro N9 hBz))
    have HWz := hide hWz
    clear hQ hBz hWz N9
    obtain ⟨x90, x91, z90, z91⟩ := id bR
    obtain ⟨x10, x11, -, -⟩ := id o5
    go_wp2
    obtain ⟨⟨q0, q1, -, -⟩, P1, hBB⟩ := K.out
    rw [HWz.out]
    exact bodyPost_ret (v := .agg #[.bool s, .slice a n c]) (by simp [results, Tryz.results80, go_sem, q0, q1]) rfl ⟨_, _, _, _, _, rfl, P1, K2.out, hn, hnc, hBB⟩
   case neg =>
    have q1 : decide ((k : Int) < (L : Int)) = false := decide_eq_false (by omega)
    clear hgo hz hk0 hk1
    have N9 := H5.num
    have o5 := id H5.box
    clear H6
    obtain ⟨Wz, hWz⟩ : ∃ W, (wr.setCell ⟨w.heap.size, 0, none⟩ (.bool s)).setCell ⟨w.heap.size, 1, none⟩ (.slice a n c) = W := ⟨_, rfl⟩
    have hQ := bR.set (.bool s) (.slice a n c)
    have hBz := below_set2 hB (B := w.heap.size) (by omega) (.bool s) (.slice a n c)
    have N9 := N9.put bR (.bool s) (.slice a n c)
    rw [hWz] at hQ hBz N9
    have K := hide (And.intro hQ (And.intro N9 hBz))
    have HWz := hide hWz
    clear hQ hBz hWz N9
    obtain ⟨x90, x91, z90, z91⟩ := id bR
    obtain ⟨x10, x11, -, -⟩ := id o5
    go_wp2
    obtain ⟨⟨q0, q1, -, -⟩, P1, hBB⟩ := K.out
    rw [HWz.out]
    exact bodyPost_ret (v := .agg #[.bool s, .slice a n c]) (by simp [results, Tryz.results80, go_sem, q0, q1]) rfl ⟨_, _, _, _, _, rfl, P1, K2.out, hn, hnc, hBB⟩
end Go.Proofs.YtgenaicmjddjcaaGreatDoor
