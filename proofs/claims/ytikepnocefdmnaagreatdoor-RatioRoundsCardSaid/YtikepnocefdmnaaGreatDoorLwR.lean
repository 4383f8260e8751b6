/- the law RatioRounds: it is true. -/
import Derived.Test.YtikepnocefdmnaaGreatDoorLwS
import Derived.Test.YtikepnocefdmnaaGreatDoorLwM
namespace Go.Proofs.YtikepnocefdmnaaGreatDoor
open Go.RowKit Go.Shelf

theorem Ints.mono {w : World} {a : Option Addr} {L m : Nat} {g : Nat → Int} (h : Ints w a L g) (hm : m ≤ L) : Ints w a m g := by
 rcases h with h | ⟨b, off, e, hc⟩
 · exact .inl (by omega)
 · exact .inr ⟨b, off, e, fun j hj => hc j (by omega)⟩
set_option maxRecDepth 100000 in
set_option maxHeartbeats 32000000 in
theorem rrounds_some (ad : Addr) (L0 d0 : Nat) (g0 : Nat → Int) (hc : L0 ≤ d0) (hL0 : L0 ≤ 9223372036854775807) (w : World) (ht : Pow10 w) (hsy : Syn w) (h0 : Ints w (some ad) L0 g0) :
 Calls Tryz.prog 7 #[.slice (some ad) L0 d0] w fun e w' => e = .returned (.bool true) ∧ Below w.heap.size w w' := by
 obtain ⟨m, hm2, hmL, hmin⟩ : ∃ m : Nat, m ≤ 2 ∧ m ≤ L0 ∧ min (L0 : Int) 2 = (m : Int) := ⟨min L0 2, by omega, by omega, by omega⟩
 have hmd : (m : Int) ≤ (d0 : Int) := by omega
 have h0 : Ints w (some ad) m g0 := h0.mono hmL
 go_enter Tryz.func7, Tryz.ntmps7
 have hB := Below.refl w.heap.size w
 go_wp2_with fail
 have cc := sanity3_true w ht hsy
 refine cc.mono ?_
 rintro e w1 ⟨rfl, hk⟩
 have hB := hB.trans (hk.mono hB.size)
 clear hk
 clear cc
 go_wp2_with fail
 have cc := made_small (some ad) m d0 g0 hm2 w1 (h0.below hB)
 refine cc.mono ?_
 rintro e w2 ⟨x, hs, s19, a19, n19, c19, t19, b19, m19, d19, rfl, P1, P2, k1, k2, hk⟩
 have hB := hB.trans (hk.mono hB.size)
 clear hk
 clear cc
 have R19 := rarg_of (some x) P1 P2 k1 k2
 clear P1 P2 k1 k2
 obtain ⟨Z19, hZ19⟩ : ∃ Z, w2.alloc (Obj.cells #[.bool false, .slice none 0 0, .bool false, .slice none 0 0] 27) = Z := ⟨_, rfl⟩
 obtain ⟨W19, hW19⟩ : ∃ W, (((Z19.setCell ⟨w2.heap.size, 0, none⟩ (.bool s19)).setCell ⟨w2.heap.size, 1, none⟩ (.slice a19 n19 c19)).setCell ⟨w2.heap.size, 2, none⟩ (.bool t19)).setCell ⟨w2.heap.size, 3, none⟩ (.slice b19 m19 d19) = W := ⟨_, rfl⟩
 obtain ⟨H4, hk, bx19⟩ := rat_new (c1 := c19) (c2 := d19) hZ19 hW19 R19
 obtain ⟨B4, hB19⟩ : ∃ B, w2.heap.size = B := ⟨_, rfl⟩
 have l4 : w.heap.size ≤ B4 := by rw [← hB19]; exact hB.size
 have hB := hB.trans (hk.mono hB.size)
 have R19 := R19.below hk
 clear hk
 rw [hB19] at hW19 H4 bx19
 clear R19
 have f0 := hs.f0
 have f1 := hs.f1
 have c0 := hs.c0
 have c1 := hs.c1
 have HFl := hide hs.floor
 have HCe := hide hs.ceil
 have HFm := hide hs.neg
 have HSub : Hid (subRO (some ((0 : Int) : Rat)) (some x) = some (-x)) := hs.sub
 have k1 : cmpRO (some (x.floor : Rat)) (some x) ≤ 0 := cmpR_floor x
 have k2 : cmpRO (some x) (some ((x.floor + 1 : Int) : Rat)) < 0 := cmpR_floor1 x
 have k3 : cmpRO (some ((x.ceil - 1 : Int) : Rat)) (some x) < 0 := cmpR_ceil1 x
 have k4 : cmpRO (some x) (some (x.ceil : Rat)) ≤ 0 := cmpR_ceil x
 have k5 : x.floor = x.ceil ↔ cmpRO (some x) (some (x.floor : Rat)) = 0 := whole_iff x
 clear hs
 obtain ⟨f, hf⟩ : ∃ f, x.floor = f := ⟨_, rfl⟩
 obtain ⟨c, hc⟩ : ∃ c, x.ceil = c := ⟨_, rfl⟩
 rw [hf] at f0 f1 HFl k1 k2 k5
 rw [hc] at c0 c1 HCe HFm k3 k4 k5
 clear hf hc
 obtain ⟨o1, ho⟩ : ∃ o, cmpRO (some (f : Rat)) (some x) = o := ⟨_, rfl⟩
 rw [ho] at k1
 have K1 := hide ho
 clear ho
 obtain ⟨o2, ho⟩ : ∃ o, cmpRO (some x) (some ((f + 1 : Int) : Rat)) = o := ⟨_, rfl⟩
 rw [ho] at k2
 have K2 := hide ho
 clear ho
 obtain ⟨o3, ho⟩ : ∃ o, cmpRO (some ((c - 1 : Int) : Rat)) (some x) = o := ⟨_, rfl⟩
 rw [ho] at k3
 have K3 := hide ho
 clear ho
 obtain ⟨o4, ho⟩ : ∃ o, cmpRO (some x) (some (c : Rat)) = o := ⟨_, rfl⟩
 rw [ho] at k4
 have K4 := hide ho
 clear ho
 obtain ⟨o5, ho⟩ : ∃ o, cmpRO (some x) (some (f : Rat)) = o := ⟨_, rfl⟩
 rw [ho] at k5
 have K5 := hide ho
 clear ho
 have g1 : decide (0 < o1) = false := decide_eq_false (by omega)
 have g2 : decide (0 ≤ o2) = false := decide_eq_false (by omega)
 have g3 : decide (0 ≤ o3) = false := decide_eq_false (by omega)
 have g4 : decide (0 < o4) = false := decide_eq_false (by omega)
 obtain ⟨bb, hbb⟩ : ∃ b, (f == c) = b := ⟨_, rfl⟩
 have hb5 : (o5 == 0) = bb := by
  rw [← hbb]
  by_cases h : f = c
  · have h5 := k5.1 h
    subst h; subst h5; simp
  · have h5 : ¬ o5 = 0 := fun e => h (k5.2 e)
    rw [beq_eq_false_iff_ne.2 h, beq_eq_false_iff_ne.2 h5]
 have t1 : decide (f < -50) = false := decide_eq_false (by omega)
 have t2 : decide (50 < f) = false := decide_eq_false (by omega)
 have t3 : decide (c < -50) = false := decide_eq_false (by omega)
 have t4 : decide (50 < c) = false := decide_eq_false (by omega)
 have w1 : IntKind.i64.wrap (f + 1) = f + 1 := by simp only [IntKind.wrap, IntKind.bits, IntKind.signed]; simp; omega
 have w2 : IntKind.i64.wrap (c - 1) = c - 1 := by simp only [IntKind.wrap, IntKind.bits, IntKind.signed]; simp; omega
 have w4 : IntKind.i64.wrap c = c := by simp only [IntKind.wrap, IntKind.bits, IntKind.signed]; simp; omega
 have w3 : IntKind.i64.wrap (- -c) = c := by simp only [IntKind.wrap, IntKind.bits, IntKind.signed]; simp; omega
 clear k1 k2 k3 k4 k5
 obtain ⟨⟨y0, y1, y2, y3⟩, yz0, yz1, yz2, yz3⟩ := id bx19
 obtain ⟨⟨x10, x11, x12, x13⟩, xz10, xz11, xz12, xz13⟩ := id H4.box
 go_wp2_with fail
 try rw [hW19]
 try rw [hB19]
 clear hW19 hB19
 clear y0 y1 y2 y3 yz0 yz1 yz2 yz3 x10 x11 x12 x13 xz10 xz11 xz12 xz13
 have cc := floor_r s19 t19 a19 b19 n19 m19 c19 d19 (some x) W19 H4.arg
 rw [HFl.out] at cc
 refine cc.mono ?_
 rintro e w3 ⟨rfl, hk⟩
 have hB := hB.trans (hk.mono hB.size)
 have H4 := H4.below hk
 clear hk
 clear cc
 obtain ⟨⟨x00, x01, x02, x03⟩, xz00, xz01, xz02, xz03⟩ := id H4.box
 go_wp2_with fail
 clear x00 x01 x02 x03 xz00 xz01 xz02 xz03
 have cc := ceil_r s19 t19 a19 b19 n19 m19 c19 d19 (some x) w3 H4.arg
 rw [HCe.out] at cc
 refine cc.mono ?_
 rintro e w4 ⟨rfl, hk⟩
 have hB := hB.trans (hk.mono hB.size)
 have H4 := H4.below hk
 clear hk
 clear cc
 go_wp2_with fail
 obtain ⟨S7, hS7⟩ : ∃ b, w4.drew.heap.size = b := ⟨_, rfl⟩
 have lS : S7 ≤ w4.drew.heap.size := by omega
 have l4E : B4 < S7 := by rw [← hS7]; exact H4.box.lt
 clear hS7
 have hB := hB.drew
 have H4 := H4.below (Below.drew (Below.refl w4.heap.size w4))
 refine wp_region_held_drew (S := fun w' => Below (S7) w4.drew w') (by kernel_rfl) (Below.refl _ _) (fun hHeld => ?_)
 obtain ⟨E7, hWE⟩ : ∃ W, w4.drew = W := ⟨_, rfl⟩
 rw [hWE] at hB H4 hHeld lS ⊢
 clear hWE
 have hE := Below.refl E7.heap.size E7
 have hS : Below S7 E7 E7 := Below.refl _ _
 obtain ⟨⟨x4_0, x4_1, x4_2, x4_3⟩, -, -, -, -⟩ := id H4.box
 refine tk 0 (.int .i64 f) 52 rfl rfl ?_
 simp only [Act.put, pA, pB, pC]
 refine tk 2 (.agg #[.bool s19, .slice a19 n19 c19, .bool t19, .slice b19 m19 d19]) 54 rfl rfl ?_ (Or.inl ⟨by rfl, fun w' hSw => by have z0 := (hSw.cell (p := ⟨B4, 0, none⟩) l4E).trans x4_0; have z1 := (hSw.cell (p := ⟨B4, 1, none⟩) l4E).trans x4_1; have z2 := (hSw.cell (p := ⟨B4, 2, none⟩) l4E).trans x4_2; have z3 := (hSw.cell (p := ⟨B4, 3, none⟩) l4E).trans x4_3; go_simp⟩)
 simp only [Act.put, pA, pB, pC]
 refine wpAnyH_one 1 (by kernel_rfl) ?_
 have cc := int_r (f) (by omega) (by omega) E7
 refine wpOp_call (i := 1) (f := 28) (args := #[.int .i64 f]) 53 rfl rfl (by rfl) (by go_simp) ?_
 refine (cc).mono ?_
 rintro e r1 ⟨s53, a53, n53, c53, t53, b53, m53, d53, rfl, P1, P2, k1, k2, hk⟩
 clear cc
 have hE := hE.trans (hk.mono hE.size)
 have H4 := H4.below hk
 have R53 := rarg_of (some ((f : Int) : Rat)) P1 P2 k1 k2
 clear P1 P2 k1 k2
 have hS : Below S7 E7 r1 := hE.mono lS
 refine ⟨_, rfl, hS, ?_⟩
 simp only [Act.put, pA, pB, pC]
 refine wpAnyH_one 3 (by kernel_rfl) ?_
 have cc := cmp_r s53 t53 s19 t19 a53 b53 a19 b19 n53 m53 n19 m19 c53 d53 c19 d19 (some ((f : Int) : Rat)) (some x) r1 R53 H4.arg
 rw [K1.out] at cc
 refine wpOp_call (i := 3) (f := 37) (args := #[.agg #[.bool s53, .slice a53 n53 c53, .bool t53, .slice b53 m53 d53], .agg #[.bool s19, .slice a19 n19 c19, .bool t19, .slice b19 m19 d19]]) 55 rfl rfl (by rfl) (by go_simp) ?_
 refine (cc).mono ?_
 rintro e r2 ⟨rfl, hk⟩
 clear cc
 have hE := hE.trans (hk.mono hE.size)
 have H4 := H4.below hk
 have R53 := R53.below hk
 have hS : Below S7 E7 r2 := hE.mono lS
 refine ⟨_, rfl, hS, ?_⟩
 simp only [Act.put, pA, pB, pC]
 refine tk 4 (.bool false) 56 rfl rfl ?_
 simp only [Act.put, pA, pB, pC]
 refine tk 5 (.bool false) 57 rfl rfl ?_
 simp only [Act.put, pA, pB, pC]
 refine tk 6 (.agg #[.bool s19, .slice a19 n19 c19, .bool t19, .slice b19 m19 d19]) 58 rfl rfl ?_ (Or.inl ⟨by rfl, fun w' hSw => by have z0 := (hSw.cell (p := ⟨B4, 0, none⟩) l4E).trans x4_0; have z1 := (hSw.cell (p := ⟨B4, 1, none⟩) l4E).trans x4_1; have z2 := (hSw.cell (p := ⟨B4, 2, none⟩) l4E).trans x4_2; have z3 := (hSw.cell (p := ⟨B4, 3, none⟩) l4E).trans x4_3; go_simp⟩)
 simp only [Act.put, pA, pB, pC]
 refine tk 7 (.int .i64 f) 59 rfl rfl ?_
 simp only [Act.put, pA, pB, pC]
 refine tk 8 (.int .i64 (f + 1)) 60 rfl rfl ?_
 simp only [Act.put, pA, pB, pC]
 refine wpAnyH_one 9 (by kernel_rfl) ?_
 have cc := int_r ((f + 1)) (by omega) (by omega) r2
 refine wpOp_call (i := 9) (f := 28) (args := #[.int .i64 (f + 1)]) 61 rfl rfl (by rfl) (by go_simp) ?_
 refine (cc).mono ?_
 rintro e r3 ⟨s61, a61, n61, c61, t61, b61, m61, d61, rfl, P1, P2, k1, k2, hk⟩
 clear cc
 have hE := hE.trans (hk.mono hE.size)
 have H4 := H4.below hk
 have R53 := R53.below hk
 have R61 := rarg_of (some (((f + 1) : Int) : Rat)) P1 P2 k1 k2
 clear P1 P2 k1 k2
 have hS : Below S7 E7 r3 := hE.mono lS
 refine ⟨_, rfl, hS, ?_⟩
 simp only [Act.put, pA, pB, pC]
 refine wpAnyH_one 10 (by kernel_rfl) ?_
 have cc := cmp_r s19 t19 s61 t61 a19 b19 a61 b61 n19 m19 n61 m61 c19 d19 c61 d61 (some x) (some (((f + 1) : Int) : Rat)) r3 H4.arg R61
 rw [K2.out] at cc
 refine wpOp_call (i := 10) (f := 37) (args := #[.agg #[.bool s19, .slice a19 n19 c19, .bool t19, .slice b19 m19 d19], .agg #[.bool s61, .slice a61 n61 c61, .bool t61, .slice b61 m61 d61]]) 62 rfl rfl (by rfl) (by go_simp) ?_
 refine (cc).mono ?_
 rintro e r4 ⟨rfl, hk⟩
 clear cc
 have hE := hE.trans (hk.mono hE.size)
 have H4 := H4.below hk
 have R53 := R53.below hk
 have R61 := R61.below hk
 have hS : Below S7 E7 r4 := hE.mono lS
 refine ⟨_, rfl, hS, ?_⟩
 simp only [Act.put, pA, pB, pC]
 refine tk 11 (.bool false) 63 rfl rfl ?_
 simp only [Act.put, pA, pB, pC]
 refine tk 12 (.bool false) 64 rfl rfl ?_
 simp only [Act.put, pA, pB, pC]
 refine tk 13 (.bool false) 65 rfl rfl ?_
 simp only [Act.put, pA, pB, pC]
 refine tk 14 (.int .i64 c) 66 rfl rfl ?_
 simp only [Act.put, pA, pB, pC]
 refine tk 15 (.int .i64 (c - 1)) 67 rfl rfl ?_
 simp only [Act.put, pA, pB, pC]
 refine tk 17 (.agg #[.bool s19, .slice a19 n19 c19, .bool t19, .slice b19 m19 d19]) 69 rfl rfl ?_ (Or.inl ⟨by rfl, fun w' hSw => by have z0 := (hSw.cell (p := ⟨B4, 0, none⟩) l4E).trans x4_0; have z1 := (hSw.cell (p := ⟨B4, 1, none⟩) l4E).trans x4_1; have z2 := (hSw.cell (p := ⟨B4, 2, none⟩) l4E).trans x4_2; have z3 := (hSw.cell (p := ⟨B4, 3, none⟩) l4E).trans x4_3; go_simp⟩)
 simp only [Act.put, pA, pB, pC]
 refine wpAnyH_one 16 (by kernel_rfl) ?_
 have cc := int_r ((c - 1)) (by omega) (by omega) r4
 refine wpOp_call (i := 16) (f := 28) (args := #[.int .i64 (c - 1)]) 68 rfl rfl (by rfl) (by go_simp) ?_
 refine (cc).mono ?_
 rintro e r5 ⟨s68, a68, n68, c68, t68, b68, m68, d68, rfl, P1, P2, k1, k2, hk⟩
 clear cc
 have hE := hE.trans (hk.mono hE.size)
 have H4 := H4.below hk
 have R53 := R53.below hk
 have R61 := R61.below hk
 have R68 := rarg_of (some (((c - 1) : Int) : Rat)) P1 P2 k1 k2
 clear P1 P2 k1 k2
 have hS : Below S7 E7 r5 := hE.mono lS
 refine ⟨_, rfl, hS, ?_⟩
 simp only [Act.put, pA, pB, pC]
 refine wpAnyH_one 18 (by kernel_rfl) ?_
 have cc := cmp_r s68 t68 s19 t19 a68 b68 a19 b19 n68 m68 n19 m19 c68 d68 c19 d19 (some (((c - 1) : Int) : Rat)) (some x) r5 R68 H4.arg
 rw [K3.out] at cc
 refine wpOp_call (i := 18) (f := 37) (args := #[.agg #[.bool s68, .slice a68 n68 c68, .bool t68, .slice b68 m68 d68], .agg #[.bool s19, .slice a19 n19 c19, .bool t19, .slice b19 m19 d19]]) 70 rfl rfl (by rfl) (by go_simp) ?_
 refine (cc).mono ?_
 rintro e r6 ⟨rfl, hk⟩
 clear cc
 have hE := hE.trans (hk.mono hE.size)
 have H4 := H4.below hk
 have R53 := R53.below hk
 have R61 := R61.below hk
 have R68 := R68.below hk
 have hS : Below S7 E7 r6 := hE.mono lS
 refine ⟨_, rfl, hS, ?_⟩
 simp only [Act.put, pA, pB, pC]
 refine tk 19 (.bool false) 71 rfl rfl ?_
 simp only [Act.put, pA, pB, pC]
 refine tk 20 (.bool false) 72 rfl rfl ?_
 simp only [Act.put, pA, pB, pC]
 refine tk 21 (.bool false) 73 rfl rfl ?_
 simp only [Act.put, pA, pB, pC]
 refine tk 22 (.agg #[.bool s19, .slice a19 n19 c19, .bool t19, .slice b19 m19 d19]) 74 rfl rfl ?_ (Or.inl ⟨by rfl, fun w' hSw => by have z0 := (hSw.cell (p := ⟨B4, 0, none⟩) l4E).trans x4_0; have z1 := (hSw.cell (p := ⟨B4, 1, none⟩) l4E).trans x4_1; have z2 := (hSw.cell (p := ⟨B4, 2, none⟩) l4E).trans x4_2; have z3 := (hSw.cell (p := ⟨B4, 3, none⟩) l4E).trans x4_3; go_simp⟩)
 simp only [Act.put, pA, pB, pC]
 refine tk 23 (.int .i64 c) 75 rfl rfl ?_
 simp only [Act.put, pA, pB, pC]
 refine wpAnyH_one 24 (by kernel_rfl) ?_
 have cc := int_r (c) (by omega) (by omega) r6
 refine wpOp_call (i := 24) (f := 28) (args := #[.int .i64 c]) 76 rfl rfl (by rfl) (by go_simp) ?_
 refine (cc).mono ?_
 rintro e r7 ⟨s76, a76, n76, c76, t76, b76, m76, d76, rfl, P1, P2, k1, k2, hk⟩
 clear cc
 have hE := hE.trans (hk.mono hE.size)
 have H4 := H4.below hk
 have R53 := R53.below hk
 have R61 := R61.below hk
 have R68 := R68.below hk
 have R76 := rarg_of (some ((c : Int) : Rat)) P1 P2 k1 k2
 clear P1 P2 k1 k2
 have hS : Below S7 E7 r7 := hE.mono lS
 refine ⟨_, rfl, hS, ?_⟩
 simp only [Act.put, pA, pB, pC]
 refine wpAnyH_one 25 (by kernel_rfl) ?_
 have cc := cmp_r s19 t19 s76 t76 a19 b19 a76 b76 n19 m19 n76 m76 c19 d19 c76 d76 (some x) (some ((c : Int) : Rat)) r7 H4.arg R76
 rw [K4.out] at cc
 refine wpOp_call (i := 25) (f := 37) (args := #[.agg #[.bool s19, .slice a19 n19 c19, .bool t19, .slice b19 m19 d19], .agg #[.bool s76, .slice a76 n76 c76, .bool t76, .slice b76 m76 d76]]) 77 rfl rfl (by rfl) (by go_simp) ?_
 refine (cc).mono ?_
 rintro e r8 ⟨rfl, hk⟩
 clear cc
 have hE := hE.trans (hk.mono hE.size)
 have H4 := H4.below hk
 have R53 := R53.below hk
 have R61 := R61.below hk
 have R68 := R68.below hk
 have R76 := R76.below hk
 have hS : Below S7 E7 r8 := hE.mono lS
 refine ⟨_, rfl, hS, ?_⟩
 simp only [Act.put, pA, pB, pC]
 refine tk 26 (.bool false) 78 rfl rfl ?_
 simp only [Act.put, pA, pB, pC]
 refine tk 27 (.bool false) 79 rfl rfl ?_
 simp only [Act.put, pA, pB, pC]
 refine wpAnyH_done (by kernel_rfl) ?_ _
 have hB := hB.trans (hE.mono hB.size)
 clear x4_0 x4_1 x4_2 x4_3
 clear R53 R61 R68 R76
 go_wp2_with fail
 obtain ⟨S9, hS9⟩ : ∃ b, r8.drew.heap.size = b := ⟨_, rfl⟩
 have lS : S9 ≤ r8.drew.heap.size := by omega
 have l4E : B4 < S9 := by rw [← hS9]; exact H4.box.lt
 clear hS9
 have hB := hB.drew
 have H4 := H4.below (Below.drew (Below.refl r8.heap.size r8))
 refine wp_region_held_drew (S := fun w' => Below (S9) r8.drew w') (by kernel_rfl) (Below.refl _ _) (fun hHeld => ?_)
 obtain ⟨E9, hWE⟩ : ∃ W, r8.drew = W := ⟨_, rfl⟩
 rw [hWE] at hB H4 hHeld lS ⊢
 clear hWE
 have hE := Below.refl E9.heap.size E9
 have hS : Below S9 E9 E9 := Below.refl _ _
 obtain ⟨⟨x4_0, x4_1, x4_2, x4_3⟩, -, -, -, -⟩ := id H4.box
 refine tk 1 (.agg #[.bool s19, .slice a19 n19 c19, .bool t19, .slice b19 m19 d19]) 82 rfl rfl ?_ (Or.inl ⟨by rfl, fun w' hSw => by have z0 := (hSw.cell (p := ⟨B4, 0, none⟩) l4E).trans x4_0; have z1 := (hSw.cell (p := ⟨B4, 1, none⟩) l4E).trans x4_1; have z2 := (hSw.cell (p := ⟨B4, 2, none⟩) l4E).trans x4_2; have z3 := (hSw.cell (p := ⟨B4, 3, none⟩) l4E).trans x4_3; go_simp⟩)
 simp only [Act.put, pA, pB, pC]
 refine wpAnyH_twoR 0 6 (by kernel_rfl) ?g1 ?g2
 case' g1 =>
  have cc := int_r (0) (by omega) (by omega) E9
  refine wpOp_call (i := 0) (f := 28) (args := #[.int .i64 0]) 81 rfl rfl (by rfl) (by go_simp) ?_
  refine (cc).mono ?_
  rintro e r1 ⟨s81, a81, n81, c81, t81, b81, m81, d81, rfl, P1, P2, k1, k2, hk⟩
  clear cc
  have hE := hE.trans (hk.mono hE.size)
  have H4 := H4.below hk
  have R81 := rarg_of (some ((0 : Int) : Rat)) P1 P2 k1 k2
  clear P1 P2 k1 k2
  have hS : Below S9 E9 r1 := hE.mono lS
  refine ⟨_, rfl, hS, ?_⟩
  simp only [Act.put, pA, pB, pC]
  refine wpAnyH_twoR 2 6 (by kernel_rfl) ?g3 ?g4
  case' g3 =>
   have cc := sub_r s81 t81 s19 t19 a81 b81 a19 b19 n81 m81 n19 m19 c81 d81 c19 d19 (some ((0 : Int) : Rat)) (some x) r1 R81 H4.arg
   rw [HSub.out] at cc
   refine wpOp_call (i := 2) (f := 31) (args := #[.agg #[.bool s81, .slice a81 n81 c81, .bool t81, .slice b81 m81 d81], .agg #[.bool s19, .slice a19 n19 c19, .bool t19, .slice b19 m19 d19]]) 83 rfl rfl (by rfl) (by go_simp) ?_
   refine (cc).mono ?_
   rintro e r2 ⟨s83, a83, n83, c83, t83, b83, m83, d83, rfl, P1, P2, k1, k2, hk⟩
   clear cc
   have hE := hE.trans (hk.mono hE.size)
   have H4 := H4.below hk
   have R81 := R81.below hk
   have R83 := rarg_of (some (-x)) P1 P2 k1 k2
   clear P1 P2 k1 k2
   have hS : Below S9 E9 r2 := hE.mono lS
   refine ⟨_, rfl, hS, ?_⟩
   simp only [Act.put, pA, pB, pC]
   refine tk 3 (.tuple #[.agg #[.bool s83, .slice a83 n83 c83, .bool t83, .slice b83 m83 d83], .bool true]) 80 rfl rfl ?_
   simp only [Act.put, pA, pB, pC]
   refine tk 4 (.agg #[.bool s83, .slice a83 n83 c83, .bool t83, .slice b83 m83 d83]) 84 rfl rfl ?_
   simp only [Act.put, pA, pB, pC]
   refine tk 5 (.bool true) 85 rfl rfl ?_
   simp only [Act.put, pA, pB, pC]
   refine wpAnyH_one 6 (by kernel_rfl) ?_
   refine wpOp_run (i := 6) rfl ?_
   go_simp
   have q9 := Quad.new r2 (.bool false) (.slice none 0 0) (.bool false) (.slice none 0 0) 27
   have hk := below_alloc' r2 (Obj.cells #[.bool false, .slice none 0 0, .bool false, .slice none 0 0] 27)
   obtain ⟨r3, hw⟩ : ∃ W, r2.alloc (Obj.cells #[.bool false, .slice none 0 0, .bool false, .slice none 0 0] 27) = W := ⟨_, rfl⟩
   obtain ⟨bq9, hbb⟩ : ∃ b, r2.heap.size = b := ⟨_, rfl⟩
   have gq9 : E9.heap.size ≤ bq9 := by rw [← hbb]; exact hE.size
   rw [hw] at hk q9 ⊢
   have hE := hE.trans (hk.mono hE.size)
   have H4 := H4.below hk
   have R81 := R81.below hk
   have R83 := R83.below hk
   rw [hbb] at q9 ⊢
   clear hw hbb hk
   have hS : Below S9 E9 r3 := hE.mono lS
   refine ⟨hS, ?_⟩
   refine wpAnyH_one 7 (by kernel_rfl) ?_
   obtain ⟨Wz, hWz⟩ : ∃ W, (((r3.setCell ⟨bq9, 0, none⟩ (.bool s83)).setCell ⟨bq9, 1, none⟩ (.slice a83 n83 c83)).setCell ⟨bq9, 2, none⟩ (.bool t83)).setCell ⟨bq9, 3, none⟩ (.slice b83 m83 d83) = W := ⟨_, rfl⟩
   obtain ⟨hQ, hT⟩ := q9.set _ _ _ _ hWz
   have H9 : HeldR Wz bq9 s83 a83 n83 c83 t83 b83 m83 d83 (some (-x)) := ⟨hQ, R83.quad q9.four hT⟩
   have R81 := R81.quad q9.four hT
   have H4 := H4.touch q9.four hT (Nat.ne_of_lt (Nat.lt_of_lt_of_le l4E (Nat.le_trans lS gq9)))
   have hE : Below E9.heap.size E9 Wz := by rw [← hWz]; exact below_set4 hE gq9 _ _ _ _
   have l9 : w.heap.size ≤ bq9 := Nat.le_trans hB.size gq9
   have hS := hE.mono lS
   obtain ⟨⟨y0, y1, y2, y3⟩, yz0, yz1, yz2, yz3⟩ := id q9
   refine wpOp_run (i := 7) rfl ?_
   go_simp
   try rw [hWz]
   try refine ⟨hS, ?_⟩
   clear y0 y1 y2 y3 yz0 yz1 yz2 yz3 hWz hQ hT q9
   refine tk 8 (.bool true) 10 rfl rfl ?_
   simp only [Act.put, pA, pB, pC]
   refine wpAnyH_done (by kernel_rfl) ?_ _
  case' g4 =>
   refine wpOp_run (i := 6) rfl ?_
   go_simp
   have q9 := Quad.new r1 (.bool false) (.slice none 0 0) (.bool false) (.slice none 0 0) 27
   have hk := below_alloc' r1 (Obj.cells #[.bool false, .slice none 0 0, .bool false, .slice none 0 0] 27)
   obtain ⟨r4, hw⟩ : ∃ W, r1.alloc (Obj.cells #[.bool false, .slice none 0 0, .bool false, .slice none 0 0] 27) = W := ⟨_, rfl⟩
   obtain ⟨bq9, hbb⟩ : ∃ b, r1.heap.size = b := ⟨_, rfl⟩
   have gq9 : E9.heap.size ≤ bq9 := by rw [← hbb]; exact hE.size
   rw [hw] at hk q9 ⊢
   have hE := hE.trans (hk.mono hE.size)
   have H4 := H4.below hk
   have R81 := R81.below hk
   rw [hbb] at q9 ⊢
   clear hw hbb hk
   have hS : Below S9 E9 r4 := hE.mono lS
   refine ⟨hS, ?_⟩
   refine wpAnyH_one 2 (by kernel_rfl) ?_
   have cc := sub_r s81 t81 s19 t19 a81 b81 a19 b19 n81 m81 n19 m19 c81 d81 c19 d19 (some ((0 : Int) : Rat)) (some x) r4 R81 H4.arg
   rw [HSub.out] at cc
   refine wpOp_call (i := 2) (f := 31) (args := #[.agg #[.bool s81, .slice a81 n81 c81, .bool t81, .slice b81 m81 d81], .agg #[.bool s19, .slice a19 n19 c19, .bool t19, .slice b19 m19 d19]]) 83 rfl rfl (by rfl) (by go_simp) ?_
   refine (cc).mono ?_
   rintro e r5 ⟨s83, a83, n83, c83, t83, b83, m83, d83, rfl, P1, P2, k1, k2, hk⟩
   clear cc
   have hE := hE.trans (hk.mono hE.size)
   have H4 := H4.below hk
   have R81 := R81.below hk
   have q9 := q9.below hk
   have R83 := rarg_of (some (-x)) P1 P2 k1 k2
   clear P1 P2 k1 k2
   have hS : Below S9 E9 r5 := hE.mono lS
   refine ⟨_, rfl, hS, ?_⟩
   simp only [Act.put, pA, pB, pC]
   refine tk 3 (.tuple #[.agg #[.bool s83, .slice a83 n83 c83, .bool t83, .slice b83 m83 d83], .bool true]) 80 rfl rfl ?_
   simp only [Act.put, pA, pB, pC]
   refine tk 4 (.agg #[.bool s83, .slice a83 n83 c83, .bool t83, .slice b83 m83 d83]) 84 rfl rfl ?_
   simp only [Act.put, pA, pB, pC]
   refine tk 5 (.bool true) 85 rfl rfl ?_
   simp only [Act.put, pA, pB, pC]
   refine wpAnyH_one 7 (by kernel_rfl) ?_
   obtain ⟨Wz, hWz⟩ : ∃ W, (((r5.setCell ⟨bq9, 0, none⟩ (.bool s83)).setCell ⟨bq9, 1, none⟩ (.slice a83 n83 c83)).setCell ⟨bq9, 2, none⟩ (.bool t83)).setCell ⟨bq9, 3, none⟩ (.slice b83 m83 d83) = W := ⟨_, rfl⟩
   obtain ⟨hQ, hT⟩ := q9.set _ _ _ _ hWz
   have H9 : HeldR Wz bq9 s83 a83 n83 c83 t83 b83 m83 d83 (some (-x)) := ⟨hQ, R83.quad q9.four hT⟩
   have R81 := R81.quad q9.four hT
   have H4 := H4.touch q9.four hT (Nat.ne_of_lt (Nat.lt_of_lt_of_le l4E (Nat.le_trans lS gq9)))
   have hE : Below E9.heap.size E9 Wz := by rw [← hWz]; exact below_set4 hE gq9 _ _ _ _
   have l9 : w.heap.size ≤ bq9 := Nat.le_trans hB.size gq9
   have hS := hE.mono lS
   obtain ⟨⟨y0, y1, y2, y3⟩, yz0, yz1, yz2, yz3⟩ := id q9
   refine wpOp_run (i := 7) rfl ?_
   go_simp
   try rw [hWz]
   try refine ⟨hS, ?_⟩
   clear y0 y1 y2 y3 yz0 yz1 yz2 yz3 hWz hQ hT q9
   refine tk 8 (.bool true) 10 rfl rfl ?_
   simp only [Act.put, pA, pB, pC]
   refine wpAnyH_done (by kernel_rfl) ?_ _
 case' g2 =>
  refine wpOp_run (i := 6) rfl ?_
  go_simp
  have q9 := Quad.new E9 (.bool false) (.slice none 0 0) (.bool false) (.slice none 0 0) 27
  have hk := below_alloc' E9 (Obj.cells #[.bool false, .slice none 0 0, .bool false, .slice none 0 0] 27)
  obtain ⟨r6, hw⟩ : ∃ W, E9.alloc (Obj.cells #[.bool false, .slice none 0 0, .bool false, .slice none 0 0] 27) = W := ⟨_, rfl⟩
  obtain ⟨bq9, hbb⟩ : ∃ b, E9.heap.size = b := ⟨_, rfl⟩
  have gq9 : E9.heap.size ≤ bq9 := by rw [← hbb]; exact hE.size
  rw [hw] at hk q9 ⊢
  have hE := hE.trans (hk.mono hE.size)
  have H4 := H4.below hk
  rw [hbb] at q9 ⊢
  clear hw hbb hk
  have hS : Below S9 E9 r6 := hE.mono lS
  refine ⟨hS, ?_⟩
  refine wpAnyH_one 0 (by kernel_rfl) ?_
  have cc := int_r (0) (by omega) (by omega) r6
  refine wpOp_call (i := 0) (f := 28) (args := #[.int .i64 0]) 81 rfl rfl (by rfl) (by go_simp) ?_
  refine (cc).mono ?_
  rintro e r7 ⟨s81, a81, n81, c81, t81, b81, m81, d81, rfl, P1, P2, k1, k2, hk⟩
  clear cc
  have hE := hE.trans (hk.mono hE.size)
  have H4 := H4.below hk
  have q9 := q9.below hk
  have R81 := rarg_of (some ((0 : Int) : Rat)) P1 P2 k1 k2
  clear P1 P2 k1 k2
  have hS : Below S9 E9 r7 := hE.mono lS
  refine ⟨_, rfl, hS, ?_⟩
  simp only [Act.put, pA, pB, pC]
  refine wpAnyH_one 2 (by kernel_rfl) ?_
  have cc := sub_r s81 t81 s19 t19 a81 b81 a19 b19 n81 m81 n19 m19 c81 d81 c19 d19 (some ((0 : Int) : Rat)) (some x) r7 R81 H4.arg
  rw [HSub.out] at cc
  refine wpOp_call (i := 2) (f := 31) (args := #[.agg #[.bool s81, .slice a81 n81 c81, .bool t81, .slice b81 m81 d81], .agg #[.bool s19, .slice a19 n19 c19, .bool t19, .slice b19 m19 d19]]) 83 rfl rfl (by rfl) (by go_simp) ?_
  refine (cc).mono ?_
  rintro e r8 ⟨s83, a83, n83, c83, t83, b83, m83, d83, rfl, P1, P2, k1, k2, hk⟩
  clear cc
  have hE := hE.trans (hk.mono hE.size)
  have H4 := H4.below hk
  have q9 := q9.below hk
  have R81 := R81.below hk
  have R83 := rarg_of (some (-x)) P1 P2 k1 k2
  clear P1 P2 k1 k2
  have hS : Below S9 E9 r8 := hE.mono lS
  refine ⟨_, rfl, hS, ?_⟩
  simp only [Act.put, pA, pB, pC]
  refine tk 3 (.tuple #[.agg #[.bool s83, .slice a83 n83 c83, .bool t83, .slice b83 m83 d83], .bool true]) 80 rfl rfl ?_
  simp only [Act.put, pA, pB, pC]
  refine tk 4 (.agg #[.bool s83, .slice a83 n83 c83, .bool t83, .slice b83 m83 d83]) 84 rfl rfl ?_
  simp only [Act.put, pA, pB, pC]
  refine tk 5 (.bool true) 85 rfl rfl ?_
  simp only [Act.put, pA, pB, pC]
  refine wpAnyH_one 7 (by kernel_rfl) ?_
  obtain ⟨Wz, hWz⟩ : ∃ W, (((r8.setCell ⟨bq9, 0, none⟩ (.bool s83)).setCell ⟨bq9, 1, none⟩ (.slice a83 n83 c83)).setCell ⟨bq9, 2, none⟩ (.bool t83)).setCell ⟨bq9, 3, none⟩ (.slice b83 m83 d83) = W := ⟨_, rfl⟩
  obtain ⟨hQ, hT⟩ := q9.set _ _ _ _ hWz
  have H9 : HeldR Wz bq9 s83 a83 n83 c83 t83 b83 m83 d83 (some (-x)) := ⟨hQ, R83.quad q9.four hT⟩
  have R81 := R81.quad q9.four hT
  have H4 := H4.touch q9.four hT (Nat.ne_of_lt (Nat.lt_of_lt_of_le l4E (Nat.le_trans lS gq9)))
  have hE : Below E9.heap.size E9 Wz := by rw [← hWz]; exact below_set4 hE gq9 _ _ _ _
  have l9 : w.heap.size ≤ bq9 := Nat.le_trans hB.size gq9
  have hS := hE.mono lS
  obtain ⟨⟨y0, y1, y2, y3⟩, yz0, yz1, yz2, yz3⟩ := id q9
  refine wpOp_run (i := 7) rfl ?_
  go_simp
  try rw [hWz]
  try refine ⟨hS, ?_⟩
  clear y0 y1 y2 y3 yz0 yz1 yz2 yz3 hWz hQ hT q9
  refine tk 8 (.bool true) 10 rfl rfl ?_
  simp only [Act.put, pA, pB, pC]
  refine wpAnyH_done (by kernel_rfl) ?_ _
 all_goals
  have hB := hB.trans (hE.mono hB.size)
  clear x4_0 x4_1 x4_2 x4_3
  clear R81
  have hB := hB
  obtain ⟨⟨x00, x01, x02, x03⟩, xz00, xz01, xz02, xz03⟩ := id H9.box
  go_wp2_with fail
  clear x00 x01 x02 x03 xz00 xz01 xz02 xz03
  have cc := floor_r s83 t83 a83 b83 n83 m83 c83 d83 (some (-x)) Wz H9.arg
  rw [HFm.out] at cc
  refine cc.mono ?_
  rintro e w5 ⟨rfl, hk⟩
  have hB := hB.trans (hk.mono hB.size)
  have H4 := H4.below hk
  have H9 := H9.below hk
  clear hk
  clear cc
  go_wp2_with fail
  obtain ⟨S11, hS11⟩ : ∃ b, w5.drew.heap.size = b := ⟨_, rfl⟩
  have lS : S11 ≤ w5.drew.heap.size := by omega
  have l4E : B4 < S11 := by rw [← hS11]; exact H4.box.lt
  clear hS11
  have hB := hB.drew
  have H4 := H4.below (Below.drew (Below.refl w5.heap.size w5))
  have H9 := H9.below (Below.drew (Below.refl w5.heap.size w5))
  refine wp_region_held_drew (S := fun w' => Below (S11) w5.drew w') (by kernel_rfl) (Below.refl _ _) (fun hHeld => ?_)
  obtain ⟨E11, hWE⟩ : ∃ W, w5.drew = W := ⟨_, rfl⟩
  rw [hWE] at hB H4 H9 hHeld lS ⊢
  clear hWE
  have hE := Below.refl E11.heap.size E11
  have hS : Below S11 E11 E11 := Below.refl _ _
  obtain ⟨⟨x4_0, x4_1, x4_2, x4_3⟩, -, -, -, -⟩ := id H4.box
  refine tk 0 (.bool true) 91 rfl rfl ?_
  simp only [Act.put, pA, pB, pC]
  refine tk 1 (.bool true) 92 rfl rfl ?_
  simp only [Act.put, pA, pB, pC]
  refine tk 2 (.bool true) 93 rfl rfl ?_
  simp only [Act.put, pA, pB, pC]
  refine tk 3 (.bool true) 94 rfl rfl ?_
  simp only [Act.put, pA, pB, pC]
  refine tk 4 (.bool true) 95 rfl rfl ?_
  simp only [Act.put, pA, pB, pC]
  refine tk 5 (.bool true) 96 rfl rfl ?_
  simp only [Act.put, pA, pB, pC]
  refine tk 6 (.bool true) 97 rfl rfl ?_
  simp only [Act.put, pA, pB, pC]
  refine tk 7 (.bool true) 98 rfl rfl ?_
  simp only [Act.put, pA, pB, pC]
  refine tk 8 (.int .i64 c) 99 rfl rfl ?_
  simp only [Act.put, pA, pB, pC]
  refine tk 9 (.int .i64 (-c)) 100 rfl rfl ?_
  simp only [Act.put, pA, pB, pC]
  refine tk 10 (.int .i64 c) 101 rfl rfl ?_
  simp only [Act.put, pA, pB, pC]
  refine tk 11 (.bool true) 102 rfl rfl ?_
  simp only [Act.put, pA, pB, pC]
  refine tk 12 (.bool true) 103 rfl rfl ?_
  simp only [Act.put, pA, pB, pC]
  refine tk 13 (.bool true) 104 rfl rfl ?_
  simp only [Act.put, pA, pB, pC]
  refine tk 14 (.int .i64 f) 105 rfl rfl ?_
  simp only [Act.put, pA, pB, pC]
  refine tk 15 (.int .i64 c) 106 rfl rfl ?_
  simp only [Act.put, pA, pB, pC]
  refine tk 16 (.bool bb) 107 rfl rfl ?_
  simp only [Act.put, pA, pB, pC]
  refine tk 17 (.agg #[.bool s19, .slice a19 n19 c19, .bool t19, .slice b19 m19 d19]) 108 rfl rfl ?_ (Or.inl ⟨by rfl, fun w' hSw => by have z0 := (hSw.cell (p := ⟨B4, 0, none⟩) l4E).trans x4_0; have z1 := (hSw.cell (p := ⟨B4, 1, none⟩) l4E).trans x4_1; have z2 := (hSw.cell (p := ⟨B4, 2, none⟩) l4E).trans x4_2; have z3 := (hSw.cell (p := ⟨B4, 3, none⟩) l4E).trans x4_3; go_simp⟩)
  simp only [Act.put, pA, pB, pC]
  refine tk 18 (.int .i64 f) 109 rfl rfl ?_
  simp only [Act.put, pA, pB, pC]
  refine wpAnyH_one 19 (by kernel_rfl) ?_
  have cc := int_r (f) (by omega) (by omega) E11
  refine wpOp_call (i := 19) (f := 28) (args := #[.int .i64 f]) 110 rfl rfl (by rfl) (by go_simp) ?_
  refine (cc).mono ?_
  rintro e r1 ⟨s110, a110, n110, c110, t110, b110, m110, d110, rfl, P1, P2, k1, k2, hk⟩
  clear cc
  have hE := hE.trans (hk.mono hE.size)
  have H4 := H4.below hk
  have H9 := H9.below hk
  have R110 := rarg_of (some ((f : Int) : Rat)) P1 P2 k1 k2
  clear P1 P2 k1 k2
  have hS : Below S11 E11 r1 := hE.mono lS
  refine ⟨_, rfl, hS, ?_⟩
  simp only [Act.put, pA, pB, pC]
  refine wpAnyH_one 20 (by kernel_rfl) ?_
  have cc := cmp_r s19 t19 s110 t110 a19 b19 a110 b110 n19 m19 n110 m110 c19 d19 c110 d110 (some x) (some ((f : Int) : Rat)) r1 H4.arg R110
  rw [K5.out] at cc
  refine wpOp_call (i := 20) (f := 37) (args := #[.agg #[.bool s19, .slice a19 n19 c19, .bool t19, .slice b19 m19 d19], .agg #[.bool s110, .slice a110 n110 c110, .bool t110, .slice b110 m110 d110]]) 111 rfl rfl (by rfl) (by go_simp) ?_
  refine (cc).mono ?_
  rintro e r2 ⟨rfl, hk⟩
  clear cc
  have hE := hE.trans (hk.mono hE.size)
  have H4 := H4.below hk
  have H9 := H9.below hk
  have R110 := R110.below hk
  have hS : Below S11 E11 r2 := hE.mono lS
  refine ⟨_, rfl, hS, ?_⟩
  simp only [Act.put, pA, pB, pC]
  refine tk 21 (.bool bb) 112 rfl rfl ?_
  simp only [Act.put, pA, pB, pC]
  refine tk 22 (.bool true) 113 rfl rfl ?_
  simp only [Act.put, pA, pB, pC]
  refine tk 23 (.bool true) 114 rfl rfl ?_
  simp only [Act.put, pA, pB, pC]
  refine tk 24 (.bool true) 2 rfl rfl ?_
  simp only [Act.put, pA, pB, pC]
  refine wpAnyH_done (by kernel_rfl) ?_ _
  have hB := hB.trans (hE.mono hB.size)
  clear x4_0 x4_1 x4_2 x4_3
  clear R110
  go_wp2
  go_ret
  exact ⟨rfl, hB⟩
set_option maxRecDepth 100000 in
set_option maxHeartbeats 32000000 in
theorem rrounds_none (w : World) (ht : Pow10 w) (hsy : Syn w) :
 Calls Tryz.prog 7 #[.slice none 0 0] w fun e w' => e = .returned (.bool true) ∧ Below w.heap.size w w' := by
 go_enter Tryz.func7, Tryz.ntmps7
 have hB := Below.refl w.heap.size w
 go_wp2_with fail
 have cc := sanity3_true w ht hsy
 refine cc.mono ?_
 rintro e w1 ⟨rfl, hk⟩
 have hB := hB.trans (hk.mono hB.size)
 clear hk
 clear cc
 go_wp2_with fail
 have cc := made_small none 0 0 (fun _ => 0) (by decide) w1 (.inl rfl)
 refine cc.mono ?_
 rintro e w2 ⟨x, hs, s19, a19, n19, c19, t19, b19, m19, d19, rfl, P1, P2, k1, k2, hk⟩
 have hB := hB.trans (hk.mono hB.size)
 clear hk
 clear cc
 have R19 := rarg_of (some x) P1 P2 k1 k2
 clear P1 P2 k1 k2
 obtain ⟨Z19, hZ19⟩ : ∃ Z, w2.alloc (Obj.cells #[.bool false, .slice none 0 0, .bool false, .slice none 0 0] 27) = Z := ⟨_, rfl⟩
 obtain ⟨W19, hW19⟩ : ∃ W, (((Z19.setCell ⟨w2.heap.size, 0, none⟩ (.bool s19)).setCell ⟨w2.heap.size, 1, none⟩ (.slice a19 n19 c19)).setCell ⟨w2.heap.size, 2, none⟩ (.bool t19)).setCell ⟨w2.heap.size, 3, none⟩ (.slice b19 m19 d19) = W := ⟨_, rfl⟩
 obtain ⟨H4, hk, bx19⟩ := rat_new (c1 := c19) (c2 := d19) hZ19 hW19 R19
 obtain ⟨B4, hB19⟩ : ∃ B, w2.heap.size = B := ⟨_, rfl⟩
 have l4 : w.heap.size ≤ B4 := by rw [← hB19]; exact hB.size
 have hB := hB.trans (hk.mono hB.size)
 have R19 := R19.below hk
 clear hk
 rw [hB19] at hW19 H4 bx19
 clear R19
 have f0 := hs.f0
 have f1 := hs.f1
 have c0 := hs.c0
 have c1 := hs.c1
 have HFl := hide hs.floor
 have HCe := hide hs.ceil
 have HFm := hide hs.neg
 have HSub : Hid (subRO (some ((0 : Int) : Rat)) (some x) = some (-x)) := hs.sub
 have k1 : cmpRO (some (x.floor : Rat)) (some x) ≤ 0 := cmpR_floor x
 have k2 : cmpRO (some x) (some ((x.floor + 1 : Int) : Rat)) < 0 := cmpR_floor1 x
 have k3 : cmpRO (some ((x.ceil - 1 : Int) : Rat)) (some x) < 0 := cmpR_ceil1 x
 have k4 : cmpRO (some x) (some (x.ceil : Rat)) ≤ 0 := cmpR_ceil x
 have k5 : x.floor = x.ceil ↔ cmpRO (some x) (some (x.floor : Rat)) = 0 := whole_iff x
 clear hs
 obtain ⟨f, hf⟩ : ∃ f, x.floor = f := ⟨_, rfl⟩
 obtain ⟨c, hc⟩ : ∃ c, x.ceil = c := ⟨_, rfl⟩
 rw [hf] at f0 f1 HFl k1 k2 k5
 rw [hc] at c0 c1 HCe HFm k3 k4 k5
 clear hf hc
 obtain ⟨o1, ho⟩ : ∃ o, cmpRO (some (f : Rat)) (some x) = o := ⟨_, rfl⟩
 rw [ho] at k1
 have K1 := hide ho
 clear ho
 obtain ⟨o2, ho⟩ : ∃ o, cmpRO (some x) (some ((f + 1 : Int) : Rat)) = o := ⟨_, rfl⟩
 rw [ho] at k2
 have K2 := hide ho
 clear ho
 obtain ⟨o3, ho⟩ : ∃ o, cmpRO (some ((c - 1 : Int) : Rat)) (some x) = o := ⟨_, rfl⟩
 rw [ho] at k3
 have K3 := hide ho
 clear ho
 obtain ⟨o4, ho⟩ : ∃ o, cmpRO (some x) (some (c : Rat)) = o := ⟨_, rfl⟩
 rw [ho] at k4
 have K4 := hide ho
 clear ho
 obtain ⟨o5, ho⟩ : ∃ o, cmpRO (some x) (some (f : Rat)) = o := ⟨_, rfl⟩
 rw [ho] at k5
 have K5 := hide ho
 clear ho
 have g1 : decide (0 < o1) = false := decide_eq_false (by omega)
 have g2 : decide (0 ≤ o2) = false := decide_eq_false (by omega)
 have g3 : decide (0 ≤ o3) = false := decide_eq_false (by omega)
 have g4 : decide (0 < o4) = false := decide_eq_false (by omega)
 obtain ⟨bb, hbb⟩ : ∃ b, (f == c) = b := ⟨_, rfl⟩
 have hb5 : (o5 == 0) = bb := by
  rw [← hbb]
  by_cases h : f = c
  · have h5 := k5.1 h
    subst h; subst h5; simp
  · have h5 : ¬ o5 = 0 := fun e => h (k5.2 e)
    rw [beq_eq_false_iff_ne.2 h, beq_eq_false_iff_ne.2 h5]
 have t1 : decide (f < -50) = false := decide_eq_false (by omega)
 have t2 : decide (50 < f) = false := decide_eq_false (by omega)
 have t3 : decide (c < -50) = false := decide_eq_false (by omega)
 have t4 : decide (50 < c) = false := decide_eq_false (by omega)
 have w1 : IntKind.i64.wrap (f + 1) = f + 1 := by simp only [IntKind.wrap, IntKind.bits, IntKind.signed]; simp; omega
 have w2 : IntKind.i64.wrap (c - 1) = c - 1 := by simp only [IntKind.wrap, IntKind.bits, IntKind.signed]; simp; omega
 have w4 : IntKind.i64.wrap c = c := by simp only [IntKind.wrap, IntKind.bits, IntKind.signed]; simp; omega
 have w3 : IntKind.i64.wrap (- -c) = c := by simp only [IntKind.wrap, IntKind.bits, IntKind.signed]; simp; omega
 clear k1 k2 k3 k4 k5
 obtain ⟨⟨y0, y1, y2, y3⟩, yz0, yz1, yz2, yz3⟩ := id bx19
 obtain ⟨⟨x10, x11, x12, x13⟩, xz10, xz11, xz12, xz13⟩ := id H4.box
 go_wp2_with fail
 try rw [hW19]
 try rw [hB19]
 clear hW19 hB19
 clear y0 y1 y2 y3 yz0 yz1 yz2 yz3 x10 x11 x12 x13 xz10 xz11 xz12 xz13
 have cc := floor_r s19 t19 a19 b19 n19 m19 c19 d19 (some x) W19 H4.arg
 rw [HFl.out] at cc
 refine cc.mono ?_
 rintro e w3 ⟨rfl, hk⟩
 have hB := hB.trans (hk.mono hB.size)
 have H4 := H4.below hk
 clear hk
 clear cc
 obtain ⟨⟨x00, x01, x02, x03⟩, xz00, xz01, xz02, xz03⟩ := id H4.box
 go_wp2_with fail
 clear x00 x01 x02 x03 xz00 xz01 xz02 xz03
 have cc := ceil_r s19 t19 a19 b19 n19 m19 c19 d19 (some x) w3 H4.arg
 rw [HCe.out] at cc
 refine cc.mono ?_
 rintro e w4 ⟨rfl, hk⟩
 have hB := hB.trans (hk.mono hB.size)
 have H4 := H4.below hk
 clear hk
 clear cc
 go_wp2_with fail
 obtain ⟨S7, hS7⟩ : ∃ b, w4.drew.heap.size = b := ⟨_, rfl⟩
 have lS : S7 ≤ w4.drew.heap.size := by omega
 have l4E : B4 < S7 := by rw [← hS7]; exact H4.box.lt
 clear hS7
 have hB := hB.drew
 have H4 := H4.below (Below.drew (Below.refl w4.heap.size w4))
 refine wp_region_held_drew (S := fun w' => Below (S7) w4.drew w') (by kernel_rfl) (Below.refl _ _) (fun hHeld => ?_)
 obtain ⟨E7, hWE⟩ : ∃ W, w4.drew = W := ⟨_, rfl⟩
 rw [hWE] at hB H4 hHeld lS ⊢
 clear hWE
 have hE := Below.refl E7.heap.size E7
 have hS : Below S7 E7 E7 := Below.refl _ _
 obtain ⟨⟨x4_0, x4_1, x4_2, x4_3⟩, -, -, -, -⟩ := id H4.box
 refine tk 0 (.int .i64 f) 52 rfl rfl ?_
 simp only [Act.put, pA, pB, pC]
 refine tk 2 (.agg #[.bool s19, .slice a19 n19 c19, .bool t19, .slice b19 m19 d19]) 54 rfl rfl ?_ (Or.inl ⟨by rfl, fun w' hSw => by have z0 := (hSw.cell (p := ⟨B4, 0, none⟩) l4E).trans x4_0; have z1 := (hSw.cell (p := ⟨B4, 1, none⟩) l4E).trans x4_1; have z2 := (hSw.cell (p := ⟨B4, 2, none⟩) l4E).trans x4_2; have z3 := (hSw.cell (p := ⟨B4, 3, none⟩) l4E).trans x4_3; go_simp⟩)
 simp only [Act.put, pA, pB, pC]
 refine wpAnyH_one 1 (by kernel_rfl) ?_
 have cc := int_r (f) (by omega) (by omega) E7
 refine wpOp_call (i := 1) (f := 28) (args := #[.int .i64 f]) 53 rfl rfl (by rfl) (by go_simp) ?_
 refine (cc).mono ?_
 rintro e r1 ⟨s53, a53, n53, c53, t53, b53, m53, d53, rfl, P1, P2, k1, k2, hk⟩
 clear cc
 have hE := hE.trans (hk.mono hE.size)
 have H4 := H4.below hk
 have R53 := rarg_of (some ((f : Int) : Rat)) P1 P2 k1 k2
 clear P1 P2 k1 k2
 have hS : Below S7 E7 r1 := hE.mono lS
 refine ⟨_, rfl, hS, ?_⟩
 simp only [Act.put, pA, pB, pC]
 refine wpAnyH_one 3 (by kernel_rfl) ?_
 have cc := cmp_r s53 t53 s19 t19 a53 b53 a19 b19 n53 m53 n19 m19 c53 d53 c19 d19 (some ((f : Int) : Rat)) (some x) r1 R53 H4.arg
 rw [K1.out] at cc
 refine wpOp_call (i := 3) (f := 37) (args := #[.agg #[.bool s53, .slice a53 n53 c53, .bool t53, .slice b53 m53 d53], .agg #[.bool s19, .slice a19 n19 c19, .bool t19, .slice b19 m19 d19]]) 55 rfl rfl (by rfl) (by go_simp) ?_
 refine (cc).mono ?_
 rintro e r2 ⟨rfl, hk⟩
 clear cc
 have hE := hE.trans (hk.mono hE.size)
 have H4 := H4.below hk
 have R53 := R53.below hk
 have hS : Below S7 E7 r2 := hE.mono lS
 refine ⟨_, rfl, hS, ?_⟩
 simp only [Act.put, pA, pB, pC]
 refine tk 4 (.bool false) 56 rfl rfl ?_
 simp only [Act.put, pA, pB, pC]
 refine tk 5 (.bool false) 57 rfl rfl ?_
 simp only [Act.put, pA, pB, pC]
 refine tk 6 (.agg #[.bool s19, .slice a19 n19 c19, .bool t19, .slice b19 m19 d19]) 58 rfl rfl ?_ (Or.inl ⟨by rfl, fun w' hSw => by have z0 := (hSw.cell (p := ⟨B4, 0, none⟩) l4E).trans x4_0; have z1 := (hSw.cell (p := ⟨B4, 1, none⟩) l4E).trans x4_1; have z2 := (hSw.cell (p := ⟨B4, 2, none⟩) l4E).trans x4_2; have z3 := (hSw.cell (p := ⟨B4, 3, none⟩) l4E).trans x4_3; go_simp⟩)
 simp only [Act.put, pA, pB, pC]
 refine tk 7 (.int .i64 f) 59 rfl rfl ?_
 simp only [Act.put, pA, pB, pC]
 refine tk 8 (.int .i64 (f + 1)) 60 rfl rfl ?_
 simp only [Act.put, pA, pB, pC]
 refine wpAnyH_one 9 (by kernel_rfl) ?_
 have cc := int_r ((f + 1)) (by omega) (by omega) r2
 refine wpOp_call (i := 9) (f := 28) (args := #[.int .i64 (f + 1)]) 61 rfl rfl (by rfl) (by go_simp) ?_
 refine (cc).mono ?_
 rintro e r3 ⟨s61, a61, n61, c61, t61, b61, m61, d61, rfl, P1, P2, k1, k2, hk⟩
 clear cc
 have hE := hE.trans (hk.mono hE.size)
 have H4 := H4.below hk
 have R53 := R53.below hk
 have R61 := rarg_of (some (((f + 1) : Int) : Rat)) P1 P2 k1 k2
 clear P1 P2 k1 k2
 have hS : Below S7 E7 r3 := hE.mono lS
 refine ⟨_, rfl, hS, ?_⟩
 simp only [Act.put, pA, pB, pC]
 refine wpAnyH_one 10 (by kernel_rfl) ?_
 have cc := cmp_r s19 t19 s61 t61 a19 b19 a61 b61 n19 m19 n61 m61 c19 d19 c61 d61 (some x) (some (((f + 1) : Int) : Rat)) r3 H4.arg R61
 rw [K2.out] at cc
 refine wpOp_call (i := 10) (f := 37) (args := #[.agg #[.bool s19, .slice a19 n19 c19, .bool t19, .slice b19 m19 d19], .agg #[.bool s61, .slice a61 n61 c61, .bool t61, .slice b61 m61 d61]]) 62 rfl rfl (by rfl) (by go_simp) ?_
 refine (cc).mono ?_
 rintro e r4 ⟨rfl, hk⟩
 clear cc
 have hE := hE.trans (hk.mono hE.size)
 have H4 := H4.below hk
 have R53 := R53.below hk
 have R61 := R61.below hk
 have hS : Below S7 E7 r4 := hE.mono lS
 refine ⟨_, rfl, hS, ?_⟩
 simp only [Act.put, pA, pB, pC]
 refine tk 11 (.bool false) 63 rfl rfl ?_
 simp only [Act.put, pA, pB, pC]
 refine tk 12 (.bool false) 64 rfl rfl ?_
 simp only [Act.put, pA, pB, pC]
 refine tk 13 (.bool false) 65 rfl rfl ?_
 simp only [Act.put, pA, pB, pC]
 refine tk 14 (.int .i64 c) 66 rfl rfl ?_
 simp only [Act.put, pA, pB, pC]
 refine tk 15 (.int .i64 (c - 1)) 67 rfl rfl ?_
 simp only [Act.put, pA, pB, pC]
 refine tk 17 (.agg #[.bool s19, .slice a19 n19 c19, .bool t19, .slice b19 m19 d19]) 69 rfl rfl ?_ (Or.inl ⟨by rfl, fun w' hSw => by have z0 := (hSw.cell (p := ⟨B4, 0, none⟩) l4E).trans x4_0; have z1 := (hSw.cell (p := ⟨B4, 1, none⟩) l4E).trans x4_1; have z2 := (hSw.cell (p := ⟨B4, 2, none⟩) l4E).trans x4_2; have z3 := (hSw.cell (p := ⟨B4, 3, none⟩) l4E).trans x4_3; go_simp⟩)
 simp only [Act.put, pA, pB, pC]
 refine wpAnyH_one 16 (by kernel_rfl) ?_
 have cc := int_r ((c - 1)) (by omega) (by omega) r4
 refine wpOp_call (i := 16) (f := 28) (args := #[.int .i64 (c - 1)]) 68 rfl rfl (by rfl) (by go_simp) ?_
 refine (cc).mono ?_
 rintro e r5 ⟨s68, a68, n68, c68, t68, b68, m68, d68, rfl, P1, P2, k1, k2, hk⟩
 clear cc
 have hE := hE.trans (hk.mono hE.size)
 have H4 := H4.below hk
 have R53 := R53.below hk
 have R61 := R61.below hk
 have R68 := rarg_of (some (((c - 1) : Int) : Rat)) P1 P2 k1 k2
 clear P1 P2 k1 k2
 have hS : Below S7 E7 r5 := hE.mono lS
 refine ⟨_, rfl, hS, ?_⟩
 simp only [Act.put, pA, pB, pC]
 refine wpAnyH_one 18 (by kernel_rfl) ?_
 have cc := cmp_r s68 t68 s19 t19 a68 b68 a19 b19 n68 m68 n19 m19 c68 d68 c19 d19 (some (((c - 1) : Int) : Rat)) (some x) r5 R68 H4.arg
 rw [K3.out] at cc
 refine wpOp_call (i := 18) (f := 37) (args := #[.agg #[.bool s68, .slice a68 n68 c68, .bool t68, .slice b68 m68 d68], .agg #[.bool s19, .slice a19 n19 c19, .bool t19, .slice b19 m19 d19]]) 70 rfl rfl (by rfl) (by go_simp) ?_
 refine (cc).mono ?_
 rintro e r6 ⟨rfl, hk⟩
 clear cc
 have hE := hE.trans (hk.mono hE.size)
 have H4 := H4.below hk
 have R53 := R53.below hk
 have R61 := R61.below hk
 have R68 := R68.below hk
 have hS : Below S7 E7 r6 := hE.mono lS
 refine ⟨_, rfl, hS, ?_⟩
 simp only [Act.put, pA, pB, pC]
 refine tk 19 (.bool false) 71 rfl rfl ?_
 simp only [Act.put, pA, pB, pC]
 refine tk 20 (.bool false) 72 rfl rfl ?_
 simp only [Act.put, pA, pB, pC]
 refine tk 21 (.bool false) 73 rfl rfl ?_
 simp only [Act.put, pA, pB, pC]
 refine tk 22 (.agg #[.bool s19, .slice a19 n19 c19, .bool t19, .slice b19 m19 d19]) 74 rfl rfl ?_ (Or.inl ⟨by rfl, fun w' hSw => by have z0 := (hSw.cell (p := ⟨B4, 0, none⟩) l4E).trans x4_0; have z1 := (hSw.cell (p := ⟨B4, 1, none⟩) l4E).trans x4_1; have z2 := (hSw.cell (p := ⟨B4, 2, none⟩) l4E).trans x4_2; have z3 := (hSw.cell (p := ⟨B4, 3, none⟩) l4E).trans x4_3; go_simp⟩)
 simp only [Act.put, pA, pB, pC]
 refine tk 23 (.int .i64 c) 75 rfl rfl ?_
 simp only [Act.put, pA, pB, pC]
 refine wpAnyH_one 24 (by kernel_rfl) ?_
 have cc := int_r (c) (by omega) (by omega) r6
 refine wpOp_call (i := 24) (f := 28) (args := #[.int .i64 c]) 76 rfl rfl (by rfl) (by go_simp) ?_
 refine (cc).mono ?_
 rintro e r7 ⟨s76, a76, n76, c76, t76, b76, m76, d76, rfl, P1, P2, k1, k2, hk⟩
 clear cc
 have hE := hE.trans (hk.mono hE.size)
 have H4 := H4.below hk
 have R53 := R53.below hk
 have R61 := R61.below hk
 have R68 := R68.below hk
 have R76 := rarg_of (some ((c : Int) : Rat)) P1 P2 k1 k2
 clear P1 P2 k1 k2
 have hS : Below S7 E7 r7 := hE.mono lS
 refine ⟨_, rfl, hS, ?_⟩
 simp only [Act.put, pA, pB, pC]
 refine wpAnyH_one 25 (by kernel_rfl) ?_
 have cc := cmp_r s19 t19 s76 t76 a19 b19 a76 b76 n19 m19 n76 m76 c19 d19 c76 d76 (some x) (some ((c : Int) : Rat)) r7 H4.arg R76
 rw [K4.out] at cc
 refine wpOp_call (i := 25) (f := 37) (args := #[.agg #[.bool s19, .slice a19 n19 c19, .bool t19, .slice b19 m19 d19], .agg #[.bool s76, .slice a76 n76 c76, .bool t76, .slice b76 m76 d76]]) 77 rfl rfl (by rfl) (by go_simp) ?_
 refine (cc).mono ?_
 rintro e r8 ⟨rfl, hk⟩
 clear cc
 have hE := hE.trans (hk.mono hE.size)
 have H4 := H4.below hk
 have R53 := R53.below hk
 have R61 := R61.below hk
 have R68 := R68.below hk
 have R76 := R76.below hk
 have hS : Below S7 E7 r8 := hE.mono lS
 refine ⟨_, rfl, hS, ?_⟩
 simp only [Act.put, pA, pB, pC]
 refine tk 26 (.bool false) 78 rfl rfl ?_
 simp only [Act.put, pA, pB, pC]
 refine tk 27 (.bool false) 79 rfl rfl ?_
 simp only [Act.put, pA, pB, pC]
 refine wpAnyH_done (by kernel_rfl) ?_ _
 have hB := hB.trans (hE.mono hB.size)
 clear x4_0 x4_1 x4_2 x4_3
 clear R53 R61 R68 R76
 go_wp2_with fail
 obtain ⟨S9, hS9⟩ : ∃ b, r8.drew.heap.size = b := ⟨_, rfl⟩
 have lS : S9 ≤ r8.drew.heap.size := by omega
 have l4E : B4 < S9 := by rw [← hS9]; exact H4.box.lt
 clear hS9
 have hB := hB.drew
 have H4 := H4.below (Below.drew (Below.refl r8.heap.size r8))
 refine wp_region_held_drew (S := fun w' => Below (S9) r8.drew w') (by kernel_rfl) (Below.refl _ _) (fun hHeld => ?_)
 obtain ⟨E9, hWE⟩ : ∃ W, r8.drew = W := ⟨_, rfl⟩
 rw [hWE] at hB H4 hHeld lS ⊢
 clear hWE
 have hE := Below.refl E9.heap.size E9
 have hS : Below S9 E9 E9 := Below.refl _ _
 obtain ⟨⟨x4_0, x4_1, x4_2, x4_3⟩, -, -, -, -⟩ := id H4.box
 refine tk 1 (.agg #[.bool s19, .slice a19 n19 c19, .bool t19, .slice b19 m19 d19]) 82 rfl rfl ?_ (Or.inl ⟨by rfl, fun w' hSw => by have z0 := (hSw.cell (p := ⟨B4, 0, none⟩) l4E).trans x4_0; have z1 := (hSw.cell (p := ⟨B4, 1, none⟩) l4E).trans x4_1; have z2 := (hSw.cell (p := ⟨B4, 2, none⟩) l4E).trans x4_2; have z3 := (hSw.cell (p := ⟨B4, 3, none⟩) l4E).trans x4_3; go_simp⟩)
 simp only [Act.put, pA, pB, pC]
 refine wpAnyH_twoR 0 6 (by kernel_rfl) ?g1 ?g2
 case' g1 =>
  have cc := int_r (0) (by omega) (by omega) E9
  refine wpOp_call (i := 0) (f := 28) (args := #[.int .i64 0]) 81 rfl rfl (by rfl) (by go_simp) ?_
  refine (cc).mono ?_
  rintro e r1 ⟨s81, a81, n81, c81, t81, b81, m81, d81, rfl, P1, P2, k1, k2, hk⟩
  clear cc
  have hE := hE.trans (hk.mono hE.size)
  have H4 := H4.below hk
  have R81 := rarg_of (some ((0 : Int) : Rat)) P1 P2 k1 k2
  clear P1 P2 k1 k2
  have hS : Below S9 E9 r1 := hE.mono lS
  refine ⟨_, rfl, hS, ?_⟩
  simp only [Act.put, pA, pB, pC]
  refine wpAnyH_twoR 2 6 (by kernel_rfl) ?g3 ?g4
  case' g3 =>
   have cc := sub_r s81 t81 s19 t19 a81 b81 a19 b19 n81 m81 n19 m19 c81 d81 c19 d19 (some ((0 : Int) : Rat)) (some x) r1 R81 H4.arg
   rw [HSub.out] at cc
   refine wpOp_call (i := 2) (f := 31) (args := #[.agg #[.bool s81, .slice a81 n81 c81, .bool t81, .slice b81 m81 d81], .agg #[.bool s19, .slice a19 n19 c19, .bool t19, .slice b19 m19 d19]]) 83 rfl rfl (by rfl) (by go_simp) ?_
   refine (cc).mono ?_
   rintro e r2 ⟨s83, a83, n83, c83, t83, b83, m83, d83, rfl, P1, P2, k1, k2, hk⟩
   clear cc
   have hE := hE.trans (hk.mono hE.size)
   have H4 := H4.below hk
   have R81 := R81.below hk
   have R83 := rarg_of (some (-x)) P1 P2 k1 k2
   clear P1 P2 k1 k2
   have hS : Below S9 E9 r2 := hE.mono lS
   refine ⟨_, rfl, hS, ?_⟩
   simp only [Act.put, pA, pB, pC]
   refine tk 3 (.tuple #[.agg #[.bool s83, .slice a83 n83 c83, .bool t83, .slice b83 m83 d83], .bool true]) 80 rfl rfl ?_
   simp only [Act.put, pA, pB, pC]
   refine tk 4 (.agg #[.bool s83, .slice a83 n83 c83, .bool t83, .slice b83 m83 d83]) 84 rfl rfl ?_
   simp only [Act.put, pA, pB, pC]
   refine tk 5 (.bool true) 85 rfl rfl ?_
   simp only [Act.put, pA, pB, pC]
   refine wpAnyH_one 6 (by kernel_rfl) ?_
   refine wpOp_run (i := 6) rfl ?_
   go_simp
   have q9 := Quad.new r2 (.bool false) (.slice none 0 0) (.bool false) (.slice none 0 0) 27
   have hk := below_alloc' r2 (Obj.cells #[.bool false, .slice none 0 0, .bool false, .slice none 0 0] 27)
   obtain ⟨r3, hw⟩ : ∃ W, r2.alloc (Obj.cells #[.bool false, .slice none 0 0, .bool false, .slice none 0 0] 27) = W := ⟨_, rfl⟩
   obtain ⟨bq9, hbb⟩ : ∃ b, r2.heap.size = b := ⟨_, rfl⟩
   have gq9 : E9.heap.size ≤ bq9 := by rw [← hbb]; exact hE.size
   rw [hw] at hk q9 ⊢
   have hE := hE.trans (hk.mono hE.size)
   have H4 := H4.below hk
   have R81 := R81.below hk
   have R83 := R83.below hk
   rw [hbb] at q9 ⊢
   clear hw hbb hk
   have hS : Below S9 E9 r3 := hE.mono lS
   refine ⟨hS, ?_⟩
   refine wpAnyH_one 7 (by kernel_rfl) ?_
   obtain ⟨Wz, hWz⟩ : ∃ W, (((r3.setCell ⟨bq9, 0, none⟩ (.bool s83)).setCell ⟨bq9, 1, none⟩ (.slice a83 n83 c83)).setCell ⟨bq9, 2, none⟩ (.bool t83)).setCell ⟨bq9, 3, none⟩ (.slice b83 m83 d83) = W := ⟨_, rfl⟩
   obtain ⟨hQ, hT⟩ := q9.set _ _ _ _ hWz
   have H9 : HeldR Wz bq9 s83 a83 n83 c83 t83 b83 m83 d83 (some (-x)) := ⟨hQ, R83.quad q9.four hT⟩
   have R81 := R81.quad q9.four hT
   have H4 := H4.touch q9.four hT (Nat.ne_of_lt (Nat.lt_of_lt_of_le l4E (Nat.le_trans lS gq9)))
   have hE : Below E9.heap.size E9 Wz := by rw [← hWz]; exact below_set4 hE gq9 _ _ _ _
   have l9 : w.heap.size ≤ bq9 := Nat.le_trans hB.size gq9
   have hS := hE.mono lS
   obtain ⟨⟨y0, y1, y2, y3⟩, yz0, yz1, yz2, yz3⟩ := id q9
   refine wpOp_run (i := 7) rfl ?_
   go_simp
   try rw [hWz]
   try refine ⟨hS, ?_⟩
   clear y0 y1 y2 y3 yz0 yz1 yz2 yz3 hWz hQ hT q9
   refine tk 8 (.bool true) 10 rfl rfl ?_
   simp only [Act.put, pA, pB, pC]
   refine wpAnyH_done (by kernel_rfl) ?_ _
  case' g4 =>
   refine wpOp_run (i := 6) rfl ?_
   go_simp
   have q9 := Quad.new r1 (.bool false) (.slice none 0 0) (.bool false) (.slice none 0 0) 27
   have hk := below_alloc' r1 (Obj.cells #[.bool false, .slice none 0 0, .bool false, .slice none 0 0] 27)
   obtain ⟨r4, hw⟩ : ∃ W, r1.alloc (Obj.cells #[.bool false, .slice none 0 0, .bool false, .slice none 0 0] 27) = W := ⟨_, rfl⟩
   obtain ⟨bq9, hbb⟩ : ∃ b, r1.heap.size = b := ⟨_, rfl⟩
   have gq9 : E9.heap.size ≤ bq9 := by rw [← hbb]; exact hE.size
   rw [hw] at hk q9 ⊢
   have hE := hE.trans (hk.mono hE.size)
   have H4 := H4.below hk
   have R81 := R81.below hk
   rw [hbb] at q9 ⊢
   clear hw hbb hk
   have hS : Below S9 E9 r4 := hE.mono lS
   refine ⟨hS, ?_⟩
   refine wpAnyH_one 2 (by kernel_rfl) ?_
   have cc := sub_r s81 t81 s19 t19 a81 b81 a19 b19 n81 m81 n19 m19 c81 d81 c19 d19 (some ((0 : Int) : Rat)) (some x) r4 R81 H4.arg
   rw [HSub.out] at cc
   refine wpOp_call (i := 2) (f := 31) (args := #[.agg #[.bool s81, .slice a81 n81 c81, .bool t81, .slice b81 m81 d81], .agg #[.bool s19, .slice a19 n19 c19, .bool t19, .slice b19 m19 d19]]) 83 rfl rfl (by rfl) (by go_simp) ?_
   refine (cc).mono ?_
   rintro e r5 ⟨s83, a83, n83, c83, t83, b83, m83, d83, rfl, P1, P2, k1, k2, hk⟩
   clear cc
   have hE := hE.trans (hk.mono hE.size)
   have H4 := H4.below hk
   have R81 := R81.below hk
   have q9 := q9.below hk
   have R83 := rarg_of (some (-x)) P1 P2 k1 k2
   clear P1 P2 k1 k2
   have hS : Below S9 E9 r5 := hE.mono lS
   refine ⟨_, rfl, hS, ?_⟩
   simp only [Act.put, pA, pB, pC]
   refine tk 3 (.tuple #[.agg #[.bool s83, .slice a83 n83 c83, .bool t83, .slice b83 m83 d83], .bool true]) 80 rfl rfl ?_
   simp only [Act.put, pA, pB, pC]
   refine tk 4 (.agg #[.bool s83, .slice a83 n83 c83, .bool t83, .slice b83 m83 d83]) 84 rfl rfl ?_
   simp only [Act.put, pA, pB, pC]
   refine tk 5 (.bool true) 85 rfl rfl ?_
   simp only [Act.put, pA, pB, pC]
   refine wpAnyH_one 7 (by kernel_rfl) ?_
   obtain ⟨Wz, hWz⟩ : ∃ W, (((r5.setCell ⟨bq9, 0, none⟩ (.bool s83)).setCell ⟨bq9, 1, none⟩ (.slice a83 n83 c83)).setCell ⟨bq9, 2, none⟩ (.bool t83)).setCell ⟨bq9, 3, none⟩ (.slice b83 m83 d83) = W := ⟨_, rfl⟩
   obtain ⟨hQ, hT⟩ := q9.set _ _ _ _ hWz
   have H9 : HeldR Wz bq9 s83 a83 n83 c83 t83 b83 m83 d83 (some (-x)) := ⟨hQ, R83.quad q9.four hT⟩
   have R81 := R81.quad q9.four hT
   have H4 := H4.touch q9.four hT (Nat.ne_of_lt (Nat.lt_of_lt_of_le l4E (Nat.le_trans lS gq9)))
   have hE : Below E9.heap.size E9 Wz := by rw [← hWz]; exact below_set4 hE gq9 _ _ _ _
   have l9 : w.heap.size ≤ bq9 := Nat.le_trans hB.size gq9
   have hS := hE.mono lS
   obtain ⟨⟨y0, y1, y2, y3⟩, yz0, yz1, yz2, yz3⟩ := id q9
   refine wpOp_run (i := 7) rfl ?_
   go_simp
   try rw [hWz]
   try refine ⟨hS, ?_⟩
   clear y0 y1 y2 y3 yz0 yz1 yz2 yz3 hWz hQ hT q9
   refine tk 8 (.bool true) 10 rfl rfl ?_
   simp only [Act.put, pA, pB, pC]
   refine wpAnyH_done (by kernel_rfl) ?_ _
 case' g2 =>
  refine wpOp_run (i := 6) rfl ?_
  go_simp
  have q9 := Quad.new E9 (.bool false) (.slice none 0 0) (.bool false) (.slice none 0 0) 27
  have hk := below_alloc' E9 (Obj.cells #[.bool false, .slice none 0 0, .bool false, .slice none 0 0] 27)
  obtain ⟨r6, hw⟩ : ∃ W, E9.alloc (Obj.cells #[.bool false, .slice none 0 0, .bool false, .slice none 0 0] 27) = W := ⟨_, rfl⟩
  obtain ⟨bq9, hbb⟩ : ∃ b, E9.heap.size = b := ⟨_, rfl⟩
  have gq9 : E9.heap.size ≤ bq9 := by rw [← hbb]; exact hE.size
  rw [hw] at hk q9 ⊢
  have hE := hE.trans (hk.mono hE.size)
  have H4 := H4.below hk
  rw [hbb] at q9 ⊢
  clear hw hbb hk
  have hS : Below S9 E9 r6 := hE.mono lS
  refine ⟨hS, ?_⟩
  refine wpAnyH_one 0 (by kernel_rfl) ?_
  have cc := int_r (0) (by omega) (by omega) r6
  refine wpOp_call (i := 0) (f := 28) (args := #[.int .i64 0]) 81 rfl rfl (by rfl) (by go_simp) ?_
  refine (cc).mono ?_
  rintro e r7 ⟨s81, a81, n81, c81, t81, b81, m81, d81, rfl, P1, P2, k1, k2, hk⟩
  clear cc
  have hE := hE.trans (hk.mono hE.size)
  have H4 := H4.below hk
  have q9 := q9.below hk
  have R81 := rarg_of (some ((0 : Int) : Rat)) P1 P2 k1 k2
  clear P1 P2 k1 k2
  have hS : Below S9 E9 r7 := hE.mono lS
  refine ⟨_, rfl, hS, ?_⟩
  simp only [Act.put, pA, pB, pC]
  refine wpAnyH_one 2 (by kernel_rfl) ?_
  have cc := sub_r s81 t81 s19 t19 a81 b81 a19 b19 n81 m81 n19 m19 c81 d81 c19 d19 (some ((0 : Int) : Rat)) (some x) r7 R81 H4.arg
  rw [HSub.out] at cc
  refine wpOp_call (i := 2) (f := 31) (args := #[.agg #[.bool s81, .slice a81 n81 c81, .bool t81, .slice b81 m81 d81], .agg #[.bool s19, .slice a19 n19 c19, .bool t19, .slice b19 m19 d19]]) 83 rfl rfl (by rfl) (by go_simp) ?_
  refine (cc).mono ?_
  rintro e r8 ⟨s83, a83, n83, c83, t83, b83, m83, d83, rfl, P1, P2, k1, k2, hk⟩
  clear cc
  have hE := hE.trans (hk.mono hE.size)
  have H4 := H4.below hk
  have q9 := q9.below hk
  have R81 := R81.below hk
  have R83 := rarg_of (some (-x)) P1 P2 k1 k2
  clear P1 P2 k1 k2
  have hS : Below S9 E9 r8 := hE.mono lS
  refine ⟨_, rfl, hS, ?_⟩
  simp only [Act.put, pA, pB, pC]
  refine tk 3 (.tuple #[.agg #[.bool s83, .slice a83 n83 c83, .bool t83, .slice b83 m83 d83], .bool true]) 80 rfl rfl ?_
  simp only [Act.put, pA, pB, pC]
  refine tk 4 (.agg #[.bool s83, .slice a83 n83 c83, .bool t83, .slice b83 m83 d83]) 84 rfl rfl ?_
  simp only [Act.put, pA, pB, pC]
  refine tk 5 (.bool true) 85 rfl rfl ?_
  simp only [Act.put, pA, pB, pC]
  refine wpAnyH_one 7 (by kernel_rfl) ?_
  obtain ⟨Wz, hWz⟩ : ∃ W, (((r8.setCell ⟨bq9, 0, none⟩ (.bool s83)).setCell ⟨bq9, 1, none⟩ (.slice a83 n83 c83)).setCell ⟨bq9, 2, none⟩ (.bool t83)).setCell ⟨bq9, 3, none⟩ (.slice b83 m83 d83) = W := ⟨_, rfl⟩
  obtain ⟨hQ, hT⟩ := q9.set _ _ _ _ hWz
  have H9 : HeldR Wz bq9 s83 a83 n83 c83 t83 b83 m83 d83 (some (-x)) := ⟨hQ, R83.quad q9.four hT⟩
  have R81 := R81.quad q9.four hT
  have H4 := H4.touch q9.four hT (Nat.ne_of_lt (Nat.lt_of_lt_of_le l4E (Nat.le_trans lS gq9)))
  have hE : Below E9.heap.size E9 Wz := by rw [← hWz]; exact below_set4 hE gq9 _ _ _ _
  have l9 : w.heap.size ≤ bq9 := Nat.le_trans hB.size gq9
  have hS := hE.mono lS
  obtain ⟨⟨y0, y1, y2, y3⟩, yz0, yz1, yz2, yz3⟩ := id q9
  refine wpOp_run (i := 7) rfl ?_
  go_simp
  try rw [hWz]
  try refine ⟨hS, ?_⟩
  clear y0 y1 y2 y3 yz0 yz1 yz2 yz3 hWz hQ hT q9
  refine tk 8 (.bool true) 10 rfl rfl ?_
  simp only [Act.put, pA, pB, pC]
  refine wpAnyH_done (by kernel_rfl) ?_ _
 all_goals
  have hB := hB.trans (hE.mono hB.size)
  clear x4_0 x4_1 x4_2 x4_3
  clear R81
  have hB := hB
  obtain ⟨⟨x00, x01, x02, x03⟩, xz00, xz01, xz02, xz03⟩ := id H9.box
  go_wp2_with fail
  clear x00 x01 x02 x03 xz00 xz01 xz02 xz03
  have cc := floor_r s83 t83 a83 b83 n83 m83 c83 d83 (some (-x)) Wz H9.arg
  rw [HFm.out] at cc
  refine cc.mono ?_
  rintro e w5 ⟨rfl, hk⟩
  have hB := hB.trans (hk.mono hB.size)
  have H4 := H4.below hk
  have H9 := H9.below hk
  clear hk
  clear cc
  go_wp2_with fail
  obtain ⟨S11, hS11⟩ : ∃ b, w5.drew.heap.size = b := ⟨_, rfl⟩
  have lS : S11 ≤ w5.drew.heap.size := by omega
  have l4E : B4 < S11 := by rw [← hS11]; exact H4.box.lt
  clear hS11
  have hB := hB.drew
  have H4 := H4.below (Below.drew (Below.refl w5.heap.size w5))
  have H9 := H9.below (Below.drew (Below.refl w5.heap.size w5))
  refine wp_region_held_drew (S := fun w' => Below (S11) w5.drew w') (by kernel_rfl) (Below.refl _ _) (fun hHeld => ?_)
  obtain ⟨E11, hWE⟩ : ∃ W, w5.drew = W := ⟨_, rfl⟩
  rw [hWE] at hB H4 H9 hHeld lS ⊢
  clear hWE
  have hE := Below.refl E11.heap.size E11
  have hS : Below S11 E11 E11 := Below.refl _ _
  obtain ⟨⟨x4_0, x4_1, x4_2, x4_3⟩, -, -, -, -⟩ := id H4.box
  refine tk 0 (.bool true) 91 rfl rfl ?_
  simp only [Act.put, pA, pB, pC]
  refine tk 1 (.bool true) 92 rfl rfl ?_
  simp only [Act.put, pA, pB, pC]
  refine tk 2 (.bool true) 93 rfl rfl ?_
  simp only [Act.put, pA, pB, pC]
  refine tk 3 (.bool true) 94 rfl rfl ?_
  simp only [Act.put, pA, pB, pC]
  refine tk 4 (.bool true) 95 rfl rfl ?_
  simp only [Act.put, pA, pB, pC]
  refine tk 5 (.bool true) 96 rfl rfl ?_
  simp only [Act.put, pA, pB, pC]
  refine tk 6 (.bool true) 97 rfl rfl ?_
  simp only [Act.put, pA, pB, pC]
  refine tk 7 (.bool true) 98 rfl rfl ?_
  simp only [Act.put, pA, pB, pC]
  refine tk 8 (.int .i64 c) 99 rfl rfl ?_
  simp only [Act.put, pA, pB, pC]
  refine tk 9 (.int .i64 (-c)) 100 rfl rfl ?_
  simp only [Act.put, pA, pB, pC]
  refine tk 10 (.int .i64 c) 101 rfl rfl ?_
  simp only [Act.put, pA, pB, pC]
  refine tk 11 (.bool true) 102 rfl rfl ?_
  simp only [Act.put, pA, pB, pC]
  refine tk 12 (.bool true) 103 rfl rfl ?_
  simp only [Act.put, pA, pB, pC]
  refine tk 13 (.bool true) 104 rfl rfl ?_
  simp only [Act.put, pA, pB, pC]
  refine tk 14 (.int .i64 f) 105 rfl rfl ?_
  simp only [Act.put, pA, pB, pC]
  refine tk 15 (.int .i64 c) 106 rfl rfl ?_
  simp only [Act.put, pA, pB, pC]
  refine tk 16 (.bool bb) 107 rfl rfl ?_
  simp only [Act.put, pA, pB, pC]
  refine tk 17 (.agg #[.bool s19, .slice a19 n19 c19, .bool t19, .slice b19 m19 d19]) 108 rfl rfl ?_ (Or.inl ⟨by rfl, fun w' hSw => by have z0 := (hSw.cell (p := ⟨B4, 0, none⟩) l4E).trans x4_0; have z1 := (hSw.cell (p := ⟨B4, 1, none⟩) l4E).trans x4_1; have z2 := (hSw.cell (p := ⟨B4, 2, none⟩) l4E).trans x4_2; have z3 := (hSw.cell (p := ⟨B4, 3, none⟩) l4E).trans x4_3; go_simp⟩)
  simp only [Act.put, pA, pB, pC]
  refine tk 18 (.int .i64 f) 109 rfl rfl ?_
  simp only [Act.put, pA, pB, pC]
  refine wpAnyH_one 19 (by kernel_rfl) ?_
  have cc := int_r (f) (by omega) (by omega) E11
  refine wpOp_call (i := 19) (f := 28) (args := #[.int .i64 f]) 110 rfl rfl (by rfl) (by go_simp) ?_
  refine (cc).mono ?_
  rintro e r1 ⟨s110, a110, n110, c110, t110, b110, m110, d110, rfl, P1, P2, k1, k2, hk⟩
  clear cc
  have hE := hE.trans (hk.mono hE.size)
  have H4 := H4.below hk
  have H9 := H9.below hk
  have R110 := rarg_of (some ((f : Int) : Rat)) P1 P2 k1 k2
  clear P1 P2 k1 k2
  have hS : Below S11 E11 r1 := hE.mono lS
  refine ⟨_, rfl, hS, ?_⟩
  simp only [Act.put, pA, pB, pC]
  refine wpAnyH_one 20 (by kernel_rfl) ?_
  have cc := cmp_r s19 t19 s110 t110 a19 b19 a110 b110 n19 m19 n110 m110 c19 d19 c110 d110 (some x) (some ((f : Int) : Rat)) r1 H4.arg R110
  rw [K5.out] at cc
  refine wpOp_call (i := 20) (f := 37) (args := #[.agg #[.bool s19, .slice a19 n19 c19, .bool t19, .slice b19 m19 d19], .agg #[.bool s110, .slice a110 n110 c110, .bool t110, .slice b110 m110 d110]]) 111 rfl rfl (by rfl) (by go_simp) ?_
  refine (cc).mono ?_
  rintro e r2 ⟨rfl, hk⟩
  clear cc
  have hE := hE.trans (hk.mono hE.size)
  have H4 := H4.below hk
  have H9 := H9.below hk
  have R110 := R110.below hk
  have hS : Below S11 E11 r2 := hE.mono lS
  refine ⟨_, rfl, hS, ?_⟩
  simp only [Act.put, pA, pB, pC]
  refine tk 21 (.bool bb) 112 rfl rfl ?_
  simp only [Act.put, pA, pB, pC]
  refine tk 22 (.bool true) 113 rfl rfl ?_
  simp only [Act.put, pA, pB, pC]
  refine tk 23 (.bool true) 114 rfl rfl ?_
  simp only [Act.put, pA, pB, pC]
  refine tk 24 (.bool true) 2 rfl rfl ?_
  simp only [Act.put, pA, pB, pC]
  refine wpAnyH_done (by kernel_rfl) ?_ _
  have hB := hB.trans (hE.mono hB.size)
  clear x4_0 x4_1 x4_2 x4_3
  clear R110
  go_wp2
  go_ret
  exact ⟨rfl, hB⟩
theorem rrounds_true (x0 : Option Addr) (L0 d0 : Nat) (g0 : Nat → Int) (hc : L0 ≤ d0) (hn : x0 = none → L0 = 0 ∧ d0 = 0) (hL0 : L0 ≤ 9223372036854775807) (w : World) (ht : Pow10 w) (hsy : Syn w) (h0 : Ints w x0 L0 g0) :
 Calls Tryz.prog 7 #[.slice x0 L0 d0] w fun e w' => e = .returned (.bool true) ∧ Below w.heap.size w w' := by
 cases x0 with
 | some ad => exact rrounds_some ad L0 d0 g0 hc hL0 w ht hsy h0
 | none => obtain ⟨rfl, rfl⟩ := hn rfl; exact rrounds_none w ht hsy
end Go.Proofs.YtikepnocefdmnaaGreatDoor
