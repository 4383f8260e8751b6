/- the law NumDivides: it is true. -/
import Derived.Test.YtamibmikbbjjbaaGreatDoorFanC
import Derived.Test.YtamibmikbbjjbaaGreatDoorRdG
import Derived.Test.YtamibmikbbjjbaaGreatDoorDsM
import Derived.Test.YtamibmikbbjjbaaGreatDoorPRf
import Derived.Test.YtamibmikbbjjbaaGreatDoorSanity
namespace Go.Proofs.YtamibmikbbjjbaaGreatDoor
open Go.RowKit Go.Shelf

/-- digits that lay there before are no new block's -/
theorem oldC {w w2 : World} {a : Option Addr} {n m N : Nat} (h : Raw w a n) (hm : m ≤ n) (hN : w.heap.size ≤ N) : m = 0 ∨ Fresh w2 a ∨ ∀ ad, a = some ad → ad.block < N := by
  obtain ⟨f, h1, -⟩ := h
  rcases h1 with h0 | ⟨b, off, rfl, hc⟩
  · exact .inl (by omega)
  · by_cases hm0 : m = 0
    · exact .inl hm0
    · refine .inr (.inr fun ad e => ?_)
      cases e
      exact Nat.lt_of_lt_of_le (hc.lt (by omega)) hN
theorem HD.newC {w : World} {s : Bool} {a : Option Addr} {n : Nat} (c : Nat) (h : Digs w a n) (t : TypeId) : HD (w.alloc (Obj.cells #[.bool s, .slice a n c] t)) w.heap.size s a n c :=
  ⟨Box2.new _ _ _ _, h.below (below_alloc' _ _)⟩
/-- a row of cells that holds Nums, two cells each -/
structure PairsC (w : World) (b : Nat) (L : Nat) (s : Nat → Bool) (a : Nat → Option Addr) (n c : Nat → Nat) : Prop where
  c0 : ∀ j, j < L → w.cell? ⟨b, 2 * j, none⟩ = some (.bool (s j))
  c1 : ∀ j, j < L → w.cell? ⟨b, 2 * j + 1, none⟩ = some (.slice (a j) (n j) (c j))
  dig : ∀ j, j < L → Digs w (a j) (n j)
  cap : ∀ j, j < L → n j ≤ c j
theorem PairsC.below {w w' : World} {b L : Nat} {s : Nat → Bool} {a : Nat → Option Addr} {n c : Nat → Nat} (h : PairsC w b L s a n c) (t : Below w.heap.size w w') : PairsC w' b L s a n c :=
  ⟨fun j hj => (t.cell (p := ⟨b, 2 * j, none⟩) (lt_of_cell (h.c0 j hj))).trans (h.c0 j hj), fun j hj => (t.cell (p := ⟨b, 2 * j + 1, none⟩) (lt_of_cell (h.c1 j hj))).trans (h.c1 j hj), fun j hj => (h.dig j hj).below t, h.cap⟩

set_option maxRecDepth 100000 in
set_option maxHeartbeats 16000000 in
theorem divides_true (x0 x1 : Option Addr) (L0 L1 d0 d1 : Nat) (g0 g1 : Nat → Int) (hL0 : L0 ≤ 9223372036854775807) (hL1 : L1 ≤ 9223372036854775807) (lo : Int) (hlo0 : 0 ≤ lo) (hlo1 : lo ≤ 255)
    (t0 t1 : Bool) (r0 r1 : Option Addr) (m0 m1 e0 e1 : Nat) (hm0 : m0 ≤ e0) (hm1 : m1 ≤ e1) (hr0 : r0 = none → m0 = 0 ∧ e0 = 0) (hr1 : r1 = none → m1 = 0 ∧ e1 = 0) (w : World) (ht : Pow10 w) (h0 : Ints w x0 L0 g0) (h1 : Ints w x1 L1 g1) (h2 : Raw w r0 m0) (h3 : Raw w r1 m1) :
    Calls Tryz.prog 3 #[.agg #[.slice x0 L0 d0, .slice x1 L1 d1], .int .u8 lo, .agg #[.bool t0, .slice r0 m0 e0, .bool t1, .slice r1 m1 e1]] w fun e w' => e = .returned (.bool true) ∧ Below w.heap.size w w' := by
  have hk : ∃ kk : Nat, lo % 40 = (kk : Int) ∧ kk ≤ 64 := ⟨(lo % 40).toNat, by omega, by omega⟩
  obtain ⟨kk, hkk, hk64⟩ := hk
  have HK := hide hkk
  clear hkk
  have hB : Below w.heap.size w ((w.alloc (Obj.cells #[.slice x0 L0 d0, .slice x1 L1 d1] 23)).alloc (Obj.cells #[.bool t0, .slice r0 m0 e0, .bool t1, .slice r1 m1 e1] 27)) := (below_alloc' _ _).trans ((below_alloc' _ _).mono (by simp))
  have p0 : ((w.alloc (Obj.cells #[.slice x0 L0 d0, .slice x1 L1 d1] 23)).alloc (Obj.cells #[.bool t0, .slice r0 m0 e0, .bool t1, .slice r1 m1 e1] 27)).cell? ⟨w.heap.size, 0, none⟩ = some (.slice x0 L0 d0) := by simp [go_sem]
  have p1 : ((w.alloc (Obj.cells #[.slice x0 L0 d0, .slice x1 L1 d1] 23)).alloc (Obj.cells #[.bool t0, .slice r0 m0 e0, .bool t1, .slice r1 m1 e1] 27)).cell? ⟨w.heap.size, 1, none⟩ = some (.slice x1 L1 d1) := by simp [go_sem]
  have q0 : ((w.alloc (Obj.cells #[.slice x0 L0 d0, .slice x1 L1 d1] 23)).alloc (Obj.cells #[.bool t0, .slice r0 m0 e0, .bool t1, .slice r1 m1 e1] 27)).cell? ⟨w.heap.size + 1, 0, none⟩ = some (.bool t0) := by simp [go_sem]
  have q1 : ((w.alloc (Obj.cells #[.slice x0 L0 d0, .slice x1 L1 d1] 23)).alloc (Obj.cells #[.bool t0, .slice r0 m0 e0, .bool t1, .slice r1 m1 e1] 27)).cell? ⟨w.heap.size + 1, 1, none⟩ = some (.slice r0 m0 e0) := by simp [go_sem]
  have q2 : ((w.alloc (Obj.cells #[.slice x0 L0 d0, .slice x1 L1 d1] 23)).alloc (Obj.cells #[.bool t0, .slice r0 m0 e0, .bool t1, .slice r1 m1 e1] 27)).cell? ⟨w.heap.size + 1, 2, none⟩ = some (.bool t1) := by simp [go_sem]
  have q3 : ((w.alloc (Obj.cells #[.slice x0 L0 d0, .slice x1 L1 d1] 23)).alloc (Obj.cells #[.bool t0, .slice r0 m0 e0, .bool t1, .slice r1 m1 e1] 27)).cell? ⟨w.heap.size + 1, 3, none⟩ = some (.slice r1 m1 e1) := by simp [go_sem]
  go_enter Tryz.func3, Tryz.ntmps3
  go_wp2_with fail
  obtain ⟨W0, hW0⟩ : ∃ W0, (w.alloc (Obj.cells #[.slice x0 L0 d0, .slice x1 L1 d1] 23)).alloc (Obj.cells #[.bool t0, .slice r0 m0 e0, .bool t1, .slice r1 m1 e1] 27) = W0 := ⟨_, rfl⟩
  rw [hW0] at hB p0 p1 q0 q1 q2 q3 ⊢
  clear hW0
  refine (sanity_true W0 (ht.below hB)).mono ?_
  rintro e w1 ⟨rfl, hkeep⟩
  have hB1 := hB.trans (hkeep.mono hB.size)
  have p0 := (hkeep.cell (p := ⟨w.heap.size, 0, none⟩) (lt_of_cell p0)).trans p0
  have p1 := (hkeep.cell (p := ⟨w.heap.size, 1, none⟩) (lt_of_cell p1)).trans p1
  have q0 := (hkeep.cell (p := ⟨w.heap.size + 1, 0, none⟩) (lt_of_cell q0)).trans q0
  have q1 := (hkeep.cell (p := ⟨w.heap.size + 1, 1, none⟩) (lt_of_cell q1)).trans q1
  have q2 := (hkeep.cell (p := ⟨w.heap.size + 1, 2, none⟩) (lt_of_cell q2)).trans q2
  have q3 := (hkeep.cell (p := ⟨w.heap.size + 1, 3, none⟩) (lt_of_cell q3)).trans q3
  clear hB hkeep
  go_wp2_with fail
  have hB2 : Below w.heap.size w w1.drew := hB1.drew
  have p0 : w1.drew.cell? ⟨w.heap.size, 0, none⟩ = some (.slice x0 L0 d0) := p0
  have p1 : w1.drew.cell? ⟨w.heap.size, 1, none⟩ = some (.slice x1 L1 d1) := p1
  have q0 : w1.drew.cell? ⟨w.heap.size + 1, 0, none⟩ = some (.bool t0) := q0
  have q1 : w1.drew.cell? ⟨w.heap.size + 1, 1, none⟩ = some (.slice r0 m0 e0) := q1
  have q2 : w1.drew.cell? ⟨w.heap.size + 1, 2, none⟩ = some (.bool t1) := q2
  have q3 : w1.drew.cell? ⟨w.heap.size + 1, 3, none⟩ = some (.slice r1 m1 e1) := q3
  have l0 := h0.below (hB2.mono (Nat.le_refl _))
  have l1 := h1.below (hB2.mono (Nat.le_refl _))
  refine wp_region_held_drew (S := fun w' => Below w1.drew.heap.size w1.drew w') (by kernel_rfl) (Below.refl _ _) (fun hHeld => ?_)
  obtain ⟨WD, hWD⟩ : ∃ WD, w1.drew = WD := ⟨_, rfl⟩
  rw [hWD] at hB2 p0 p1 q0 q1 q2 q3 l0 l1 hHeld ⊢
  clear hWD hB1
  have hlt := lt_of_cell p0
  refine take_at (i := 0) (v := .pointer (some ⟨w.heap.size, 0, none⟩)) 26 rfl rfl (by kernel_rfl) (by kernel_rfl) (by kernel_rfl) (fun _ _ _ h => h) (Or.inl ⟨by rfl, fun w' hSw => by go_simp⟩) (by assumption) ?_
  simp only [Act.put, List.setIfInBounds_toArray, List.set_cons_zero, List.set_cons_succ]
  refine take_at (i := 1) (v := .slice x0 L0 d0) 27 rfl rfl (by kernel_rfl) (by kernel_rfl) (by kernel_rfl) (fun _ _ _ h => h) (Or.inl ⟨by rfl, fun w' hSw => by have q := (hSw.cell (p := ⟨w.heap.size, 0, none⟩) hlt).trans p0; go_simp⟩) (by assumption) ?_
  simp only [Act.put, List.setIfInBounds_toArray, List.set_cons_zero, List.set_cons_succ]
  refine take_at (i := 3) (v := .pointer (some ⟨w.heap.size, 1, none⟩)) 29 rfl rfl (by kernel_rfl) (by kernel_rfl) (by kernel_rfl) (fun _ _ _ h => h) (Or.inl ⟨by rfl, fun w' hSw => by go_simp⟩) (by assumption) ?_
  simp only [Act.put, List.setIfInBounds_toArray, List.set_cons_zero, List.set_cons_succ]
  refine take_at (i := 4) (v := .slice x1 L1 d1) 30 rfl rfl (by kernel_rfl) (by kernel_rfl) (by kernel_rfl) (fun _ _ _ h => h) (Or.inl ⟨by rfl, fun w' hSw => by have q := (hSw.cell (p := ⟨w.heap.size, 1, none⟩) hlt).trans p1; go_simp⟩) (by assumption) ?_
  simp only [Act.put, List.setIfInBounds_toArray, List.set_cons_zero, List.set_cons_succ]
  refine fanC 2 26 (fun U V => ⟨#[.agg #[.slice x0 L0 d0, .slice x1 L1 d1], .int .u8 lo, .agg #[.bool t0, .slice r0 m0 e0, .bool t1, .slice r1 m1 e1], .pointer (some ⟨w.heap.size, 0, none⟩), undef, .pointer (some ⟨w.heap.size + 1, 0, none⟩), .bool false, .bool true, U 0, U 1, undef, undef, undef, undef, undef, undef, undef, undef, undef, undef, undef, undef, undef, undef, undef, .bool true, .pointer (some ⟨w.heap.size, 0, none⟩), .slice x0 L0 d0, V 0, .pointer (some ⟨w.heap.size, 1, none⟩), .slice x1 L1 d1, V 1, undef, undef, undef, undef, undef, undef, undef, undef, undef, undef, undef, undef, undef, undef, undef, undef, undef, undef, undef, undef, undef, undef, undef, undef, undef, undef, undef, undef, undef, undef, undef, undef, undef, undef, undef, undef, undef, undef, undef, undef, undef, undef, undef, undef, undef, undef, undef, undef, undef, undef, undef, undef, undef, undef, undef, undef, undef, undef, undef, undef, undef, undef, undef, undef, undef, undef, undef, undef, undef, undef, undef, undef, undef, undef, undef, undef, undef, undef, undef, undef, undef, undef, undef, undef, undef, undef, undef, undef, undef, undef, undef, undef, undef, undef, undef, undef, undef], []⟩) WD (by kernel_rfl) (topo_of (by kernel_rfl)) (dep_of (by kernel_rfl)) ?hal ?hcl ?hst ?hend (fun _ => undef) (fun _ => undef) _ _ (by kernel_rfl) (of_decide_eq_true (by kernel_rfl)) (of_decide_eq_true (by kernel_rfl)) (of_decide_eq_true (by kernel_rfl))
  case hal =>
    intro k U V w' H hk h
    match k, hk with
    | 0, _ =>
      refine wpOp_run (i := 6) rfl ?_
      go_simp
      exact h
    | 1, _ =>
      refine wpOp_run (i := 7) rfl ?_
      go_simp
      exact h
  case hcl =>
    intro k U V w' H hk hb h
    match k, hk with
    | 0, _ =>
      refine wpOp_call (i := 2) (f := 14) (args := #[.slice x0 L0 d0]) 28 rfl rfl (by rfl) (by go_simp) ?_
      refine (made_cap x0 L0 d0 g0 hL0 w' (l0.below hb)).mono ?_
      rintro e w2 ⟨z, s, a, n, c, rfl, hN, h6, hf, hg, hc⟩
      exact ⟨_, rfl, h z s a n c w2 hN (by omega) hf hg⟩
    | 1, _ =>
      refine wpOp_call (i := 5) (f := 14) (args := #[.slice x1 L1 d1]) 31 rfl rfl (by rfl) (by go_simp) ?_
      refine (made_cap x1 L1 d1 g1 hL1 w' (l1.below hb)).mono ?_
      rintro e w2 ⟨z, s, a, n, c, rfl, hN, h6, hf, hg, hc⟩
      exact ⟨_, rfl, h z s a n c w2 hN (by omega) hf hg⟩
  case hst =>
    intro k U V w' H B s a n c hk hU hV hbox h
    obtain ⟨v0, v1, hbox⟩ := hbox
    obtain ⟨q0, q1, z0, z1⟩ := hbox
    match k, hk with
    | 0, _ =>
      refine wpOp_run (i := 8) rfl ?_
      simp only [hU, hV] at h ⊢
      go_simp
      exact h
    | 1, _ =>
      refine wpOp_run (i := 9) rfl ?_
      simp only [hU, hV] at h ⊢
      go_simp
      exact h
  case hend =>
    intro U V fB fs fa fn fc fz w3 hF
    obtain ⟨B8, s8, a8, n8, c8, hU0, H8, m8, b8⟩ := hF.held2 (k := 0) (by decide)
    obtain ⟨B9, s9, a9, n9, c9, hU1, H9, m9, b9⟩ := hF.held2 (k := 1) (by decide)
    have k8 : n8 ≤ c8 := by omega
    have k9 : n9 ≤ c9 := by omega
    have hkeep := hF.below
    have hB := hB2.trans (hkeep.mono hB2.size)
    clear hF
    obtain ⟨v28, hv28⟩ : ∃ v, V 0 = v := ⟨_, rfl⟩
    obtain ⟨v31, hv31⟩ : ∃ v, V 1 = v := ⟨_, rfl⟩
    rw [hU0, hU1, hv28, hv31]
    have q0 := (hkeep.cell (p := ⟨w.heap.size + 1, 0, none⟩) (lt_of_cell q0)).trans q0
    have q1 := (hkeep.cell (p := ⟨w.heap.size + 1, 1, none⟩) (lt_of_cell q1)).trans q1
    have q2 := (hkeep.cell (p := ⟨w.heap.size + 1, 2, none⟩) (lt_of_cell q2)).trans q2
    have q3 := (hkeep.cell (p := ⟨w.heap.size + 1, 3, none⟩) (lt_of_cell q3)).trans q3
    clear hU0 hU1 hv28 hv31 p0 p1 l0 l1 b8 b9 hHeld hB2 hlt hkeep
    obtain ⟨x8, y8, -, -⟩ := H8.box
    go_wp2_with fail
    clear x8 y8
    rw [HK.out]
    refine (raised_cap s8 a8 n8 c8 kk hk64 (by omega) w3 H8.dig).mono ?_
    rintro e u1 ⟨a10, n10, c10, rfl, N, hkeep, k10⟩
    have hB := hB.trans (hkeep.mono hB.size)
    have q0 := (hkeep.cell (p := ⟨w.heap.size + 1, 0, none⟩) (lt_of_cell q0)).trans q0
    have q1 := (hkeep.cell (p := ⟨w.heap.size + 1, 1, none⟩) (lt_of_cell q1)).trans q1
    have q2 := (hkeep.cell (p := ⟨w.heap.size + 1, 2, none⟩) (lt_of_cell q2)).trans q2
    have q3 := (hkeep.cell (p := ⟨w.heap.size + 1, 3, none⟩) (lt_of_cell q3)).trans q3
    have H8 := H8.below hkeep
    have H9 := H9.below hkeep
    have H10 := HD.newC (s := s8) c10 N 26
    clear N
    have hkeep := below_alloc' u1 (Obj.cells #[.bool s8, .slice a10 n10 c10] 26)
    obtain ⟨W10, hW10⟩ : ∃ W, u1.alloc (Obj.cells #[.bool s8, .slice a10 n10 c10] 26) = W := ⟨_, rfl⟩
    obtain ⟨B10, hB10⟩ : ∃ B, u1.heap.size = B := ⟨_, rfl⟩
    have hB := hB.trans (hkeep.mono hB.size)
    rw [hW10] at hkeep H10 hB
    have q0 := (hkeep.cell (p := ⟨w.heap.size + 1, 0, none⟩) (lt_of_cell q0)).trans q0
    have q1 := (hkeep.cell (p := ⟨w.heap.size + 1, 1, none⟩) (lt_of_cell q1)).trans q1
    have q2 := (hkeep.cell (p := ⟨w.heap.size + 1, 2, none⟩) (lt_of_cell q2)).trans q2
    have q3 := (hkeep.cell (p := ⟨w.heap.size + 1, 3, none⟩) (lt_of_cell q3)).trans q3
    have H8 := H8.below hkeep
    have H9 := H9.below hkeep
    rw [hB10] at H10
    clear hkeep
    go_wp2_with fail
    try rw [hW10]
    try rw [hB10]
    clear hW10 hB10
    have hB2 : Below w.heap.size w W10.drew := hB.drew
    have q0 : W10.drew.cell? ⟨w.heap.size + 1, 0, none⟩ = some (.bool t0) := q0
    have q1 : W10.drew.cell? ⟨w.heap.size + 1, 1, none⟩ = some (.slice r0 m0 e0) := q1
    have q2 : W10.drew.cell? ⟨w.heap.size + 1, 2, none⟩ = some (.bool t1) := q2
    have q3 : W10.drew.cell? ⟨w.heap.size + 1, 3, none⟩ = some (.slice r1 m1 e1) := q3
    have H8 : HD W10.drew B8 s8 a8 n8 c8 := H8.below (Below.drew (Below.refl _ _))
    have H9 : HD W10.drew B9 s9 a9 n9 c9 := H9.below (Below.drew (Below.refl _ _))
    have H10 : HD W10.drew B10 s8 a10 n10 c10 := H10.below (Below.drew (Below.refl _ _))
    have l2 := h2.below (hB2.mono (Nat.le_refl _))
    have l3 := h3.below (hB2.mono (Nat.le_refl _))
    have hw0 := hB2.size
    refine wp_region_held_drew (S := fun w' => Below W10.drew.heap.size W10.drew w') (by kernel_rfl) (Below.refl _ _) (fun hHeld => ?_)
    obtain ⟨WE, hWE⟩ : ∃ WE, W10.drew = WE := ⟨_, rfl⟩
    rw [hWE] at hB2 q0 q1 q2 q3 l2 l3 H8 H9 H10 hHeld hw0 ⊢
    clear hWE hB
    have hlt := lt_of_cell q0
    refine take_at (i := 0) (v := .pointer (some ⟨w.heap.size + 1, 0, none⟩)) 37 rfl rfl (by kernel_rfl) (by kernel_rfl) (by kernel_rfl) (fun _ _ _ h => h) (Or.inl ⟨by rfl, fun w' hSw => by go_simp⟩) (by assumption) ?_
    simp only [Act.put, List.setIfInBounds_toArray, List.set_cons_zero, List.set_cons_succ]
    refine take_at (i := 1) (v := .agg #[.bool t0, .slice r0 m0 e0]) 38 rfl rfl (by kernel_rfl) (by kernel_rfl) (by kernel_rfl) (fun _ _ _ h => h) (Or.inl ⟨by rfl, fun w' hSw => by have qa := (hSw.cell (p := ⟨w.heap.size + 1, 0, none⟩) hlt).trans q0; have qb := (hSw.cell (p := ⟨w.heap.size + 1, 1, none⟩) hlt).trans q1; go_simp⟩) (by assumption) ?_
    simp only [Act.put, List.setIfInBounds_toArray, List.set_cons_zero, List.set_cons_succ]
    refine take_at (i := 3) (v := .pointer (some ⟨w.heap.size + 1, 2, none⟩)) 40 rfl rfl (by kernel_rfl) (by kernel_rfl) (by kernel_rfl) (fun _ _ _ h => h) (Or.inl ⟨by rfl, fun w' hSw => by go_simp⟩) (by assumption) ?_
    simp only [Act.put, List.setIfInBounds_toArray, List.set_cons_zero, List.set_cons_succ]
    refine take_at (i := 4) (v := .agg #[.bool t1, .slice r1 m1 e1]) 41 rfl rfl (by kernel_rfl) (by kernel_rfl) (by kernel_rfl) (fun _ _ _ h => h) (Or.inl ⟨by rfl, fun w' hSw => by have qa := (hSw.cell (p := ⟨w.heap.size + 1, 2, none⟩) hlt).trans q2; have qb := (hSw.cell (p := ⟨w.heap.size + 1, 3, none⟩) hlt).trans q3; go_simp⟩) (by assumption) ?_
    simp only [Act.put, List.setIfInBounds_toArray, List.set_cons_zero, List.set_cons_succ]
    refine fanE 2 26 (fun U V => ⟨#[.agg #[.slice x0 L0 d0, .slice x1 L1 d1], .int .u8 lo, .agg #[.bool t0, .slice r0 m0 e0, .bool t1, .slice r1 m1 e1], .pointer (some ⟨w.heap.size, 0, none⟩), undef, .pointer (some ⟨w.heap.size + 1, 0, none⟩), .bool false, .bool true, .pointer (some ⟨B8, 0, none⟩), .pointer (some ⟨B9, 0, none⟩), .pointer (some ⟨B10, 0, none⟩), U 0, U 1, undef, undef, undef, undef, undef, undef, undef, undef, undef, undef, undef, undef, .bool true, .pointer (some ⟨w.heap.size, 0, none⟩), .slice x0 L0 d0, v28, .pointer (some ⟨w.heap.size, 1, none⟩), .slice x1 L1 d1, v31, .agg #[.bool s8, .slice a8 n8 c8], .int .u8 lo, .int .i64 lo, .int .i64 (kk : Int), .agg #[.bool s8, .slice a10 n10 c10], .pointer (some ⟨w.heap.size + 1, 0, none⟩), .agg #[.bool t0, .slice r0 m0 e0], V 0, .pointer (some ⟨w.heap.size + 1, 2, none⟩), .agg #[.bool t1, .slice r1 m1 e1], V 1, undef, undef, undef, undef, undef, undef, undef, undef, undef, undef, undef, undef, undef, undef, undef, undef, undef, undef, undef, undef, undef, undef, undef, undef, undef, undef, undef, undef, undef, undef, undef, undef, undef, undef, undef, undef, undef, undef, undef, undef, undef, undef, undef, undef, undef, undef, undef, undef, undef, undef, undef, undef, undef, undef, undef, undef, undef, undef, undef, undef, undef, undef, undef, undef, undef, undef, undef, undef, undef, undef, undef, undef, undef, undef, undef, undef, undef, undef, undef, undef, undef, undef, undef, undef, undef, undef], []⟩) WE (by kernel_rfl) (topo_of (by kernel_rfl)) (dep_of (by kernel_rfl)) ?hal ?hcl ?hst ?hend (fun _ => undef) (fun _ => undef) _ _ (by kernel_rfl) (of_decide_eq_true (by kernel_rfl)) (of_decide_eq_true (by kernel_rfl)) (of_decide_eq_true (by kernel_rfl))
    case hal =>
      intro k U V w' H hk h
      match k, hk with
      | 0, _ =>
        refine wpOp_run (i := 6) rfl ?_
        go_simp
        exact h
      | 1, _ =>
        refine wpOp_run (i := 7) rfl ?_
        go_simp
        exact h
    case hcl =>
      intro k U V w' H hk hb h
      match k, hk with
      | 0, _ =>
        refine wpOp_call (i := 2) (f := 16) (args := #[.agg #[.bool t0, .slice r0 m0 e0], .int .i64 20]) 39 rfl rfl (by rfl) (by go_simp) ?_
        refine (cut20_any t0 r0 m0 e0 hm0 hr0 w' (l2.below hb)).mono ?_
        rintro e w2 ⟨m, hm, rfl, hN, hg⟩
        exact ⟨_, rfl, h t0 r0 m e0 w2 ⟨hN, by omega⟩ (oldC h2 hm hw0) hg⟩
      | 1, _ =>
        refine wpOp_call (i := 5) (f := 16) (args := #[.agg #[.bool t1, .slice r1 m1 e1], .int .i64 20]) 42 rfl rfl (by rfl) (by go_simp) ?_
        refine (cut20_any t1 r1 m1 e1 hm1 hr1 w' (l3.below hb)).mono ?_
        rintro e w2 ⟨m, hm, rfl, hN, hg⟩
        exact ⟨_, rfl, h t1 r1 m e1 w2 ⟨hN, by omega⟩ (oldC h3 hm hw0) hg⟩
    case hst =>
      intro k U V w' H B s a n c hk hU hV hbox h
      obtain ⟨v0, v1, hbox⟩ := hbox
      obtain ⟨q0, q1, z0, z1⟩ := hbox
      match k, hk with
      | 0, _ =>
        refine wpOp_run (i := 8) rfl ?_
        simp only [hU, hV] at h ⊢
        go_simp
        exact h
      | 1, _ =>
        refine wpOp_run (i := 9) rfl ?_
        simp only [hU, hV] at h ⊢
        go_simp
        exact h
    case hend =>
      intro U V fB fs fa fn fc w4 hF
      obtain ⟨B11, s11, a11, n11, c11, hU0, H11, k11, b11⟩ := hF.held (k := 0) (by decide)
      obtain ⟨B12, s12, a12, n12, c12, hU1, H12, k12, b12⟩ := hF.held (k := 1) (by decide)
      have hkeep := hF.below
      have hB := hB2.trans (hkeep.mono hB2.size)
      clear hF
      obtain ⟨v39, hv39⟩ : ∃ v, V 0 = v := ⟨_, rfl⟩
      obtain ⟨v42, hv42⟩ : ∃ v, V 1 = v := ⟨_, rfl⟩
      rw [hU0, hU1, hv39, hv42]
      clear hU0 hU1 hv39 hv42 q0 q1 q2 q3 l2 l3 b11 b12 hHeld hB2 hlt hw0 U V fB fs fa fn fc
      have H8 := H8.below hkeep
      have H9 := H9.below hkeep
      have H10 := H10.below hkeep
      clear hkeep
      obtain ⟨x8, y8, -, -⟩ := H8.box
      obtain ⟨x9, y9, -, -⟩ := H9.box
      obtain ⟨x10, y10, -, -⟩ := H10.box
      obtain ⟨x11, y11, -, -⟩ := H11.box
      obtain ⟨x12, y12, -, -⟩ := H12.box
      go_wp2_with fail
      have hP : ∃ (fs : Nat → Bool) (fa : Nat → Option Addr) (fn fc : Nat → Nat), PairsC (w4.alloc (Obj.cells #[.bool s8, .slice a8 n8 c8, .bool s9, .slice a9 n9 c9, .bool s9, .slice a9 n9 c9, .bool s8, .slice a8 n8 c8, .bool s8, .slice a10 n10 c10, .bool s9, .slice a9 n9 c9, .bool s11, .slice a11 n11 c11, .bool s12, .slice a12 n12 c12, .bool s11, .slice a11 n11 c11, .bool s9, .slice a9 n9 c9, .bool s8, .slice a10 n10 c10, .bool s11, .slice a11 n11 c11] 27)) w4.heap.size 12 fs fa fn fc := by
        have hal := below_alloc' w4 (Obj.cells #[.bool s8, .slice a8 n8 c8, .bool s9, .slice a9 n9 c9, .bool s9, .slice a9 n9 c9, .bool s8, .slice a8 n8 c8, .bool s8, .slice a10 n10 c10, .bool s9, .slice a9 n9 c9, .bool s11, .slice a11 n11 c11, .bool s12, .slice a12 n12 c12, .bool s11, .slice a11 n11 c11, .bool s9, .slice a9 n9 c9, .bool s8, .slice a10 n10 c10, .bool s11, .slice a11 n11 c11] 27)
        refine ⟨fun j => [s8, s9, s9, s8, s8, s9, s11, s12, s11, s9, s8, s11].getD j false, fun j => [a8, a9, a9, a8, a10, a9, a11, a12, a11, a9, a10, a11].getD j none, fun j => [n8, n9, n9, n8, n10, n9, n11, n12, n11, n9, n10, n11].getD j 0, fun j => [c8, c9, c9, c8, c10, c9, c11, c12, c11, c9, c10, c11].getD j 0, fun j hj => ?_, fun j hj => ?_, fun j hj => ?_, fun j hj => ?_⟩
        · match j, hj with
          | 0, _ => simp [go_sem]
          | 1, _ => simp [go_sem]
          | 2, _ => simp [go_sem]
          | 3, _ => simp [go_sem]
          | 4, _ => simp [go_sem]
          | 5, _ => simp [go_sem]
          | 6, _ => simp [go_sem]
          | 7, _ => simp [go_sem]
          | 8, _ => simp [go_sem]
          | 9, _ => simp [go_sem]
          | 10, _ => simp [go_sem]
          | 11, _ => simp [go_sem]
        · match j, hj with
          | 0, _ => simp [go_sem]
          | 1, _ => simp [go_sem]
          | 2, _ => simp [go_sem]
          | 3, _ => simp [go_sem]
          | 4, _ => simp [go_sem]
          | 5, _ => simp [go_sem]
          | 6, _ => simp [go_sem]
          | 7, _ => simp [go_sem]
          | 8, _ => simp [go_sem]
          | 9, _ => simp [go_sem]
          | 10, _ => simp [go_sem]
          | 11, _ => simp [go_sem]
        · match j, hj with
          | 0, _ => exact H8.dig.below hal
          | 1, _ => exact H9.dig.below hal
          | 2, _ => exact H9.dig.below hal
          | 3, _ => exact H8.dig.below hal
          | 4, _ => exact H10.dig.below hal
          | 5, _ => exact H9.dig.below hal
          | 6, _ => exact H11.dig.below hal
          | 7, _ => exact H12.dig.below hal
          | 8, _ => exact H11.dig.below hal
          | 9, _ => exact H9.dig.below hal
          | 10, _ => exact H10.dig.below hal
          | 11, _ => exact H11.dig.below hal
        · match j, hj with
          | 0, _ => exact k8
          | 1, _ => exact k9
          | 2, _ => exact k9
          | 3, _ => exact k8
          | 4, _ => exact k10
          | 5, _ => exact k9
          | 6, _ => exact k11
          | 7, _ => exact k12
          | 8, _ => exact k11
          | 9, _ => exact k9
          | 10, _ => exact k10
          | 11, _ => exact k11
      obtain ⟨fs, fa, fn, fc, HP⟩ := hP
      have hB := hB.trans ((below_alloc' w4 (Obj.cells #[.bool s8, .slice a8 n8 c8, .bool s9, .slice a9 n9 c9, .bool s9, .slice a9 n9 c9, .bool s8, .slice a8 n8 c8, .bool s8, .slice a10 n10 c10, .bool s9, .slice a9 n9 c9, .bool s11, .slice a11 n11 c11, .bool s12, .slice a12 n12 c12, .bool s11, .slice a11 n11 c11, .bool s9, .slice a9 n9 c9, .bool s8, .slice a10 n10 c10, .bool s11, .slice a11 n11 c11] 27)).mono hB.size)
      obtain ⟨W5, hW5⟩ : ∃ W5, w4.alloc (Obj.cells #[.bool s8, .slice a8 n8 c8, .bool s9, .slice a9 n9 c9, .bool s9, .slice a9 n9 c9, .bool s8, .slice a8 n8 c8, .bool s8, .slice a10 n10 c10, .bool s9, .slice a9 n9 c9, .bool s11, .slice a11 n11 c11, .bool s12, .slice a12 n12 c12, .bool s11, .slice a11 n11 c11, .bool s9, .slice a9 n9 c9, .bool s8, .slice a10 n10 c10, .bool s11, .slice a11 n11 c11] 27) = W5 := ⟨_, rfl⟩
      obtain ⟨B61, hB61⟩ : ∃ B61, w4.heap.size = B61 := ⟨_, rfl⟩
      rw [hW5] at HP hB ⊢
      rw [hB61] at HP ⊢
      clear hW5 hB61 x8 x9 x10 x11 x12 y8 y9 y10 y11 y12 H8 H9 H10 H11 H12 h0 h1 h2 h3 ht HK
      have HPH := hide HP
      clear HP
      go_loopw [63] (fun i wr => ∃ k : Nat, k ≤ 6 ∧ i = .int .i64 (k : Int) ∧ Below W5.heap.size W5 wr) (fun i _ => (6 - intOf i).toNat)
      case atStart => exact ⟨0, by decide, rfl, Below.refl _ _⟩
      case round =>
        obtain ⟨k, hk, rfl, hr⟩ := hrel
        have hBr := hB.trans (hr.mono hB.size)
        by_cases hlt : k < 6
        · have hP := HPH.out.below hr
          have z0 := hP.c0 (2 * k) (by omega)
          have z1 := hP.c1 (2 * k) (by omega)
          have z2 := hP.c0 (2 * k + 1) (by omega)
          have z3 := hP.c1 (2 * k + 1) (by omega)
          obtain ⟨o0, ho0⟩ := (hP.dig (2 * k) (by omega)).arg (fs (2 * k))
          obtain ⟨o1, ho1⟩ := (hP.dig (2 * k + 1) (by omega)).arg (fs (2 * k + 1))
          have hk6 : (k : Int) < 6 := by omega
          rw [show 2 * (2 * k) = k * 4 by omega] at z0
          rw [show 2 * (2 * k) + 1 = k * 4 + 1 by omega] at z1
          rw [show 2 * (2 * k + 1) = k * 4 + 2 by omega] at z2
          rw [show 2 * (2 * k + 1) + 1 = k * 4 + 3 by omega] at z3
          obtain ⟨sa, hsa⟩ : ∃ x, fs (2 * k) = x := ⟨_, rfl⟩
          obtain ⟨sb, hsb⟩ : ∃ x, fs (2 * k + 1) = x := ⟨_, rfl⟩
          obtain ⟨aa, haa⟩ : ∃ x, fa (2 * k) = x := ⟨_, rfl⟩
          obtain ⟨ab, hab⟩ : ∃ x, fa (2 * k + 1) = x := ⟨_, rfl⟩
          obtain ⟨na, hna⟩ : ∃ x, fn (2 * k) = x := ⟨_, rfl⟩
          obtain ⟨nb, hnb⟩ : ∃ x, fn (2 * k + 1) = x := ⟨_, rfl⟩
          obtain ⟨ca, hca⟩ : ∃ x, fc (2 * k) = x := ⟨_, rfl⟩
          obtain ⟨cb, hcb⟩ : ∃ x, fc (2 * k + 1) = x := ⟨_, rfl⟩
          rw [hsa] at z0 ho0
          rw [haa, hna] at z1 ho0
          rw [hca] at z1
          rw [hsb] at z2 ho1
          rw [hab, hnb] at z3 ho1
          rw [hcb] at z3
          have kca : na ≤ ca := by rw [← hna, ← hca]; exact hP.cap (2 * k) (by omega)
          have kcb : nb ≤ cb := by rw [← hnb, ← hcb]; exact hP.cap (2 * k + 1) (by omega)
          clear hP hsa hsb haa hab hna hnb hca hcb
          go_wp2_with fail
          have hal := below_alloc' wr (Obj.cells #[.bool sa, .slice aa na ca, .bool sb, .slice ab nb cb] 27)
          have v0 : (wr.alloc (Obj.cells #[.bool sa, .slice aa na ca, .bool sb, .slice ab nb cb] 27)).cell? ⟨wr.heap.size, 0, none⟩ = some (.bool sa) := by simp [go_sem]
          have v1 : (wr.alloc (Obj.cells #[.bool sa, .slice aa na ca, .bool sb, .slice ab nb cb] 27)).cell? ⟨wr.heap.size, 1, none⟩ = some (.slice aa na ca) := by simp [go_sem]
          have v2 : (wr.alloc (Obj.cells #[.bool sa, .slice aa na ca, .bool sb, .slice ab nb cb] 27)).cell? ⟨wr.heap.size, 2, none⟩ = some (.bool sb) := by simp [go_sem]
          have v3 : (wr.alloc (Obj.cells #[.bool sa, .slice aa na ca, .bool sb, .slice ab nb cb] 27)).cell? ⟨wr.heap.size, 3, none⟩ = some (.slice ab nb cb) := by simp [go_sem]
          obtain ⟨wz, hwz⟩ : ∃ wz, wr.alloc (Obj.cells #[.bool sa, .slice aa na ca, .bool sb, .slice ab nb cb] 27) = wz := ⟨_, rfl⟩
          rw [hwz] at hal v0 v1 v2 v3 ⊢
          clear hwz z0 z1 z2 z3
          have ho0 := ho0.below hal
          have ho1 := ho1.below hal
          have hr2 := hr.trans (hal.mono hr.size)
          clear hal
          have HZ : Four wz wr.heap.size (.bool sa) (.slice aa na ca) (.bool sb) (.slice ab nb cb) := ⟨v0, v1, v2, v3⟩
          clear v0 v1 v2 v3
          have hz : Below wz.heap.size wz wz := Below.refl _ _
          obtain ⟨Q, hQ⟩ : ∃ x, qO o0 o1 = x := ⟨_, rfl⟩
          obtain ⟨R, hR⟩ : ∃ x, rO o0 o1 = x := ⟨_, rfl⟩
          obtain ⟨ok, hok⟩ : ∃ x, kO o0 o1 = x := ⟨_, rfl⟩
          obtain ⟨gg, hgg⟩ : ∃ x, gcdO o0 o1 = x := ⟨_, rfl⟩
          obtain ⟨gb, hgb⟩ : ∃ x, gg.isSome = x := ⟨_, rfl⟩
          obtain ⟨gz, hgz⟩ : ∃ x, gg.getD 0 = x := ⟨_, rfl⟩
          have P1 : Hid (∀ W, Below wz.heap.size wz W → Calls Tryz.prog 17 #[.agg #[.bool sa, .slice aa na ca], .agg #[.bool sb, .slice ab nb cb]] W (DivOut W Q R ok)) := hide (fun W hW => by
            have := div_arg sa sb aa ab na nb ca cb o0 o1 W (ho0.below hW) (ho1.below hW)
            rw [hQ, hR, hok] at this; exact this)
          have P2 : Hid (∀ W, Below wz.heap.size wz W → Calls Tryz.prog 18 #[.agg #[.bool sa, .slice aa na ca], .agg #[.bool sb, .slice ab nb cb]] W (DivOut W Q R ok)) := hide (fun W hW => by
            have := rdiv_arg sa sb aa ab na nb ca cb o0 o1 kca W (ho0.below hW) (ho1.below hW)
            rw [hQ, hR, hok] at this; exact this)
          have P3 : Hid (∀ W, Below wz.heap.size wz W → Calls Tryz.prog 19 #[.agg #[.bool sa, .slice aa na ca], .agg #[.bool sb, .slice ab nb cb]] W (OptPost W gg)) := hide (fun W hW => by
            have := gcd_arg sa sb aa ab na nb ca cb o0 o1 W (ho0.below hW) (ho1.below hW)
            rw [hgg] at this; exact this)
          have P4 : Hid (∀ W, Below wz.heap.size wz W → Calls Tryz.prog 20 #[.agg #[.bool sa, .slice aa na ca], .agg #[.bool sb, .slice ab nb cb]] W (OptPost W gg)) := hide (fun W hW => by
            have := rgcd_arg sa sb aa ab na nb ca cb o0 o1 kca kcb W (ho0.below hW) (ho1.below hW)
            rw [hgg] at this; exact this)
          have HGB := hide hgb
          have HGZ := hide hgz
          clear hQ hR hok hgg hgb hgz ho0 ho1
          obtain ⟨bz, hbz⟩ : ∃ b, wr.heap.size = b := ⟨_, rfl⟩
          rw [hbz] at HZ ⊢
          clear hbz
          refine (P1.out wz hz).mono ?_
          rintro e y1 ⟨s15, a15, n15, c15, s16, a16, n16, c16, rfl, N1, N2, k15, k16, hkeep⟩
          have hz := hz.trans (hkeep.mono hz.size)
          have HZ := HZ.below hkeep
          clear hkeep
          obtain ⟨Z15, hZ15⟩ : ∃ Z, (y1.alloc (Obj.cells #[.bool false, .slice none 0 0] 26)).alloc (Obj.cells #[.bool false, .slice none 0 0] 26) = Z := ⟨_, rfl⟩
          obtain ⟨W15, hW15⟩ : ∃ W, (((Z15.setCell ⟨y1.heap.size, 0, none⟩ (.bool s15)).setCell ⟨y1.heap.size, 1, none⟩ (.slice a15 n15 c15)).setCell ⟨y1.heap.size + 1, 0, none⟩ (.bool s16)).setCell ⟨y1.heap.size + 1, 1, none⟩ (.slice a16 n16 c16) = W := ⟨_, rfl⟩
          obtain ⟨H15, H16, hkeep, bx, by', -⟩ := two_nums (c1 := c15) (c2 := c16) hZ15 hW15 N1 N2
          clear N1 N2
          obtain ⟨B15, hB15⟩ : ∃ B, y1.heap.size = B := ⟨_, rfl⟩
          have hz := hz.trans (hkeep.mono hz.size)
          have HZ := HZ.below hkeep
          clear hkeep
          rw [hB15] at hW15 H15 H16 bx by'
          obtain ⟨bx0, bx1, bz0, bz1⟩ := bx
          obtain ⟨by0, by1, by2, by3⟩ := by'
          obtain ⟨v0, v1, v2, v3⟩ := id HZ
          go_wp2_with fail
          try rw [hW15]
          try rw [hB15]
          clear hW15 hB15
          clear hZ15 bx0 bx1 bz0 bz1 by0 by1 by2 by3
          clear v0 v1 v2 v3
          refine (P2.out W15 hz).mono ?_
          rintro e y2 ⟨s18, a18, n18, c18, s19, a19, n19, c19, rfl, N1, N2, k18, k19, hkeep⟩
          have hz := hz.trans (hkeep.mono hz.size)
          have HZ := HZ.below hkeep
          have H15 := H15.below hkeep
          have H16 := H16.below hkeep
          clear hkeep
          obtain ⟨Z18, hZ18⟩ : ∃ Z, (y2.alloc (Obj.cells #[.bool false, .slice none 0 0] 26)).alloc (Obj.cells #[.bool false, .slice none 0 0] 26) = Z := ⟨_, rfl⟩
          obtain ⟨W18, hW18⟩ : ∃ W, (((Z18.setCell ⟨y2.heap.size, 0, none⟩ (.bool s18)).setCell ⟨y2.heap.size, 1, none⟩ (.slice a18 n18 c18)).setCell ⟨y2.heap.size + 1, 0, none⟩ (.bool s19)).setCell ⟨y2.heap.size + 1, 1, none⟩ (.slice a19 n19 c19) = W := ⟨_, rfl⟩
          obtain ⟨H18, H19, hkeep, bx, by', -⟩ := two_nums (c1 := c18) (c2 := c19) hZ18 hW18 N1 N2
          clear N1 N2
          obtain ⟨B18, hB18⟩ : ∃ B, y2.heap.size = B := ⟨_, rfl⟩
          have hz := hz.trans (hkeep.mono hz.size)
          have HZ := HZ.below hkeep
          have H15 := H15.below hkeep
          have H16 := H16.below hkeep
          clear hkeep
          rw [hB18] at hW18 H18 H19 bx by'
          obtain ⟨bx0, bx1, bz0, bz1⟩ := bx
          obtain ⟨by0, by1, by2, by3⟩ := by'
          obtain ⟨v0, v1, v2, v3⟩ := id HZ
          go_wp2_with fail
          try rw [hW18]
          try rw [hB18]
          clear hW18 hB18
          clear hZ18 bx0 bx1 bz0 bz1 by0 by1 by2 by3
          clear v0 v1 v2 v3
          refine (P3.out W18 hz).mono ?_
          rintro e y3 ⟨s21, a21, n21, c21, rfl, N, k21, -, hkeep⟩
          rw [HGB.out]
          rw [HGZ.out] at N
          have hz := hz.trans (hkeep.mono hz.size)
          have HZ := HZ.below hkeep
          have H15 := H15.below hkeep
          have H16 := H16.below hkeep
          have H18 := H18.below hkeep
          have H19 := H19.below hkeep
          clear hkeep
          have H21 := Held.new c21 N 26
          clear N
          have hkeep := below_alloc y3 (Obj.cells #[.bool s21, .slice a21 n21 c21] 26)
          obtain ⟨W21, hW21⟩ : ∃ W, y3.alloc (Obj.cells #[.bool s21, .slice a21 n21 c21] 26) = W := ⟨_, rfl⟩
          obtain ⟨B21, hB21⟩ : ∃ B, y3.heap.size = B := ⟨_, rfl⟩
          rw [hW21] at hkeep H21
          rw [hB21] at H21
          have hz := hz.trans (hkeep.mono hz.size)
          have HZ := HZ.below hkeep
          have H15 := H15.below hkeep
          have H16 := H16.below hkeep
          have H18 := H18.below hkeep
          have H19 := H19.below hkeep
          clear hkeep
          obtain ⟨v0, v1, v2, v3⟩ := id HZ
          go_wp2_with fail
          try rw [hW21]
          try rw [hB21]
          clear hW21 hB21
          clear v0 v1 v2 v3
          refine (P4.out W21 hz).mono ?_
          rintro e y4 ⟨s23, a23, n23, c23, rfl, N, k23, -, hkeep⟩
          rw [HGB.out]
          rw [HGZ.out] at N
          have hz := hz.trans (hkeep.mono hz.size)
          have HZ := HZ.below hkeep
          have H15 := H15.below hkeep
          have H16 := H16.below hkeep
          have H18 := H18.below hkeep
          have H19 := H19.below hkeep
          have H21 := H21.below hkeep
          clear hkeep
          have H23 := Held.new c23 N 26
          clear N
          have hkeep := below_alloc y4 (Obj.cells #[.bool s23, .slice a23 n23 c23] 26)
          obtain ⟨W23, hW23⟩ : ∃ W, y4.alloc (Obj.cells #[.bool s23, .slice a23 n23 c23] 26) = W := ⟨_, rfl⟩
          obtain ⟨B23, hB23⟩ : ∃ B, y4.heap.size = B := ⟨_, rfl⟩
          rw [hW23] at hkeep H23
          rw [hB23] at H23
          have hz := hz.trans (hkeep.mono hz.size)
          have HZ := HZ.below hkeep
          have H15 := H15.below hkeep
          have H16 := H16.below hkeep
          have H18 := H18.below hkeep
          have H19 := H19.below hkeep
          have H21 := H21.below hkeep
          clear hkeep
          obtain ⟨x15, y15, -, -⟩ := H15.box
          obtain ⟨x18, y18, -, -⟩ := H18.box
          go_wp2_with fail
          clear x15 y15 x18 y18
          try rw [hW23]
          try rw [hB23]
          clear hW23 hB23
          refine (same_eq s15 s18 a15 a18 n15 n18 c15 c18 Q k15 W23 H15.num H18.num).mono ?_
          rintro e y5 ⟨rfl, hkeep⟩
          have hz := hz.trans (hkeep.mono hz.size)
          have HZ := HZ.below hkeep
          have H15 := H15.below hkeep
          have H16 := H16.below hkeep
          have H18 := H18.below hkeep
          have H19 := H19.below hkeep
          have H21 := H21.below hkeep
          have H23 := H23.below hkeep
          clear hkeep
          obtain ⟨x16, y16, -, -⟩ := H16.box
          obtain ⟨x19, y19, -, -⟩ := H19.box
          go_wp2_with fail
          clear x16 y16 x19 y19
          refine (same_eq s16 s19 a16 a19 n16 n19 c16 c19 R k16 y5 H16.num H19.num).mono ?_
          rintro e y6 ⟨rfl, hkeep⟩
          have hz := hz.trans (hkeep.mono hz.size)
          have HZ := HZ.below hkeep
          have H15 := H15.below hkeep
          have H16 := H16.below hkeep
          have H18 := H18.below hkeep
          have H19 := H19.below hkeep
          have H21 := H21.below hkeep
          have H23 := H23.below hkeep
          clear hkeep
          obtain ⟨x21, y21, -, -⟩ := H21.box
          obtain ⟨x23, y23, -, -⟩ := H23.box
          go_wp2_with fail
          clear x21 y21 x23 y23
          refine (same_eq s21 s23 a21 a23 n21 n23 c21 c23 gz k21 y6 H21.num H23.num).mono ?_
          rintro e y7 ⟨rfl, hkeep⟩
          have hz := hz.trans (hkeep.mono hz.size)
          have HZ := HZ.below hkeep
          have H15 := H15.below hkeep
          have H16 := H16.below hkeep
          have H18 := H18.below hkeep
          have H19 := H19.below hkeep
          have H21 := H21.below hkeep
          have H23 := H23.below hkeep
          clear hkeep
          have hr4 := hr2.trans (hz.mono hr2.size)
          clear HZ H15 H16 H18 H19 H21 H23 hz
          go_wp2
          go_roundw
          case rel => exact ⟨k + 1, by omega, by go_num, hr4⟩
          case measure => simp [intOf]; omega
        · obtain rfl : k = 6 := by omega
          go_wp2
          go_ret
          exact ⟨rfl, hBr⟩
end Go.Proofs.YtamibmikbbjjbaaGreatDoor
