/- the law NumAdds: it is true. -/
import Derived.Test.YtmpdeiopdempcaaGreatDoorAdds
import Derived.Test.YtmpdeiopdempcaaGreatDoorRaise
namespace Go.Proofs.YtmpdeiopdempcaaGreatDoor
open Go.RowKit Go.Shelf

/-- what the region leaves of one variable -/
theorem Fan.held2 {K : Nat} {w0 w : World} {U V : Nat → Value} {B : Nat → Nat} {s : Nat → Bool} {a : Nat → Option Addr} {n c : Nat → Nat} {z : Nat → Int} (h : Fan K w0 (fun _ => true) (fun _ => true) (fun _ => true) U V B s a n c z w) {k : Nat} (hk : k < K) :
    ∃ (b : Nat) (s' : Bool) (a' : Option Addr) (n' c' : Nat), U k = .pointer (some ⟨b, 0, none⟩) ∧ HD w b s' a' n' c' ∧ n' ≤ 6 ∧ w0.heap.size ≤ b :=
  ⟨B k, s k, a k, n k, c k, (h.var k hk rfl).1, ⟨h.box1 k hk rfl rfl, (h.num k hk rfl).2.1.digs (by have := (h.num k hk rfl).2.2.1; omega)⟩, (h.num k hk rfl).2.2.1, (h.var k hk rfl).2⟩
/-- digits that lay there before are no new block's -/
theorem old2 {w w2 : World} {a : Option Addr} {n m N : Nat} (h : Raw w a n) (hm : m ≤ n) (hN : w.heap.size ≤ N) : m = 0 ∨ Fresh w2 a ∨ ∀ ad, a = some ad → ad.block < N := by
  obtain ⟨f, h1, -⟩ := h
  rcases h1 with h0 | ⟨b, off, rfl, hc⟩
  · exact .inl (by omega)
  · by_cases hm0 : m = 0
    · exact .inl hm0
    · refine .inr (.inr fun ad e => ?_)
      cases e
      exact Nat.lt_of_lt_of_le (hc.lt (by omega)) hN
theorem HD.new {w : World} {s : Bool} {a : Option Addr} {n : Nat} (c : Nat) (h : Digs w a n) (t : TypeId) : HD (w.alloc (Obj.cells #[.bool s, .slice a n c] t)) w.heap.size s a n c :=
  ⟨Box2.new _ _ _ _, h.below (below_alloc' _ _)⟩
/-- a row of cells that holds Nums, two cells each -/
structure Pairs (w : World) (b : Nat) (L : Nat) (s : Nat → Bool) (a : Nat → Option Addr) (n c : Nat → Nat) : Prop where
  c0 : ∀ j, j < L → w.cell? ⟨b, 2 * j, none⟩ = some (.bool (s j))
  c1 : ∀ j, j < L → w.cell? ⟨b, 2 * j + 1, none⟩ = some (.slice (a j) (n j) (c j))
  dig : ∀ j, j < L → Digs w (a j) (n j)
theorem Pairs.below {w w' : World} {b L : Nat} {s : Nat → Bool} {a : Nat → Option Addr} {n c : Nat → Nat} (h : Pairs w b L s a n c) (t : Below w.heap.size w w') : Pairs w' b L s a n c :=
  ⟨fun j hj => (t.cell (p := ⟨b, 2 * j, none⟩) (lt_of_cell (h.c0 j hj))).trans (h.c0 j hj), fun j hj => (t.cell (p := ⟨b, 2 * j + 1, none⟩) (lt_of_cell (h.c1 j hj))).trans (h.c1 j hj), fun j hj => (h.dig j hj).below t⟩

set_option maxRecDepth 100000 in
set_option maxHeartbeats 16000000 in
theorem numadds_true (x0 x1 : Option Addr) (L0 L1 d0 d1 : Nat) (g0 g1 : Nat → Int) (hL0 : L0 ≤ 9223372036854775807) (hL1 : L1 ≤ 9223372036854775807) (lo : Int) (hlo0 : 0 ≤ lo) (hlo1 : lo ≤ 65535)
    (t0 t1 : Bool) (r0 r1 : Option Addr) (m0 m1 e0 e1 : Nat) (hm0 : m0 ≤ e0) (hm1 : m1 ≤ e1) (hr0 : r0 = none → m0 = 0 ∧ e0 = 0) (hr1 : r1 = none → m1 = 0 ∧ e1 = 0) (w : World) (ht : Pow10 w) (h0 : Ints w x0 L0 g0) (h1 : Ints w x1 L1 g1) (h2 : Raw w r0 m0) (h3 : Raw w r1 m1) :
    Calls Tryz.prog 3 #[.agg #[.slice x0 L0 d0, .slice x1 L1 d1], .int .u16 lo, .agg #[.bool t0, .slice r0 m0 e0, .bool t1, .slice r1 m1 e1]] w fun e w' => e = .returned (.bool true) ∧ Below w.heap.size w w' := by
  have hk : ∃ kk : Nat, lo % 65 = (kk : Int) ∧ kk ≤ 64 := ⟨(lo % 65).toNat, by omega, by omega⟩
  obtain ⟨kk, hkk, hk64⟩ := hk
  have HK := hide hkk
  clear hkk
  have hB : Below w.heap.size w ((w.alloc (Obj.cells #[.slice x0 L0 d0, .slice x1 L1 d1] 23)).alloc (Obj.cells #[.bool t0, .slice r0 m0 e0, .bool t1, .slice r1 m1 e1] 28)) := (below_alloc' _ _).trans ((below_alloc' _ _).mono (by simp))
  have p0 : ((w.alloc (Obj.cells #[.slice x0 L0 d0, .slice x1 L1 d1] 23)).alloc (Obj.cells #[.bool t0, .slice r0 m0 e0, .bool t1, .slice r1 m1 e1] 28)).cell? ⟨w.heap.size, 0, none⟩ = some (.slice x0 L0 d0) := by simp [go_sem]
  have p1 : ((w.alloc (Obj.cells #[.slice x0 L0 d0, .slice x1 L1 d1] 23)).alloc (Obj.cells #[.bool t0, .slice r0 m0 e0, .bool t1, .slice r1 m1 e1] 28)).cell? ⟨w.heap.size, 1, none⟩ = some (.slice x1 L1 d1) := by simp [go_sem]
  have q0 : ((w.alloc (Obj.cells #[.slice x0 L0 d0, .slice x1 L1 d1] 23)).alloc (Obj.cells #[.bool t0, .slice r0 m0 e0, .bool t1, .slice r1 m1 e1] 28)).cell? ⟨w.heap.size + 1, 0, none⟩ = some (.bool t0) := by simp [go_sem]
  have q1 : ((w.alloc (Obj.cells #[.slice x0 L0 d0, .slice x1 L1 d1] 23)).alloc (Obj.cells #[.bool t0, .slice r0 m0 e0, .bool t1, .slice r1 m1 e1] 28)).cell? ⟨w.heap.size + 1, 1, none⟩ = some (.slice r0 m0 e0) := by simp [go_sem]
  have q2 : ((w.alloc (Obj.cells #[.slice x0 L0 d0, .slice x1 L1 d1] 23)).alloc (Obj.cells #[.bool t0, .slice r0 m0 e0, .bool t1, .slice r1 m1 e1] 28)).cell? ⟨w.heap.size + 1, 2, none⟩ = some (.bool t1) := by simp [go_sem]
  have q3 : ((w.alloc (Obj.cells #[.slice x0 L0 d0, .slice x1 L1 d1] 23)).alloc (Obj.cells #[.bool t0, .slice r0 m0 e0, .bool t1, .slice r1 m1 e1] 28)).cell? ⟨w.heap.size + 1, 3, none⟩ = some (.slice r1 m1 e1) := by simp [go_sem]
  go_enter Tryz.func3, Tryz.ntmps3
  go_wp2_with fail
  obtain ⟨W0, hW0⟩ : ∃ W0, (w.alloc (Obj.cells #[.slice x0 L0 d0, .slice x1 L1 d1] 23)).alloc (Obj.cells #[.bool t0, .slice r0 m0 e0, .bool t1, .slice r1 m1 e1] 28) = W0 := ⟨_, rfl⟩
  rw [hW0] at hB p0 p1 q0 q1 q2 q3 ⊢
  clear hW0
  refine (sanity_true W0 (ht.below hB)).mono ?_
  rintro e w1 ⟨rfl, hkeep⟩
  have hB1 := hB.trans (hkeep.mono hB.size)
  have p0 := (hkeep.cell (p := ⟨w.heap.size, 0, none⟩) (lt_of_cell p0)).trans p0
  have p1 := (hkeep.cell (p := ⟨w.heap.size, 1, none⟩) (lt_of_cell p1)).trans p1
  have q0 := (hkeep.cell (p := ⟨w.heap.size + 1, 0, none⟩) (lt_of_cell q0)).trans q0
  have q1 := (hkeep.cell (p := ⟨w.heap.size + 1, 1, none⟩) (lt_of_cell q1)).trans q1
  have q2 := (hkeep.cell (p := ⟨w.heap.size + 1, 2, none⟩) (lt_of_cell q2)).trans q2
  have q3 := (hkeep.cell (p := ⟨w.heap.size + 1, 3, none⟩) (lt_of_cell q3)).trans q3
  clear hB hkeep
  go_wp2_with fail
  have hB2 : Below w.heap.size w w1.drew := hB1.drew
  have p0 : w1.drew.cell? ⟨w.heap.size, 0, none⟩ = some (.slice x0 L0 d0) := p0
  have p1 : w1.drew.cell? ⟨w.heap.size, 1, none⟩ = some (.slice x1 L1 d1) := p1
  have q0 : w1.drew.cell? ⟨w.heap.size + 1, 0, none⟩ = some (.bool t0) := q0
  have q1 : w1.drew.cell? ⟨w.heap.size + 1, 1, none⟩ = some (.slice r0 m0 e0) := q1
  have q2 : w1.drew.cell? ⟨w.heap.size + 1, 2, none⟩ = some (.bool t1) := q2
  have q3 : w1.drew.cell? ⟨w.heap.size + 1, 3, none⟩ = some (.slice r1 m1 e1) := q3
  have l0 := h0.below (hB2.mono (Nat.le_refl _))
  have l1 := h1.below (hB2.mono (Nat.le_refl _))
  refine wp_region_held_drew (S := fun w' => Below w1.drew.heap.size w1.drew w') (by kernel_rfl) (Below.refl _ _) (fun hHeld => ?_)
  obtain ⟨WD, hWD⟩ : ∃ WD, w1.drew = WD := ⟨_, rfl⟩
  rw [hWD] at hB2 p0 p1 q0 q1 q2 q3 l0 l1 hHeld ⊢
  clear hWD hB1
  have hlt := lt_of_cell p0
  refine take_at (i := 0) (v := .pointer (some ⟨w.heap.size, 0, none⟩)) 16 rfl rfl (by kernel_rfl) (by kernel_rfl) (by kernel_rfl) (fun _ _ _ h => h) (Or.inl ⟨by rfl, fun w' hSw => by go_simp⟩) (by assumption) ?_
  simp only [Act.put, List.setIfInBounds_toArray, List.set_cons_zero, List.set_cons_succ]
  refine take_at (i := 1) (v := .slice x0 L0 d0) 17 rfl rfl (by kernel_rfl) (by kernel_rfl) (by kernel_rfl) (fun _ _ _ h => h) (Or.inl ⟨by rfl, fun w' hSw => by have q := (hSw.cell (p := ⟨w.heap.size, 0, none⟩) hlt).trans p0; go_simp⟩) (by assumption) ?_
  simp only [Act.put, List.setIfInBounds_toArray, List.set_cons_zero, List.set_cons_succ]
  refine take_at (i := 3) (v := .pointer (some ⟨w.heap.size, 1, none⟩)) 19 rfl rfl (by kernel_rfl) (by kernel_rfl) (by kernel_rfl) (fun _ _ _ h => h) (Or.inl ⟨by rfl, fun w' hSw => by go_simp⟩) (by assumption) ?_
  simp only [Act.put, List.setIfInBounds_toArray, List.set_cons_zero, List.set_cons_succ]
  refine take_at (i := 4) (v := .slice x1 L1 d1) 20 rfl rfl (by kernel_rfl) (by kernel_rfl) (by kernel_rfl) (fun _ _ _ h => h) (Or.inl ⟨by rfl, fun w' hSw => by have q := (hSw.cell (p := ⟨w.heap.size, 1, none⟩) hlt).trans p1; go_simp⟩) (by assumption) ?_
  simp only [Act.put, List.setIfInBounds_toArray, List.set_cons_zero, List.set_cons_succ]
  refine fan 2 27 (fun U V => ⟨#[.agg #[.slice x0 L0 d0, .slice x1 L1 d1], .int .u16 lo, .agg #[.bool t0, .slice r0 m0 e0, .bool t1, .slice r1 m1 e1], .pointer (some ⟨w.heap.size, 0, none⟩), undef, .pointer (some ⟨w.heap.size + 1, 0, none⟩), .bool false, .bool true, U 0, U 1, undef, undef, undef, undef, undef, .bool true, .pointer (some ⟨w.heap.size, 0, none⟩), .slice x0 L0 d0, V 0, .pointer (some ⟨w.heap.size, 1, none⟩), .slice x1 L1 d1, V 1, undef, undef, undef, undef, undef, undef, undef, undef, undef, undef, undef, undef, undef, undef, undef, undef, undef, undef, undef, undef, undef, undef, undef, undef, undef, undef, undef, undef, undef, undef, undef, undef, undef, undef, undef, undef, undef, undef, undef, undef, undef, undef, undef, undef, undef, undef, undef, undef, undef, undef, undef], []⟩) WD (by kernel_rfl) (topo_of (by kernel_rfl)) (dep_of (by kernel_rfl)) ?hal ?hcl ?hst ?hend (fun _ => undef) (fun _ => undef) _ _ (by kernel_rfl) (of_decide_eq_true (by kernel_rfl)) (of_decide_eq_true (by kernel_rfl)) (of_decide_eq_true (by kernel_rfl))
  case hal =>
    intro k U V w' H hk h
    match k, hk with
    | 0, _ =>
      refine wpOp_run (i := 6) rfl ?_
      go_simp
      exact h
    | 1, _ =>
      refine wpOp_run (i := 7) rfl ?_
      go_simp
      exact h
  case hcl =>
    intro k U V w' H hk hb h
    match k, hk with
    | 0, _ =>
      refine wpOp_call (i := 2) (f := 10) (args := #[.slice x0 L0 d0]) 18 rfl rfl (by rfl) (by go_simp) ?_
      refine (made_any x0 L0 d0 g0 hL0 w' (l0.below hb)).mono ?_
      rintro e w2 ⟨z, s, a, n, c, rfl, hN, h6, hf, hg⟩
      exact ⟨_, rfl, h z s a n c w2 hN h6 hf hg⟩
    | 1, _ =>
      refine wpOp_call (i := 5) (f := 10) (args := #[.slice x1 L1 d1]) 21 rfl rfl (by rfl) (by go_simp) ?_
      refine (made_any x1 L1 d1 g1 hL1 w' (l1.below hb)).mono ?_
      rintro e w2 ⟨z, s, a, n, c, rfl, hN, h6, hf, hg⟩
      exact ⟨_, rfl, h z s a n c w2 hN h6 hf hg⟩
  case hst =>
    intro k U V w' H B s a n c hk hU hV hbox h
    obtain ⟨v0, v1, hbox⟩ := hbox
    obtain ⟨q0, q1, z0, z1⟩ := hbox
    match k, hk with
    | 0, _ =>
      refine wpOp_run (i := 8) rfl ?_
      simp only [hU, hV] at h ⊢
      go_simp
      exact h
    | 1, _ =>
      refine wpOp_run (i := 9) rfl ?_
      simp only [hU, hV] at h ⊢
      go_simp
      exact h
  case hend =>
    intro U V fB fs fa fn fc fz w3 hF
    obtain ⟨B8, s8, a8, n8, c8, hU0, H8, m8, b8⟩ := hF.held2 (k := 0) (by decide)
    obtain ⟨B9, s9, a9, n9, c9, hU1, H9, m9, b9⟩ := hF.held2 (k := 1) (by decide)
    have hkeep := hF.below
    have hB := hB2.trans (hkeep.mono hB2.size)
    clear hF
    obtain ⟨v18, hv18⟩ : ∃ v, V 0 = v := ⟨_, rfl⟩
    obtain ⟨v21, hv21⟩ : ∃ v, V 1 = v := ⟨_, rfl⟩
    rw [hU0, hU1, hv18, hv21]
    have q0 := (hkeep.cell (p := ⟨w.heap.size + 1, 0, none⟩) (lt_of_cell q0)).trans q0
    have q1 := (hkeep.cell (p := ⟨w.heap.size + 1, 1, none⟩) (lt_of_cell q1)).trans q1
    have q2 := (hkeep.cell (p := ⟨w.heap.size + 1, 2, none⟩) (lt_of_cell q2)).trans q2
    have q3 := (hkeep.cell (p := ⟨w.heap.size + 1, 3, none⟩) (lt_of_cell q3)).trans q3
    clear hU0 hU1 hv18 hv21 p0 p1 l0 l1 b8 b9 hHeld hB2 hlt hkeep
    obtain ⟨x8, y8, -, -⟩ := H8.box
    go_wp2_with fail
    clear x8 y8
    rw [HK.out]
    refine (raised_any s8 a8 n8 c8 kk hk64 (by omega) w3 H8.dig).mono ?_
    rintro e u1 ⟨a10, n10, c10, rfl, N, hkeep⟩
    have hB := hB.trans (hkeep.mono hB.size)
    have q0 := (hkeep.cell (p := ⟨w.heap.size + 1, 0, none⟩) (lt_of_cell q0)).trans q0
    have q1 := (hkeep.cell (p := ⟨w.heap.size + 1, 1, none⟩) (lt_of_cell q1)).trans q1
    have q2 := (hkeep.cell (p := ⟨w.heap.size + 1, 2, none⟩) (lt_of_cell q2)).trans q2
    have q3 := (hkeep.cell (p := ⟨w.heap.size + 1, 3, none⟩) (lt_of_cell q3)).trans q3
    have H8 := H8.below hkeep
    have H9 := H9.below hkeep
    have H10 := HD.new (s := s8) c10 N 27
    clear N
    have hkeep := below_alloc' u1 (Obj.cells #[.bool s8, .slice a10 n10 c10] 27)
    obtain ⟨W10, hW10⟩ : ∃ W, u1.alloc (Obj.cells #[.bool s8, .slice a10 n10 c10] 27) = W := ⟨_, rfl⟩
    obtain ⟨B10, hB10⟩ : ∃ B, u1.heap.size = B := ⟨_, rfl⟩
    have hB := hB.trans (hkeep.mono hB.size)
    rw [hW10] at hkeep H10 hB
    have q0 := (hkeep.cell (p := ⟨w.heap.size + 1, 0, none⟩) (lt_of_cell q0)).trans q0
    have q1 := (hkeep.cell (p := ⟨w.heap.size + 1, 1, none⟩) (lt_of_cell q1)).trans q1
    have q2 := (hkeep.cell (p := ⟨w.heap.size + 1, 2, none⟩) (lt_of_cell q2)).trans q2
    have q3 := (hkeep.cell (p := ⟨w.heap.size + 1, 3, none⟩) (lt_of_cell q3)).trans q3
    have H8 := H8.below hkeep
    have H9 := H9.below hkeep
    rw [hB10] at H10
    clear hkeep
    go_wp2_with fail
    try rw [hW10]
    try rw [hB10]
    clear hW10 hB10
    have hB2 : Below w.heap.size w W10.drew := hB.drew
    have q0 : W10.drew.cell? ⟨w.heap.size + 1, 0, none⟩ = some (.bool t0) := q0
    have q1 : W10.drew.cell? ⟨w.heap.size + 1, 1, none⟩ = some (.slice r0 m0 e0) := q1
    have q2 : W10.drew.cell? ⟨w.heap.size + 1, 2, none⟩ = some (.bool t1) := q2
    have q3 : W10.drew.cell? ⟨w.heap.size + 1, 3, none⟩ = some (.slice r1 m1 e1) := q3
    have H8 : HD W10.drew B8 s8 a8 n8 c8 := H8.below (Below.drew (Below.refl _ _))
    have H9 : HD W10.drew B9 s9 a9 n9 c9 := H9.below (Below.drew (Below.refl _ _))
    have H10 : HD W10.drew B10 s8 a10 n10 c10 := H10.below (Below.drew (Below.refl _ _))
    have l2 := h2.below (hB2.mono (Nat.le_refl _))
    have l3 := h3.below (hB2.mono (Nat.le_refl _))
    have hw0 := hB2.size
    refine wp_region_held_drew (S := fun w' => Below W10.drew.heap.size W10.drew w') (by kernel_rfl) (Below.refl _ _) (fun hHeld => ?_)
    obtain ⟨WE, hWE⟩ : ∃ WE, W10.drew = WE := ⟨_, rfl⟩
    rw [hWE] at hB2 q0 q1 q2 q3 l2 l3 H8 H9 H10 hHeld hw0 ⊢
    clear hWE hB
    have hlt := lt_of_cell q0
    refine take_at (i := 0) (v := .pointer (some ⟨w.heap.size + 1, 0, none⟩)) 27 rfl rfl (by kernel_rfl) (by kernel_rfl) (by kernel_rfl) (fun _ _ _ h => h) (Or.inl ⟨by rfl, fun w' hSw => by go_simp⟩) (by assumption) ?_
    simp only [Act.put, List.setIfInBounds_toArray, List.set_cons_zero, List.set_cons_succ]
    refine take_at (i := 1) (v := .agg #[.bool t0, .slice r0 m0 e0]) 28 rfl rfl (by kernel_rfl) (by kernel_rfl) (by kernel_rfl) (fun _ _ _ h => h) (Or.inl ⟨by rfl, fun w' hSw => by have qa := (hSw.cell (p := ⟨w.heap.size + 1, 0, none⟩) hlt).trans q0; have qb := (hSw.cell (p := ⟨w.heap.size + 1, 1, none⟩) hlt).trans q1; go_simp⟩) (by assumption) ?_
    simp only [Act.put, List.setIfInBounds_toArray, List.set_cons_zero, List.set_cons_succ]
    refine take_at (i := 3) (v := .pointer (some ⟨w.heap.size + 1, 2, none⟩)) 30 rfl rfl (by kernel_rfl) (by kernel_rfl) (by kernel_rfl) (fun _ _ _ h => h) (Or.inl ⟨by rfl, fun w' hSw => by go_simp⟩) (by assumption) ?_
    simp only [Act.put, List.setIfInBounds_toArray, List.set_cons_zero, List.set_cons_succ]
    refine take_at (i := 4) (v := .agg #[.bool t1, .slice r1 m1 e1]) 31 rfl rfl (by kernel_rfl) (by kernel_rfl) (by kernel_rfl) (fun _ _ _ h => h) (Or.inl ⟨by rfl, fun w' hSw => by have qa := (hSw.cell (p := ⟨w.heap.size + 1, 2, none⟩) hlt).trans q2; have qb := (hSw.cell (p := ⟨w.heap.size + 1, 3, none⟩) hlt).trans q3; go_simp⟩) (by assumption) ?_
    simp only [Act.put, List.setIfInBounds_toArray, List.set_cons_zero, List.set_cons_succ]
    refine fanD 2 27 (fun U V => ⟨#[.agg #[.slice x0 L0 d0, .slice x1 L1 d1], .int .u16 lo, .agg #[.bool t0, .slice r0 m0 e0, .bool t1, .slice r1 m1 e1], .pointer (some ⟨w.heap.size, 0, none⟩), undef, .pointer (some ⟨w.heap.size + 1, 0, none⟩), .bool false, .bool true, .pointer (some ⟨B8, 0, none⟩), .pointer (some ⟨B9, 0, none⟩), .pointer (some ⟨B10, 0, none⟩), U 0, U 1, undef, undef, .bool true, .pointer (some ⟨w.heap.size, 0, none⟩), .slice x0 L0 d0, v18, .pointer (some ⟨w.heap.size, 1, none⟩), .slice x1 L1 d1, v21, .agg #[.bool s8, .slice a8 n8 c8], .int .u16 lo, .int .i64 lo, .int .i64 (kk : Int), .agg #[.bool s8, .slice a10 n10 c10], .pointer (some ⟨w.heap.size + 1, 0, none⟩), .agg #[.bool t0, .slice r0 m0 e0], V 0, .pointer (some ⟨w.heap.size + 1, 2, none⟩), .agg #[.bool t1, .slice r1 m1 e1], V 1, undef, undef, undef, undef, undef, undef, undef, undef, undef, undef, undef, undef, undef, undef, undef, undef, undef, undef, undef, undef, undef, undef, undef, undef, undef, undef, undef, undef, undef, undef, undef, undef, undef, undef, undef, undef, undef, undef, undef, undef], []⟩) WE (by kernel_rfl) (topo_of (by kernel_rfl)) (dep_of (by kernel_rfl)) ?hal ?hcl ?hst ?hend (fun _ => undef) (fun _ => undef) _ _ (by kernel_rfl) (of_decide_eq_true (by kernel_rfl)) (of_decide_eq_true (by kernel_rfl)) (of_decide_eq_true (by kernel_rfl))
    case hal =>
      intro k U V w' H hk h
      match k, hk with
      | 0, _ =>
        refine wpOp_run (i := 6) rfl ?_
        go_simp
        exact h
      | 1, _ =>
        refine wpOp_run (i := 7) rfl ?_
        go_simp
        exact h
    case hcl =>
      intro k U V w' H hk hb h
      match k, hk with
      | 0, _ =>
        refine wpOp_call (i := 2) (f := 12) (args := #[.agg #[.bool t0, .slice r0 m0 e0], .int .i64 68]) 29 rfl rfl (by rfl) (by go_simp) ?_
        refine (cut_any t0 r0 m0 e0 hm0 hr0 w' (l2.below hb)).mono ?_
        rintro e w2 ⟨m, hm, rfl, hN, hg⟩
        exact ⟨_, rfl, h t0 r0 m e0 w2 hN (old2 h2 hm hw0) hg⟩
      | 1, _ =>
        refine wpOp_call (i := 5) (f := 12) (args := #[.agg #[.bool t1, .slice r1 m1 e1], .int .i64 68]) 32 rfl rfl (by rfl) (by go_simp) ?_
        refine (cut_any t1 r1 m1 e1 hm1 hr1 w' (l3.below hb)).mono ?_
        rintro e w2 ⟨m, hm, rfl, hN, hg⟩
        exact ⟨_, rfl, h t1 r1 m e1 w2 hN (old2 h3 hm hw0) hg⟩
    case hst =>
      intro k U V w' H B s a n c hk hU hV hbox h
      obtain ⟨v0, v1, hbox⟩ := hbox
      obtain ⟨q0, q1, z0, z1⟩ := hbox
      match k, hk with
      | 0, _ =>
        refine wpOp_run (i := 8) rfl ?_
        simp only [hU, hV] at h ⊢
        go_simp
        exact h
      | 1, _ =>
        refine wpOp_run (i := 9) rfl ?_
        simp only [hU, hV] at h ⊢
        go_simp
        exact h
    case hend =>
      intro U V fB fs fa fn fc w4 hF
      obtain ⟨B11, s11, a11, n11, c11, hU0, H11, b11⟩ := hF.held (k := 0) (by decide)
      obtain ⟨B12, s12, a12, n12, c12, hU1, H12, b12⟩ := hF.held (k := 1) (by decide)
      have hkeep := hF.below
      have hB := hB2.trans (hkeep.mono hB2.size)
      clear hF
      obtain ⟨v29, hv29⟩ : ∃ v, V 0 = v := ⟨_, rfl⟩
      obtain ⟨v32, hv32⟩ : ∃ v, V 1 = v := ⟨_, rfl⟩
      rw [hU0, hU1, hv29, hv32]
      clear hU0 hU1 hv29 hv32 q0 q1 q2 q3 l2 l3 b11 b12 hHeld hB2 hlt hw0 U V fB fs fa fn fc
      have H8 := H8.below hkeep
      have H9 := H9.below hkeep
      have H10 := H10.below hkeep
      clear hkeep
      obtain ⟨x8, y8, -, -⟩ := H8.box
      obtain ⟨x9, y9, -, -⟩ := H9.box
      obtain ⟨x10, y10, -, -⟩ := H10.box
      obtain ⟨x11, y11, -, -⟩ := H11.box
      obtain ⟨x12, y12, -, -⟩ := H12.box
      go_wp2_with fail
      have hP : ∃ (fs : Nat → Bool) (fa : Nat → Option Addr) (fn fc : Nat → Nat), Pairs (w4.alloc (Obj.cells #[.bool s8, .slice a8 n8 c8, .bool s9, .slice a9 n9 c9, .bool s8, .slice a10 n10 c10, .bool s9, .slice a9 n9 c9, .bool s8, .slice a10 n10 c10, .bool s8, .slice a10 n10 c10, .bool s11, .slice a11 n11 c11, .bool s12, .slice a12 n12 c12, .bool s11, .slice a11 n11 c11, .bool s8, .slice a8 n8 c8, .bool s9, .slice a9 n9 c9, .bool s11, .slice a11 n11 c11] 28)) w4.heap.size 12 fs fa fn fc := by
        have hal := below_alloc' w4 (Obj.cells #[.bool s8, .slice a8 n8 c8, .bool s9, .slice a9 n9 c9, .bool s8, .slice a10 n10 c10, .bool s9, .slice a9 n9 c9, .bool s8, .slice a10 n10 c10, .bool s8, .slice a10 n10 c10, .bool s11, .slice a11 n11 c11, .bool s12, .slice a12 n12 c12, .bool s11, .slice a11 n11 c11, .bool s8, .slice a8 n8 c8, .bool s9, .slice a9 n9 c9, .bool s11, .slice a11 n11 c11] 28)
        refine ⟨fun j => [s8, s9, s8, s9, s8, s8, s11, s12, s11, s8, s9, s11].getD j false, fun j => [a8, a9, a10, a9, a10, a10, a11, a12, a11, a8, a9, a11].getD j none, fun j => [n8, n9, n10, n9, n10, n10, n11, n12, n11, n8, n9, n11].getD j 0, fun j => [c8, c9, c10, c9, c10, c10, c11, c12, c11, c8, c9, c11].getD j 0, fun j hj => ?_, fun j hj => ?_, fun j hj => ?_⟩
        · match j, hj with
          | 0, _ => simp [go_sem]
          | 1, _ => simp [go_sem]
          | 2, _ => simp [go_sem]
          | 3, _ => simp [go_sem]
          | 4, _ => simp [go_sem]
          | 5, _ => simp [go_sem]
          | 6, _ => simp [go_sem]
          | 7, _ => simp [go_sem]
          | 8, _ => simp [go_sem]
          | 9, _ => simp [go_sem]
          | 10, _ => simp [go_sem]
          | 11, _ => simp [go_sem]
        · match j, hj with
          | 0, _ => simp [go_sem]
          | 1, _ => simp [go_sem]
          | 2, _ => simp [go_sem]
          | 3, _ => simp [go_sem]
          | 4, _ => simp [go_sem]
          | 5, _ => simp [go_sem]
          | 6, _ => simp [go_sem]
          | 7, _ => simp [go_sem]
          | 8, _ => simp [go_sem]
          | 9, _ => simp [go_sem]
          | 10, _ => simp [go_sem]
          | 11, _ => simp [go_sem]
        · match j, hj with
          | 0, _ => exact H8.dig.below hal
          | 1, _ => exact H9.dig.below hal
          | 2, _ => exact H10.dig.below hal
          | 3, _ => exact H9.dig.below hal
          | 4, _ => exact H10.dig.below hal
          | 5, _ => exact H10.dig.below hal
          | 6, _ => exact H11.dig.below hal
          | 7, _ => exact H12.dig.below hal
          | 8, _ => exact H11.dig.below hal
          | 9, _ => exact H8.dig.below hal
          | 10, _ => exact H9.dig.below hal
          | 11, _ => exact H11.dig.below hal
      obtain ⟨fs, fa, fn, fc, HP⟩ := hP
      have hB := hB.trans ((below_alloc' w4 (Obj.cells #[.bool s8, .slice a8 n8 c8, .bool s9, .slice a9 n9 c9, .bool s8, .slice a10 n10 c10, .bool s9, .slice a9 n9 c9, .bool s8, .slice a10 n10 c10, .bool s8, .slice a10 n10 c10, .bool s11, .slice a11 n11 c11, .bool s12, .slice a12 n12 c12, .bool s11, .slice a11 n11 c11, .bool s8, .slice a8 n8 c8, .bool s9, .slice a9 n9 c9, .bool s11, .slice a11 n11 c11] 28)).mono hB.size)
      obtain ⟨W5, hW5⟩ : ∃ W5, w4.alloc (Obj.cells #[.bool s8, .slice a8 n8 c8, .bool s9, .slice a9 n9 c9, .bool s8, .slice a10 n10 c10, .bool s9, .slice a9 n9 c9, .bool s8, .slice a10 n10 c10, .bool s8, .slice a10 n10 c10, .bool s11, .slice a11 n11 c11, .bool s12, .slice a12 n12 c12, .bool s11, .slice a11 n11 c11, .bool s8, .slice a8 n8 c8, .bool s9, .slice a9 n9 c9, .bool s11, .slice a11 n11 c11] 28) = W5 := ⟨_, rfl⟩
      obtain ⟨B51, hB51⟩ : ∃ B51, w4.heap.size = B51 := ⟨_, rfl⟩
      rw [hW5] at HP hB ⊢
      rw [hB51] at HP ⊢
      clear hW5 hB51 x8 x9 x10 x11 x12 y8 y9 y10 y11 y12 H8 H9 H10 H11 H12 h0 h1 h2 h3 ht HK
      have HPH := hide HP
      clear HP
      go_loopw [53] (fun i wr => ∃ k : Nat, k ≤ 6 ∧ i = .int .i64 (k : Int) ∧ Below W5.heap.size W5 wr) (fun i _ => (6 - intOf i).toNat)
      case atStart => exact ⟨0, by decide, rfl, Below.refl _ _⟩
      case round =>
        obtain ⟨k, hk, rfl, hr⟩ := hrel
        have hBr := hB.trans (hr.mono hB.size)
        by_cases hlt : k < 6
        · have hP := HPH.out.below hr
          have z0 := hP.c0 (2 * k) (by omega)
          have z1 := hP.c1 (2 * k) (by omega)
          have z2 := hP.c0 (2 * k + 1) (by omega)
          have z3 := hP.c1 (2 * k + 1) (by omega)
          obtain ⟨o0, ho0⟩ := (hP.dig (2 * k) (by omega)).arg (fs (2 * k))
          obtain ⟨o1, ho1⟩ := (hP.dig (2 * k + 1) (by omega)).arg (fs (2 * k + 1))
          have hk6 : (k : Int) < 6 := by omega
          rw [show 2 * (2 * k) = k * 4 by omega] at z0
          rw [show 2 * (2 * k) + 1 = k * 4 + 1 by omega] at z1
          rw [show 2 * (2 * k + 1) = k * 4 + 2 by omega] at z2
          rw [show 2 * (2 * k + 1) + 1 = k * 4 + 3 by omega] at z3
          obtain ⟨sa, hsa⟩ : ∃ x, fs (2 * k) = x := ⟨_, rfl⟩
          obtain ⟨sb, hsb⟩ : ∃ x, fs (2 * k + 1) = x := ⟨_, rfl⟩
          obtain ⟨aa, haa⟩ : ∃ x, fa (2 * k) = x := ⟨_, rfl⟩
          obtain ⟨ab, hab⟩ : ∃ x, fa (2 * k + 1) = x := ⟨_, rfl⟩
          obtain ⟨na, hna⟩ : ∃ x, fn (2 * k) = x := ⟨_, rfl⟩
          obtain ⟨nb, hnb⟩ : ∃ x, fn (2 * k + 1) = x := ⟨_, rfl⟩
          obtain ⟨ca, hca⟩ : ∃ x, fc (2 * k) = x := ⟨_, rfl⟩
          obtain ⟨cb, hcb⟩ : ∃ x, fc (2 * k + 1) = x := ⟨_, rfl⟩
          rw [hsa] at z0 ho0
          rw [haa, hna] at z1 ho0
          rw [hca] at z1
          rw [hsb] at z2 ho1
          rw [hab, hnb] at z3 ho1
          rw [hcb] at z3
          clear hP hsa hsb haa hab hna hnb hca hcb
          go_wp2_with fail
          have hal := below_alloc' wr (Obj.cells #[.bool sa, .slice aa na ca, .bool sb, .slice ab nb cb] 28)
          have v0 : (wr.alloc (Obj.cells #[.bool sa, .slice aa na ca, .bool sb, .slice ab nb cb] 28)).cell? ⟨wr.heap.size, 0, none⟩ = some (.bool sa) := by simp [go_sem]
          have v1 : (wr.alloc (Obj.cells #[.bool sa, .slice aa na ca, .bool sb, .slice ab nb cb] 28)).cell? ⟨wr.heap.size, 1, none⟩ = some (.slice aa na ca) := by simp [go_sem]
          have v2 : (wr.alloc (Obj.cells #[.bool sa, .slice aa na ca, .bool sb, .slice ab nb cb] 28)).cell? ⟨wr.heap.size, 2, none⟩ = some (.bool sb) := by simp [go_sem]
          have v3 : (wr.alloc (Obj.cells #[.bool sa, .slice aa na ca, .bool sb, .slice ab nb cb] 28)).cell? ⟨wr.heap.size, 3, none⟩ = some (.slice ab nb cb) := by simp [go_sem]
          obtain ⟨wz, hwz⟩ : ∃ wz, wr.alloc (Obj.cells #[.bool sa, .slice aa na ca, .bool sb, .slice ab nb cb] 28) = wz := ⟨_, rfl⟩
          rw [hwz] at hal v0 v1 v2 v3 ⊢
          clear hwz z0 z1 z2 z3
          have ho0 := ho0.below hal
          have ho1 := ho1.below hal
          have hr2 := hr.trans (hal.mono hr.size)
          clear hal
          refine (adds_any sa sb aa ab na nb ca cb o0 o1 wz ho0 ho1).mono ?_
          rintro e y1 ⟨rfl, hk1⟩
          have v0 := (hk1.cell (p := ⟨wr.heap.size, 0, none⟩) (lt_of_cell v0)).trans v0
          have v1 := (hk1.cell (p := ⟨wr.heap.size, 1, none⟩) (lt_of_cell v1)).trans v1
          have v2 := (hk1.cell (p := ⟨wr.heap.size, 2, none⟩) (lt_of_cell v2)).trans v2
          have v3 := (hk1.cell (p := ⟨wr.heap.size, 3, none⟩) (lt_of_cell v3)).trans v3
          have ho0 := ho0.below hk1
          have ho1 := ho1.below hk1
          have hr3 := hr2.trans (hk1.mono hr2.size)
          clear hk1 hr2
          go_wp2_with fail
          refine (adds_any sb sa ab aa nb na cb ca o1 o0 y1 ho1 ho0).mono ?_
          rintro e y2 ⟨rfl, hk2⟩
          have hr4 := hr3.trans (hk2.mono hr3.size)
          clear v0 v1 v2 v3 ho0 ho1 hk2 hr3
          go_wp2
          go_roundw
          case rel => exact ⟨k + 1, by omega, by go_num, hr4⟩
          case measure => simp [intOf]; omega
        · obtain rfl : k = 6 := by omega
          go_wp2
          go_ret
          exact ⟨rfl, hBr⟩
end Go.Proofs.YtmpdeiopdempcaaGreatDoor
