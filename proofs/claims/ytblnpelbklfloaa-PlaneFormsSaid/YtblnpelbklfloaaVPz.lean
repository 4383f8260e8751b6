/- The law PlaneForms, one of three kinds of lists. -/
import Derived.Test.YtblnpelbklfloaaVPh
namespace Go.Proofs.Ytblnpelbklfloaa
open Go.RowKit

set_option maxRecDepth 100000 in
set_option maxHeartbeats 16000000 in
theorem frm_none  (e1 e2 e3 e4 f1 f2 f3 s0 s1 s2 n : Int) (h1 : Hid (I64 e1)) (h2 : Hid (I64 e2)) (h3 : Hid (I64 e3)) (hs1 : Hid (I64 s1)) (hn : Hid (I64 n)) (w : World) (hl : Lst w none 0 w.heap.size) : Calls Try.prog 4 #[.slice none 0 0, Pl e1 e2 e3 e4, V f1 f2 f3, .agg #[.int .i64 s0, .int .i64 s1, .int .i64 s2], .int .i64 n] w (Gives w (.bool true)) := by
  unfold Pl V
  go_enter Try.func4, Try.ntmps4
  have hB := Below.refl w.heap.size w
  go_wp2_with fail
  refine (sanity_true _).mono ?_
  rintro e W1 ⟨rfl, hk⟩
  have hs : Below w.heap.size w W1 := Below.trans (by repeat (first | exact Below.refl _ _ | refine Below.alloc ?_ (by first | omega | (simp; try omega)) _ | refine Below.setCell ?_ (by first | omega | (simp; try omega)) _)) (hk.mono (by first | omega | (simp; try omega)))
  have hl := hl.below hs
  have v0 : Var W1 (w.heap.size) [.int .i64 e1, .int .i64 e2, .int .i64 e3, .int .i64 e4] := Var.low ⟨by first | omega | (simp; try omega), by simp [Cel, go_sem]⟩ hk (by first | omega | (simp; try omega))
  have v1 : Var W1 (w.heap.size + 1) [.int .i64 f1, .int .i64 f2, .int .i64 f3] := Var.low ⟨by first | omega | (simp; try omega), by simp [Cel, go_sem]⟩ hk (by first | omega | (simp; try omega))
  have v2 : Var W1 (w.heap.size + 1 + 1) [.int .i64 s0, .int .i64 s1, .int .i64 s2] := Var.low ⟨by first | omega | (simp; try omega), by simp [Cel, go_sem]⟩ hk (by first | omega | (simp; try omega))
  obtain ⟨b2, hb2⟩ : ∃ b, w.heap.size + 1 + 1 = b := ⟨_, rfl⟩
  have lob2 : w.heap.size ≤ b2 := by have := hB.size; omega
  obtain ⟨b1, hb1⟩ : ∃ b, w.heap.size + 1 = b := ⟨_, rfl⟩
  have lob1 : w.heap.size ≤ b1 := by have := hB.size; omega
  obtain ⟨b0, hb0⟩ : ∃ b, w.heap.size = b := ⟨_, rfl⟩
  have lob0 : w.heap.size ≤ b0 := by have := hB.size; omega
  rw [hb2] at v2
  try rw [hb2]
  rw [hb1] at v1
  try rw [hb1]
  rw [hb0] at v0
  try rw [hb0]
  have hB := hB.trans (hs.mono hB.size)
  clear hb0 hb1 hb2 hs hk
  go_wp2_with fail
  refine (made_r none 0 0 (by omega) _ (hl.mono hB.size (by omega))).mono ?_
  rintro e W2 ⟨p1, p2, p3, p4, rfl, jp1, jp2, jp3, jp4, hk⟩
  have jp := hideV (And.intro jp1 (And.intro jp2 (And.intro jp3 jp4)))
  clear jp1 jp2 jp3 jp4
  try simp only [Pl]
  have hs := hk
  have v0 := v0.below hs
  have v1 := v1.below hs
  have v2 := v2.below hs
  have hl := hl.below hs
  have hB := hB.trans (hs.mono hB.size)
  clear hs hk
  clear hl
  have cb2_0 := v2.at 0 rfl
  have ab2_0_1 : ∀ o0, (W2.alloc o0).cell? ⟨b2, 0, none⟩ = some (.int .i64 s0) := fun o0 => (v2.allocs1 o0).at 0 rfl
  have cb2_1 := v2.at 1 rfl
  have ab2_1_1 : ∀ o0, (W2.alloc o0).cell? ⟨b2, 1, none⟩ = some (.int .i64 s1) := fun o0 => (v2.allocs1 o0).at 1 rfl
  have cb2_2 := v2.at 2 rfl
  have ab2_2_1 : ∀ o0, (W2.alloc o0).cell? ⟨b2, 2, none⟩ = some (.int .i64 s2) := fun o0 => (v2.allocs1 o0).at 2 rfl
  go_wp2_with fail
  refine (odd_r p1 p2 p3 p4 s0 s1 s2 jp.out.1 jp.out.2.1 jp.out.2.2.1 jp.out.2.2.2 hs1.out _).mono ?_
  rintro e W3 ⟨o1, o2, o3, o4, rfl, jo1, jo2, jo3, jo4, hk⟩
  have jo := hideV (And.intro jo1 (And.intro jo2 (And.intro jo3 jo4)))
  clear jo1 jo2 jo3 jo4
  try simp only [Pl]
  have hs : Below W2.heap.size W2 W3 := Below.trans (by repeat (first | exact Below.refl _ _ | refine Below.alloc ?_ (by first | omega | (simp; try omega)) _ | refine Below.setCell ?_ (by first | omega | (simp; try omega)) _)) (hk.mono (by first | omega | (simp; try omega)))
  have v0 := v0.below hs
  have v1 := v1.below hs
  have v2 := v2.below hs
  have v3 : Var W3 (W2.heap.size) [.int .i64 p1, .int .i64 p2, .int .i64 p3, .int .i64 p4] := Var.low ⟨by first | omega | (simp; try omega), by simp [Cel, go_sem]⟩ hk (by first | omega | (simp; try omega))
  obtain ⟨b3, hb3⟩ : ∃ b, W2.heap.size = b := ⟨_, rfl⟩
  have lob3 : w.heap.size ≤ b3 := by have := hB.size; omega
  rw [hb3] at v3
  try rw [hb3]
  have hB := hB.trans (hs.mono hB.size)
  clear cb2_0 cb2_1 cb2_2 hb3 hs hk ab2_0_1 ab2_1_1 ab2_2_1
  have cb1_0 := v1.at 0 rfl
  have ab1_0_1 : ∀ o0, (W3.alloc o0).cell? ⟨b1, 0, none⟩ = some (.int .i64 f1) := fun o0 => (v1.allocs1 o0).at 0 rfl
  have cb1_1 := v1.at 1 rfl
  have ab1_1_1 : ∀ o0, (W3.alloc o0).cell? ⟨b1, 1, none⟩ = some (.int .i64 f2) := fun o0 => (v1.allocs1 o0).at 1 rfl
  have cb1_2 := v1.at 2 rfl
  have ab1_2_1 : ∀ o0, (W3.alloc o0).cell? ⟨b1, 2, none⟩ = some (.int .i64 f3) := fun o0 => (v1.allocs1 o0).at 2 rfl
  go_wp2_with fail
  refine (vec_l (f1.tmod 25) (f2.tmod 25) (f3.tmod 25) _).mono ?_
  rintro e W4 ⟨rfl, hk⟩
  try simp only [V]
  have hs : Below W3.heap.size W3 W4 := Below.trans (by repeat (first | exact Below.refl _ _ | refine Below.alloc ?_ (by first | omega | (simp; try omega)) _ | refine Below.setCell ?_ (by first | omega | (simp; try omega)) _)) (hk.mono (by first | omega | (simp; try omega)))
  have v0 := v0.below hs
  have v1 := v1.below hs
  have v2 := v2.below hs
  have v3 := v3.below hs
  have v4 : Var W4 (W3.heap.size) [.int .i64 o1, .int .i64 o2, .int .i64 o3, .int .i64 o4] := Var.low ⟨by first | omega | (simp; try omega), by simp [Cel, go_sem]⟩ hk (by first | omega | (simp; try omega))
  obtain ⟨b4, hb4⟩ : ∃ b, W3.heap.size = b := ⟨_, rfl⟩
  have lob4 : w.heap.size ≤ b4 := by have := hB.size; omega
  rw [hb4] at v4
  try rw [hb4]
  have hB := hB.trans (hs.mono hB.size)
  clear cb1_0 cb1_1 cb1_2 hb4 hs hk ab1_0_1 ab1_1_1 ab1_2_1
  have cb3_0 := v3.at 0 rfl
  have ab3_0_1 : ∀ o0, (W4.alloc o0).cell? ⟨b3, 0, none⟩ = some (.int .i64 p1) := fun o0 => (v3.allocs1 o0).at 0 rfl
  have cb3_1 := v3.at 1 rfl
  have ab3_1_1 : ∀ o0, (W4.alloc o0).cell? ⟨b3, 1, none⟩ = some (.int .i64 p2) := fun o0 => (v3.allocs1 o0).at 1 rfl
  have cb3_2 := v3.at 2 rfl
  have ab3_2_1 : ∀ o0, (W4.alloc o0).cell? ⟨b3, 2, none⟩ = some (.int .i64 p3) := fun o0 => (v3.allocs1 o0).at 2 rfl
  have cb3_3 := v3.at 3 rfl
  have ab3_3_1 : ∀ o0, (W4.alloc o0).cell? ⟨b3, 3, none⟩ = some (.int .i64 p4) := fun o0 => (v3.allocs1 o0).at 3 rfl
  have cb0_0 := v0.at 0 rfl
  have ab0_0_1 : ∀ o0, (W4.alloc o0).cell? ⟨b0, 0, none⟩ = some (.int .i64 e1) := fun o0 => (v0.allocs1 o0).at 0 rfl
  have cb0_1 := v0.at 1 rfl
  have ab0_1_1 : ∀ o0, (W4.alloc o0).cell? ⟨b0, 1, none⟩ = some (.int .i64 e2) := fun o0 => (v0.allocs1 o0).at 1 rfl
  have cb0_2 := v0.at 2 rfl
  have ab0_2_1 : ∀ o0, (W4.alloc o0).cell? ⟨b0, 2, none⟩ = some (.int .i64 e3) := fun o0 => (v0.allocs1 o0).at 2 rfl
  have cb0_3 := v0.at 3 rfl
  have ab0_3_1 : ∀ o0, (W4.alloc o0).cell? ⟨b0, 3, none⟩ = some (.int .i64 e4) := fun o0 => (v0.allocs1 o0).at 3 rfl
  have cb4_0 := v4.at 0 rfl
  have ab4_0_1 : ∀ o0, (W4.alloc o0).cell? ⟨b4, 0, none⟩ = some (.int .i64 o1) := fun o0 => (v4.allocs1 o0).at 0 rfl
  have cb4_1 := v4.at 1 rfl
  have ab4_1_1 : ∀ o0, (W4.alloc o0).cell? ⟨b4, 1, none⟩ = some (.int .i64 o2) := fun o0 => (v4.allocs1 o0).at 1 rfl
  have cb4_2 := v4.at 2 rfl
  have ab4_2_1 : ∀ o0, (W4.alloc o0).cell? ⟨b4, 2, none⟩ = some (.int .i64 o3) := fun o0 => (v4.allocs1 o0).at 2 rfl
  have cb4_3 := v4.at 3 rfl
  have ab4_3_1 : ∀ o0, (W4.alloc o0).cell? ⟨b4, 3, none⟩ = some (.int .i64 o4) := fun o0 => (v4.allocs1 o0).at 3 rfl
  go_wp2_with fail
  obtain ⟨W5, hW_⟩ : ∃ W, (W4.alloc (.cells #[.int .i64 (f1.tmod 25), .int .i64 (f2.tmod 25), .int .i64 (f3.tmod 25)] 23)).alloc (.cells #[.int .i64 p1, .int .i64 p2, .int .i64 p3, .int .i64 p4, .int .i64 e1, .int .i64 e2, .int .i64 e3, .int .i64 e4, .int .i64 o1, .int .i64 o2, .int .i64 o3, .int .i64 o4, .int .i64 o1, .int .i64 o2, .int .i64 o3, .int .i64 e4] 39) = W := ⟨_, rfl⟩
  have hk : Below ((W4.alloc (.cells #[.int .i64 (f1.tmod 25), .int .i64 (f2.tmod 25), .int .i64 (f3.tmod 25)] 23)).alloc (.cells #[.int .i64 p1, .int .i64 p2, .int .i64 p3, .int .i64 p4, .int .i64 e1, .int .i64 e2, .int .i64 e3, .int .i64 e4, .int .i64 o1, .int .i64 o2, .int .i64 o3, .int .i64 o4, .int .i64 o1, .int .i64 o2, .int .i64 o3, .int .i64 e4] 39)).heap.size ((W4.alloc (.cells #[.int .i64 (f1.tmod 25), .int .i64 (f2.tmod 25), .int .i64 (f3.tmod 25)] 23)).alloc (.cells #[.int .i64 p1, .int .i64 p2, .int .i64 p3, .int .i64 p4, .int .i64 e1, .int .i64 e2, .int .i64 e3, .int .i64 e4, .int .i64 o1, .int .i64 o2, .int .i64 o3, .int .i64 o4, .int .i64 o1, .int .i64 o2, .int .i64 o3, .int .i64 e4] 39)) W5 := by rw [hW_]; exact Below.refl _ _
  try rw [hW_]
  clear hW_
  have hs : Below W4.heap.size W4 W5 := Below.trans (by repeat (first | exact Below.refl _ _ | refine Below.alloc ?_ (by first | omega | (simp; try omega)) _ | refine Below.setCell ?_ (by first | omega | (simp; try omega)) _)) (hk.mono (by first | omega | (simp; try omega)))
  have v0 := v0.below hs
  have v1 := v1.below hs
  have v2 := v2.below hs
  have v3 := v3.below hs
  have v4 := v4.below hs
  have v5 : Var W5 (W4.heap.size) [.int .i64 (f1.tmod 25), .int .i64 (f2.tmod 25), .int .i64 (f3.tmod 25)] := Var.low ⟨by first | omega | (simp; try omega), by simp [Cel, go_sem]⟩ hk (by first | omega | (simp; try omega))
  have v6 : Var W5 (W4.heap.size + 1) [.int .i64 p1, .int .i64 p2, .int .i64 p3, .int .i64 p4, .int .i64 e1, .int .i64 e2, .int .i64 e3, .int .i64 e4, .int .i64 o1, .int .i64 o2, .int .i64 o3, .int .i64 o4, .int .i64 o1, .int .i64 o2, .int .i64 o3, .int .i64 e4] := Var.low ⟨by first | omega | (simp; try omega), by simp [Cel, go_sem]⟩ hk (by first | omega | (simp; try omega))
  obtain ⟨b6, hb6⟩ : ∃ b, W4.heap.size + 1 = b := ⟨_, rfl⟩
  have lob6 : w.heap.size ≤ b6 := by have := hB.size; omega
  obtain ⟨b5, hb5⟩ : ∃ b, W4.heap.size = b := ⟨_, rfl⟩
  have lob5 : w.heap.size ≤ b5 := by have := hB.size; omega
  rw [hb6] at v6
  try rw [hb6]
  rw [hb5] at v5
  try rw [hb5]
  have hB := hB.trans (hs.mono hB.size)
  clear cb3_0 cb3_1 cb3_2 cb3_3 cb0_0 cb0_1 cb0_2 cb0_3 cb4_0 cb4_1 cb4_2 cb4_3 hb5 hb6 hs hk ab3_0_1 ab3_1_1 ab3_2_1 ab3_3_1 ab0_0_1 ab0_1_1 ab0_2_1 ab0_3_1 ab4_0_1 ab4_1_1 ab4_2_1 ab4_3_1
  clear v2
  go_wp2_with fail
  go_loopw [55] (fun i wr => ∃ k : Nat, k ≤ 4 ∧ i = .int .i64 (k : Int) ∧ Below w.heap.size w wr ∧ Var wr b0 [.int .i64 e1, .int .i64 e2, .int .i64 e3, .int .i64 e4] ∧ Var wr b1 [.int .i64 f1, .int .i64 f2, .int .i64 f3] ∧ Var wr b3 [.int .i64 p1, .int .i64 p2, .int .i64 p3, .int .i64 p4] ∧ Var wr b4 [.int .i64 o1, .int .i64 o2, .int .i64 o3, .int .i64 o4] ∧ Var wr b5 [.int .i64 (f1.tmod 25), .int .i64 (f2.tmod 25), .int .i64 (f3.tmod 25)] ∧ Var wr b6 [.int .i64 p1, .int .i64 p2, .int .i64 p3, .int .i64 p4, .int .i64 e1, .int .i64 e2, .int .i64 e3, .int .i64 e4, .int .i64 o1, .int .i64 o2, .int .i64 o3, .int .i64 o4, .int .i64 o1, .int .i64 o2, .int .i64 o3, .int .i64 e4]) (fun i _ => 4 - (intOf i).toNat)
  case atStart => exact ⟨0, by omega, rfl, hB, v0, v1, v3, v4, v5, v6⟩
  case round =>
    clear hB v0 v1 v3 v4 v5 v6
    obtain ⟨k, hk, rfl, hB, v0, v1, v3, v4, v5, v6⟩ := hrel
    by_cases hlt : k < 4
    · have hk4 : (k : Int) < 4 := by omega
      obtain ⟨y1, y2, y3, y4, i1, i2, i3, qq0, qq1, qq2, qq3⟩ : ∃ y1 y2 y3 y4 : Int, Hid (I64 y1) ∧ Hid (I64 y2) ∧ Hid (I64 y3) ∧ ([.int .i64 p1, .int .i64 p2, .int .i64 p3, .int .i64 p4, .int .i64 e1, .int .i64 e2, .int .i64 e3, .int .i64 e4, .int .i64 o1, .int .i64 o2, .int .i64 o3, .int .i64 o4, .int .i64 o1, .int .i64 o2, .int .i64 o3, .int .i64 e4] : List Value)[k * 4]? = some (.int .i64 y1) ∧ ([.int .i64 p1, .int .i64 p2, .int .i64 p3, .int .i64 p4, .int .i64 e1, .int .i64 e2, .int .i64 e3, .int .i64 e4, .int .i64 o1, .int .i64 o2, .int .i64 o3, .int .i64 o4, .int .i64 o1, .int .i64 o2, .int .i64 o3, .int .i64 e4] : List Value)[k * 4 + 1]? = some (.int .i64 y2) ∧ ([.int .i64 p1, .int .i64 p2, .int .i64 p3, .int .i64 p4, .int .i64 e1, .int .i64 e2, .int .i64 e3, .int .i64 e4, .int .i64 o1, .int .i64 o2, .int .i64 o3, .int .i64 o4, .int .i64 o1, .int .i64 o2, .int .i64 o3, .int .i64 e4] : List Value)[k * 4 + 2]? = some (.int .i64 y3) ∧ ([.int .i64 p1, .int .i64 p2, .int .i64 p3, .int .i64 p4, .int .i64 e1, .int .i64 e2, .int .i64 e3, .int .i64 e4, .int .i64 o1, .int .i64 o2, .int .i64 o3, .int .i64 o4, .int .i64 o1, .int .i64 o2, .int .i64 o3, .int .i64 e4] : List Value)[k * 4 + 3]? = some (.int .i64 y4) := by
        match k, hlt with
        | 0, _ => exact ⟨_, _, _, _, hideV jp.out.1, hideV jp.out.2.1, hideV jp.out.2.2.1, rfl, rfl, rfl, rfl⟩
        | 1, _ => exact ⟨_, _, _, _, h1, h2, h3, rfl, rfl, rfl, rfl⟩
        | 2, _ => exact ⟨_, _, _, _, hideV jo.out.1, hideV jo.out.2.1, hideV jo.out.2.2.1, rfl, rfl, rfl, rfl⟩
        | 3, _ => exact ⟨_, _, _, _, hideV jo.out.1, hideV jo.out.2.1, hideV jo.out.2.2.1, rfl, rfl, rfl, rfl⟩
      have d0 := v6.at (k * 4) qq0
      have d1 := v6.at (k * 4 + 1) qq1
      have d2 := v6.at (k * 4 + 2) qq2
      have d3 := v6.at (k * 4 + 3) qq3
      clear qq0 qq1 qq2 qq3
      go_wp2_with fail
      refine wp_region_dag (by kernel_rfl) ?_
      intro W6 hk
      have hs : Below wr.heap.size wr W6 := Below.trans (by repeat (first | exact Below.refl _ _ | refine Below.alloc ?_ (by first | omega | (simp; try omega)) _ | refine Below.setCell ?_ (by first | omega | (simp; try omega)) _)) (hk.mono (by first | omega | (simp; try omega)))
      have v0 := v0.below hs
      have v1 := v1.below hs
      have v3 := v3.below hs
      have v4 := v4.below hs
      have v5 := v5.below hs
      have v6 := v6.below hs
      have v7 : Var W6 (wr.heap.size) [.int .i64 y1, .int .i64 y2, .int .i64 y3, .int .i64 y4] := Var.low ⟨by first | omega | (simp; try omega), by simp [Cel, go_sem]⟩ hk (by first | omega | (simp; try omega))
      obtain ⟨b7, hb7⟩ : ∃ b, wr.heap.size = b := ⟨_, rfl⟩
      have lob7 : w.heap.size ≤ b7 := by have := hB.size; omega
      rw [hb7] at v7
      try rw [hb7]
      have hB := hB.trans (hs.mono hB.size)
      clear hb7 hs hk
      refine dagV (fun _ => trivial) 30 ?hn (fun X => ⟨#[.slice none 0 0, .agg #[.int .i64 e1, .int .i64 e2, .int .i64 e3, .int .i64 e4], .agg #[.int .i64 f1, .int .i64 f2, .int .i64 f3], .agg #[.int .i64 s0, .int .i64 s1, .int .i64 s2], .int .i64 n, undef, .pointer (some ⟨b0, 0, none⟩), .pointer (some ⟨b1, 0, none⟩), .pointer (some ⟨b2, 0, none⟩), undef, u10, .bool true, .pointer (some ⟨b3, 0, none⟩), .pointer (some ⟨b4, 0, none⟩), .pointer (some ⟨b5, 0, none⟩), undef, .pointer (some ⟨b7, 0, none⟩), undef, u18, u19, u20, u21, u22, undef, u24, .bool true, .slice none 0 0, .slice none 0 0, .int .i64 0, .int .i64 0, .slice none 0 0, .agg #[.int .i64 p1, .int .i64 p2, .int .i64 p3, .int .i64 p4], .agg #[.int .i64 p1, .int .i64 p2, .int .i64 p3, .int .i64 p4], .agg #[.int .i64 s0, .int .i64 s1, .int .i64 s2], .agg #[.int .i64 o1, .int .i64 o2, .int .i64 o3, .int .i64 o4], .pointer (some ⟨b1, 0, none⟩), .int .i64 f1, .int .i64 (f1.tmod 25), .pointer (some ⟨b1, 1, none⟩), .int .i64 f2, .int .i64 (f2.tmod 25), .pointer (some ⟨b1, 2, none⟩), .int .i64 f3, .int .i64 (f3.tmod 25), .agg #[.int .i64 (f1.tmod 25), .int .i64 (f2.tmod 25), .int .i64 (f3.tmod 25)], .agg #[.int .i64 p1, .int .i64 p2, .int .i64 p3, .int .i64 p4], .agg #[.int .i64 e1, .int .i64 e2, .int .i64 e3, .int .i64 e4], .agg #[.int .i64 o1, .int .i64 o2, .int .i64 o3, .int .i64 o4], .pointer (some ⟨b4, 0, none⟩), .agg #[.int .i64 o1, .int .i64 o2, .int .i64 o3], .pointer (some ⟨b0, 3, none⟩), .int .i64 e4, .agg #[.int .i64 o1, .int .i64 o2, .int .i64 o3, .int .i64 e4], .slice (some ⟨b6, 0, none⟩) 4 4, .int .i64 4, .int .i64 (k : Int), .bool true, .pointer (some ⟨b6, k * 4, none⟩), .agg #[.int .i64 y1, .int .i64 y2, .int .i64 y3, .int .i64 y4], X 0, X 1, X 2, X 3, X 4, X 5, X 6, X 7, X 8, X 9, X 10, X 11, X 12, X 13, X 14, X 15, X 16, X 17, X 18, X 19, X 20, X 21, X 22, X 23, X 24, X 25, X 26, X 27, X 28, X 29, u89, u90, u91, u92, u93, u94, u95, u96, u97, u98, u99, u100, u101, u102, u103, u104, u105, u106, u107, u108, u109, u110, u111, u112, u113, u114, u115, u116, u117, u118, u119, u120, u121, u122, u123, u124, u125, u126, u127, u128, u129, u130, u131, u132, u133, u134, u135, u136, u137, u138, u139, u140, undef], []⟩) [(0, 0, 0), (0, 0, 0), (0, 0, 0), (0, 0, 0), (0, 0, 0), (0, 0, 0), (0, 0, 0), (0, 0, 0), (0, 0, 0), (0, 0, 0), (0, 0, 0), (0, 0, 0), (0, 0, 0), (0, 0, 0), (0, 0, 0), (0, 0, 0), (0, 0, 0), (0, 0, 0), (0, 0, 0), (0, 0, 0), (0, 0, 0), (0, 0, 0), (0, 0, 0), (0, 0, 0), (0, 0, 0), (0, 0, 0), (0, 0, 0), (0, 0, 0), (0, 0, 0), (0, 0, 0)] (fun _ => []) [.val (.agg #[.int .i64 y1, .int .i64 y2, .int .i64 y3, .int .i64 y4]), .val (.bool (valid y1 y2 y3 y4)), .val (.agg #[.int .i64 y1, .int .i64 y2, .int .i64 y3, .int .i64 y4]), .val (.bool (valid y1 y2 y3 y4)), .val (.bool false), .val (.bool false), .val (.agg #[.int .i64 y1, .int .i64 y2, .int .i64 y3, .int .i64 y4]), .val (.agg #[.int .i64 (wrap64 (0 - y1)), .int .i64 (wrap64 (0 - y2)), .int .i64 (wrap64 (0 - y3)), .int .i64 (wrap64 (-y4))]), .val (.agg #[.int .i64 y1, .int .i64 y2, .int .i64 y3, .int .i64 y4]), .val (.agg #[.int .i64 (wrap64 (0 - y1)), .int .i64 (wrap64 (0 - y2)), .int .i64 (wrap64 (0 - y3)), .int .i64 (wrap64 (-y4))]), .val (.bool false), .val (.bool false), .val (.bool false), .val (.agg #[.int .i64 y1, .int .i64 y2, .int .i64 y3, .int .i64 y4]), .val (.agg #[.int .i64 f1, .int .i64 f2, .int .i64 f3]), .val (.int .i64 (sideI y1 y2 y3 y4 f1 f2 f3)), .val (.agg #[.int .i64 y1, .int .i64 y2, .int .i64 y3, .int .i64 y4]), .val (.agg #[.int .i64 f1, .int .i64 f2, .int .i64 f3]), .val (.int .i64 (sideI y1 y2 y3 y4 f1 f2 f3)), .val (.bool false), .val (.bool false), .val (.bool false), .val (.agg #[.int .i64 y1, .int .i64 y2, .int .i64 y3, .int .i64 y4]), .val (.agg #[.int .i64 (f1.tmod 25), .int .i64 (f2.tmod 25), .int .i64 (f3.tmod 25)]), .val (.int .i64 (sideI y1 y2 y3 y4 (f1.tmod 25) (f2.tmod 25) (f3.tmod 25))), .val (.agg #[.int .i64 y1, .int .i64 y2, .int .i64 y3, .int .i64 y4]), .val (.agg #[.int .i64 (f1.tmod 25), .int .i64 (f2.tmod 25), .int .i64 (f3.tmod 25)]), .val (.int .i64 (sideI y1 y2 y3 y4 (f1.tmod 25) (f2.tmod 25) (f3.tmod 25))), .val (.bool false), .val (.bool false)] [[], [0], [], [2], [1, 3], [4], [5], [5, 6], [5], [5, 8], [5, 7, 9], [5, 10], [11], [12], [12], [12, 13, 14], [12], [12], [12, 16, 17], [12, 15, 18], [12, 19], [20], [21], [21], [21, 22, 23], [21], [21], [21, 25, 26], [21, 24, 27], [21, 28]] [0, 1, 2, 3, 4, 5, 6, 7, 8, 9, 10, 11, 12, 13, 14, 15, 16, 17, 18, 19, 20, 21, 22, 23, 24, 25, 26, 27, 28, 29] [] [] [] (fun _ => 0) W6 (by kernel_rfl) (by kernel_rfl) (by kernel_rfl) (by kernel_rfl) (by kernel_rfl) ?dist ?olds ?op ?al ?st ?into ?fin (upd (upd (upd (upd (upd (upd (upd (upd (upd (upd (upd (upd (upd (upd (upd (upd (upd (upd (upd (upd (upd (upd (upd (upd (upd (upd (upd (upd (upd (upd (fun _ => undef) 0 (u59)) 1 (u60)) 2 (u61)) 3 (u62)) 4 (u63)) 5 (u64)) 6 (u65)) 7 (u66)) 8 (u67)) 9 (u68)) 10 (u69)) 11 (u70)) 12 (u71)) 13 (u72)) 14 (u73)) 15 (u74)) 16 (u75)) 17 (u76)) 18 (u77)) 19 (u78)) 20 (u79)) 21 (u80)) 22 (u81)) 23 (u82)) 24 (u83)) 25 (u84)) 26 (u85)) 27 (u86)) 28 (u87)) 29 (u88)) _ _ (by kernel_rfl) (of_decide_eq_true (by kernel_rfl)) (of_decide_eq_true (by kernel_rfl))
      case hn => rfl
      case dist => intro i hi j hj; simp at hi hj; try omega
      case olds => exact nofun
      case op =>
        repeat' first | exact Each.nil | refine Each.cons ?_ ?_
        all_goals intro X w7 H hb hD h
        · have hv := v7.below (show Keep [] _ _ from hb).nil
          have c0_ := hv.at 0 rfl
          have c1_ := hv.at 1 rfl
          have c2_ := hv.at 2 rfl
          have c3_ := hv.at 3 rfl
          refine tv rfl (by rfl) ?_ (by exact h _ w7 rfl (Below.refl _ _))
          go_simp <;> first | rfl | (simp only [IntWalk.i64_left]; rfl) | (simp only [IntWalk.i64_left, *]; done) | (simp only [IntWalk.i64_left, *]; rfl)
        · have e0_ : X 0 = _ := hD 0 (by decide) rfl
          refine wpOp_call (i := 1) (f := 29) (args := #[.agg #[.int .i64 y1, .int .i64 y2, .int .i64 y3, .int .i64 y4]]) 60 rfl rfl (by simp only [e0_]; rfl) (by simp only [e0_]; go_simp) ?_
          refine (valid_p y1 y2 y3 y4 i1.out i2.out i3.out _).mono ?_
          rintro e w8 ⟨rfl, hk⟩
          exact ⟨_, rfl, h _ w8 rfl hk⟩
        · have hv := v7.below (show Keep [] _ _ from hb).nil
          have c0_ := hv.at 0 rfl
          have c1_ := hv.at 1 rfl
          have c2_ := hv.at 2 rfl
          have c3_ := hv.at 3 rfl
          refine tv rfl (by rfl) ?_ (by exact h _ w7 rfl (Below.refl _ _))
          go_simp <;> first | rfl | (simp only [IntWalk.i64_left]; rfl) | (simp only [IntWalk.i64_left, *]; done) | (simp only [IntWalk.i64_left, *]; rfl)
        · have e2_ : X 2 = _ := hD 2 (by decide) rfl
          refine wpOp_call (i := 3) (f := 30) (args := #[.agg #[.int .i64 y1, .int .i64 y2, .int .i64 y3, .int .i64 y4]]) 62 rfl rfl (by simp only [e2_]; rfl) (by simp only [e2_]; go_simp) ?_
          refine (valid_r y1 y2 y3 y4 i1.out i2.out i3.out _).mono ?_
          rintro e w8 ⟨rfl, hk⟩
          exact ⟨_, rfl, h _ w8 rfl hk⟩
        · have e1_ : X 1 = _ := hD 1 (by decide) rfl
          have e3_ : X 3 = _ := hD 3 (by decide) rfl
          refine tv rfl (by simp only [e1_, e3_]; rfl) ?_ (by exact h _ w7 rfl (Below.refl _ _))
          simp only [e1_, e3_]; go_simp <;> first | rfl | (simp only [IntWalk.i64_left]; rfl) | (simp only [IntWalk.i64_left, *]; done) | (simp only [IntWalk.i64_left, *]; rfl)
        · have e4_ : X 4 = _ := hD 4 (by decide) rfl
          refine tv rfl (by simp only [e4_]; rfl) ?_ (by exact h _ w7 rfl (Below.refl _ _))
          simp only [e4_]; go_simp <;> first | rfl | (simp only [IntWalk.i64_left]; rfl) | (simp only [IntWalk.i64_left, *]; done) | (simp only [IntWalk.i64_left, *]; rfl)
        · have e5_ : X 5 = _ := hD 5 (by decide) rfl
          have hv := v7.below (show Keep [] _ _ from hb).nil
          have c0_ := hv.at 0 rfl
          have c1_ := hv.at 1 rfl
          have c2_ := hv.at 2 rfl
          have c3_ := hv.at 3 rfl
          refine tv rfl (by simp only [e5_]; rfl) ?_ (by exact h _ w7 rfl (Below.refl _ _))
          simp only [e5_]; go_simp <;> first | rfl | (simp only [IntWalk.i64_left]; rfl) | (simp only [IntWalk.i64_left, *]; done) | (simp only [IntWalk.i64_left, *]; rfl)
        · have e5_ : X 5 = _ := hD 5 (by decide) rfl
          have e6_ : X 6 = _ := hD 6 (by decide) rfl
          refine wpOp_call (i := 7) (f := 31) (args := #[.agg #[.int .i64 y1, .int .i64 y2, .int .i64 y3, .int .i64 y4]]) 66 rfl rfl (by simp only [e5_, e6_]; rfl) (by simp only [e5_, e6_]; go_simp) ?_
          refine (flip_p y1 y2 y3 y4 _).mono ?_
          rintro e w8 ⟨rfl, hk⟩
          exact ⟨_, rfl, h _ w8 rfl hk⟩
        · have e5_ : X 5 = _ := hD 5 (by decide) rfl
          have hv := v7.below (show Keep [] _ _ from hb).nil
          have c0_ := hv.at 0 rfl
          have c1_ := hv.at 1 rfl
          have c2_ := hv.at 2 rfl
          have c3_ := hv.at 3 rfl
          refine tv rfl (by simp only [e5_]; rfl) ?_ (by exact h _ w7 rfl (Below.refl _ _))
          simp only [e5_]; go_simp <;> first | rfl | (simp only [IntWalk.i64_left]; rfl) | (simp only [IntWalk.i64_left, *]; done) | (simp only [IntWalk.i64_left, *]; rfl)
        · have e5_ : X 5 = _ := hD 5 (by decide) rfl
          have e8_ : X 8 = _ := hD 8 (by decide) rfl
          refine wpOp_call (i := 9) (f := 32) (args := #[.agg #[.int .i64 y1, .int .i64 y2, .int .i64 y3, .int .i64 y4]]) 68 rfl rfl (by simp only [e5_, e8_]; rfl) (by simp only [e5_, e8_]; go_simp) ?_
          refine (flip_r y1 y2 y3 y4 _).mono ?_
          rintro e w8 ⟨rfl, hk⟩
          exact ⟨_, rfl, h _ w8 rfl hk⟩
        · have e5_ : X 5 = _ := hD 5 (by decide) rfl
          have e7_ : X 7 = _ := hD 7 (by decide) rfl
          have e9_ : X 9 = _ := hD 9 (by decide) rfl
          refine tv rfl (by simp only [e5_, e7_, e9_]; rfl) ?_ (by exact h _ w7 rfl (Below.refl _ _))
          simp only [e5_, e7_, e9_]; go_simp <;> first | rfl | (simp only [IntWalk.i64_left]; rfl) | (simp only [IntWalk.i64_left, *]; done) | (simp only [IntWalk.i64_left, *]; rfl)
        · have e5_ : X 5 = _ := hD 5 (by decide) rfl
          have e10_ : X 10 = _ := hD 10 (by decide) rfl
          refine tv rfl (by simp only [e5_, e10_]; rfl) ?_ (by exact h _ w7 rfl (Below.refl _ _))
          simp only [e5_, e10_]; go_simp <;> first | rfl | (simp only [IntWalk.i64_left]; rfl) | (simp only [IntWalk.i64_left, *]; done) | (simp only [IntWalk.i64_left, *]; rfl)
        · have e11_ : X 11 = _ := hD 11 (by decide) rfl
          refine tv rfl (by simp only [e11_]; rfl) ?_ (by exact h _ w7 rfl (Below.refl _ _))
          simp only [e11_]; go_simp <;> first | rfl | (simp only [IntWalk.i64_left]; rfl) | (simp only [IntWalk.i64_left, *]; done) | (simp only [IntWalk.i64_left, *]; rfl)
        · have e12_ : X 12 = _ := hD 12 (by decide) rfl
          have hv := v7.below (show Keep [] _ _ from hb).nil
          have c0_ := hv.at 0 rfl
          have c1_ := hv.at 1 rfl
          have c2_ := hv.at 2 rfl
          have c3_ := hv.at 3 rfl
          refine tv rfl (by simp only [e12_]; rfl) ?_ (by exact h _ w7 rfl (Below.refl _ _))
          simp only [e12_]; go_simp <;> first | rfl | (simp only [IntWalk.i64_left]; rfl) | (simp only [IntWalk.i64_left, *]; done) | (simp only [IntWalk.i64_left, *]; rfl)
        · have e12_ : X 12 = _ := hD 12 (by decide) rfl
          have hv := v1.below (show Keep [] _ _ from hb).nil
          have c0_ := hv.at 0 rfl
          have c1_ := hv.at 1 rfl
          have c2_ := hv.at 2 rfl
          refine tv rfl (by simp only [e12_]; rfl) ?_ (by exact h _ w7 rfl (Below.refl _ _))
          simp only [e12_]; go_simp <;> first | rfl | (simp only [IntWalk.i64_left]; rfl) | (simp only [IntWalk.i64_left, *]; done) | (simp only [IntWalk.i64_left, *]; rfl)
        · have e12_ : X 12 = _ := hD 12 (by decide) rfl
          have e13_ : X 13 = _ := hD 13 (by decide) rfl
          have e14_ : X 14 = _ := hD 14 (by decide) rfl
          refine wpOp_call (i := 15) (f := 33) (args := #[.agg #[.int .i64 y1, .int .i64 y2, .int .i64 y3, .int .i64 y4], .agg #[.int .i64 f1, .int .i64 f2, .int .i64 f3]]) 74 rfl rfl (by simp only [e12_, e13_, e14_]; rfl) (by simp only [e12_, e13_, e14_]; go_simp) ?_
          refine (side_p y1 y2 y3 y4 f1 f2 f3 i1.out i2.out i3.out _).mono ?_
          rintro e w8 ⟨rfl, hk⟩
          exact ⟨_, rfl, h _ w8 rfl hk⟩
        · have e12_ : X 12 = _ := hD 12 (by decide) rfl
          have hv := v7.below (show Keep [] _ _ from hb).nil
          have c0_ := hv.at 0 rfl
          have c1_ := hv.at 1 rfl
          have c2_ := hv.at 2 rfl
          have c3_ := hv.at 3 rfl
          refine tv rfl (by simp only [e12_]; rfl) ?_ (by exact h _ w7 rfl (Below.refl _ _))
          simp only [e12_]; go_simp <;> first | rfl | (simp only [IntWalk.i64_left]; rfl) | (simp only [IntWalk.i64_left, *]; done) | (simp only [IntWalk.i64_left, *]; rfl)
        · have e12_ : X 12 = _ := hD 12 (by decide) rfl
          have hv := v1.below (show Keep [] _ _ from hb).nil
          have c0_ := hv.at 0 rfl
          have c1_ := hv.at 1 rfl
          have c2_ := hv.at 2 rfl
          refine tv rfl (by simp only [e12_]; rfl) ?_ (by exact h _ w7 rfl (Below.refl _ _))
          simp only [e12_]; go_simp <;> first | rfl | (simp only [IntWalk.i64_left]; rfl) | (simp only [IntWalk.i64_left, *]; done) | (simp only [IntWalk.i64_left, *]; rfl)
        · have e12_ : X 12 = _ := hD 12 (by decide) rfl
          have e16_ : X 16 = _ := hD 16 (by decide) rfl
          have e17_ : X 17 = _ := hD 17 (by decide) rfl
          refine wpOp_call (i := 18) (f := 34) (args := #[.agg #[.int .i64 y1, .int .i64 y2, .int .i64 y3, .int .i64 y4], .agg #[.int .i64 f1, .int .i64 f2, .int .i64 f3]]) 77 rfl rfl (by simp only [e12_, e16_, e17_]; rfl) (by simp only [e12_, e16_, e17_]; go_simp) ?_
          refine (side_r y1 y2 y3 y4 f1 f2 f3 i1.out i2.out i3.out _).mono ?_
          rintro e w8 ⟨rfl, hk⟩
          exact ⟨_, rfl, h _ w8 rfl hk⟩
        · have e12_ : X 12 = _ := hD 12 (by decide) rfl
          have e15_ : X 15 = _ := hD 15 (by decide) rfl
          have e18_ : X 18 = _ := hD 18 (by decide) rfl
          refine tv rfl (by simp only [e12_, e15_, e18_]; rfl) ?_ (by exact h _ w7 rfl (Below.refl _ _))
          simp only [e12_, e15_, e18_]; go_simp <;> first | rfl | (simp only [IntWalk.i64_left]; rfl) | (simp only [IntWalk.i64_left, *]; done) | (simp only [IntWalk.i64_left, *]; rfl)
        · have e12_ : X 12 = _ := hD 12 (by decide) rfl
          have e19_ : X 19 = _ := hD 19 (by decide) rfl
          refine tv rfl (by simp only [e12_, e19_]; rfl) ?_ (by exact h _ w7 rfl (Below.refl _ _))
          simp only [e12_, e19_]; go_simp <;> first | rfl | (simp only [IntWalk.i64_left]; rfl) | (simp only [IntWalk.i64_left, *]; done) | (simp only [IntWalk.i64_left, *]; rfl)
        · have e20_ : X 20 = _ := hD 20 (by decide) rfl
          refine tv rfl (by simp only [e20_]; rfl) ?_ (by exact h _ w7 rfl (Below.refl _ _))
          simp only [e20_]; go_simp <;> first | rfl | (simp only [IntWalk.i64_left]; rfl) | (simp only [IntWalk.i64_left, *]; done) | (simp only [IntWalk.i64_left, *]; rfl)
        · have e21_ : X 21 = _ := hD 21 (by decide) rfl
          have hv := v7.below (show Keep [] _ _ from hb).nil
          have c0_ := hv.at 0 rfl
          have c1_ := hv.at 1 rfl
          have c2_ := hv.at 2 rfl
          have c3_ := hv.at 3 rfl
          refine tv rfl (by simp only [e21_]; rfl) ?_ (by exact h _ w7 rfl (Below.refl _ _))
          simp only [e21_]; go_simp <;> first | rfl | (simp only [IntWalk.i64_left]; rfl) | (simp only [IntWalk.i64_left, *]; done) | (simp only [IntWalk.i64_left, *]; rfl)
        · have e21_ : X 21 = _ := hD 21 (by decide) rfl
          have hv := v5.below (show Keep [] _ _ from hb).nil
          have c0_ := hv.at 0 rfl
          have c1_ := hv.at 1 rfl
          have c2_ := hv.at 2 rfl
          refine tv rfl (by simp only [e21_]; rfl) ?_ (by exact h _ w7 rfl (Below.refl _ _))
          simp only [e21_]; go_simp <;> first | rfl | (simp only [IntWalk.i64_left]; rfl) | (simp only [IntWalk.i64_left, *]; done) | (simp only [IntWalk.i64_left, *]; rfl)
        · have e21_ : X 21 = _ := hD 21 (by decide) rfl
          have e22_ : X 22 = _ := hD 22 (by decide) rfl
          have e23_ : X 23 = _ := hD 23 (by decide) rfl
          refine wpOp_call (i := 24) (f := 33) (args := #[.agg #[.int .i64 y1, .int .i64 y2, .int .i64 y3, .int .i64 y4], .agg #[.int .i64 (f1.tmod 25), .int .i64 (f2.tmod 25), .int .i64 (f3.tmod 25)]]) 83 rfl rfl (by simp only [e21_, e22_, e23_]; rfl) (by simp only [e21_, e22_, e23_]; go_simp) ?_
          refine (side_p y1 y2 y3 y4 (f1.tmod 25) (f2.tmod 25) (f3.tmod 25) i1.out i2.out i3.out _).mono ?_
          rintro e w8 ⟨rfl, hk⟩
          exact ⟨_, rfl, h _ w8 rfl hk⟩
        · have e21_ : X 21 = _ := hD 21 (by decide) rfl
          have hv := v7.below (show Keep [] _ _ from hb).nil
          have c0_ := hv.at 0 rfl
          have c1_ := hv.at 1 rfl
          have c2_ := hv.at 2 rfl
          have c3_ := hv.at 3 rfl
          refine tv rfl (by simp only [e21_]; rfl) ?_ (by exact h _ w7 rfl (Below.refl _ _))
          simp only [e21_]; go_simp <;> first | rfl | (simp only [IntWalk.i64_left]; rfl) | (simp only [IntWalk.i64_left, *]; done) | (simp only [IntWalk.i64_left, *]; rfl)
        · have e21_ : X 21 = _ := hD 21 (by decide) rfl
          have hv := v5.below (show Keep [] _ _ from hb).nil
          have c0_ := hv.at 0 rfl
          have c1_ := hv.at 1 rfl
          have c2_ := hv.at 2 rfl
          refine tv rfl (by simp only [e21_]; rfl) ?_ (by exact h _ w7 rfl (Below.refl _ _))
          simp only [e21_]; go_simp <;> first | rfl | (simp only [IntWalk.i64_left]; rfl) | (simp only [IntWalk.i64_left, *]; done) | (simp only [IntWalk.i64_left, *]; rfl)
        · have e21_ : X 21 = _ := hD 21 (by decide) rfl
          have e25_ : X 25 = _ := hD 25 (by decide) rfl
          have e26_ : X 26 = _ := hD 26 (by decide) rfl
          refine wpOp_call (i := 27) (f := 34) (args := #[.agg #[.int .i64 y1, .int .i64 y2, .int .i64 y3, .int .i64 y4], .agg #[.int .i64 (f1.tmod 25), .int .i64 (f2.tmod 25), .int .i64 (f3.tmod 25)]]) 86 rfl rfl (by simp only [e21_, e25_, e26_]; rfl) (by simp only [e21_, e25_, e26_]; go_simp) ?_
          refine (side_r y1 y2 y3 y4 (f1.tmod 25) (f2.tmod 25) (f3.tmod 25) i1.out i2.out i3.out _).mono ?_
          rintro e w8 ⟨rfl, hk⟩
          exact ⟨_, rfl, h _ w8 rfl hk⟩
        · have e21_ : X 21 = _ := hD 21 (by decide) rfl
          have e24_ : X 24 = _ := hD 24 (by decide) rfl
          have e27_ : X 27 = _ := hD 27 (by decide) rfl
          refine tv rfl (by simp only [e21_, e24_, e27_]; rfl) ?_ (by exact h _ w7 rfl (Below.refl _ _))
          simp only [e21_, e24_, e27_]; go_simp <;> first | rfl | (simp only [IntWalk.i64_left]; rfl) | (simp only [IntWalk.i64_left, *]; done) | (simp only [IntWalk.i64_left, *]; rfl)
        · have e21_ : X 21 = _ := hD 21 (by decide) rfl
          have e28_ : X 28 = _ := hD 28 (by decide) rfl
          refine tv rfl (by simp only [e21_, e28_]; rfl) ?_ (by exact h _ w7 rfl (Below.refl _ _))
          simp only [e21_, e28_]; go_simp <;> first | rfl | (simp only [IntWalk.i64_left]; rfl) | (simp only [IntWalk.i64_left, *]; done) | (simp only [IntWalk.i64_left, *]; rfl)
      case al => exact Each.nil
      case st => exact Each.nil
      case into => exact Each.nil
      case fin =>
        intro X8_ W7 hI
        have hE : Keep [] W6 W7 := hI.keep
        have e29_ : X8_ 29 = _ := hI.fact 29 (by decide) rfl rfl
        have v0 := v0.below hE.nil
        have v1 := v1.below hE.nil
        have v3 := v3.below hE.nil
        have v4 := v4.below hE.nil
        have v5 := v5.below hE.nil
        have v6 := v6.below hE.nil
        have v7 := v7.below hE.nil
        have hB := hB.trans (hE.nil.mono hB.size)
        simp only [e29_]
        clear e29_ hI hE
        clear d0 d1 d2 d3
        have cb7_0 := v7.at 0 rfl
        have cb7_1 := v7.at 1 rfl
        have cb7_2 := v7.at 2 rfl
        have cb7_3 := v7.at 3 rfl
        have cb5_0 := v5.at 0 rfl
        have cb5_1 := v5.at 1 rfl
        have cb5_2 := v5.at 2 rfl
        go_wp2_with fail
        refine (reach_r y1 y2 y3 (f1.tmod 25) (f2.tmod 25) (f3.tmod 25) _).mono ?_
        rintro e W8 ⟨rfl, hk⟩
        have hs := hk
        have v0 := v0.below hs
        have v1 := v1.below hs
        have v3 := v3.below hs
        have v4 := v4.below hs
        have v5 := v5.below hs
        have v6 := v6.below hs
        have v7 := v7.below hs
        have hB := hB.trans (hs.mono hB.size)
        clear cb7_0 cb7_1 cb7_2 cb7_3 cb5_0 cb5_1 cb5_2 hs hk
        go_wp2_with fail
        obtain ⟨W9, hW_⟩ : ∃ W, W8.alloc (.cells #[.int .i64 n, .int .i64 (n.tmod 100), .int .i64 (rch y1 y2 y3 (f1.tmod 25) (f2.tmod 25) (f3.tmod 25))] 3) = W := ⟨_, rfl⟩
        have hk : Below (W8.alloc (.cells #[.int .i64 n, .int .i64 (n.tmod 100), .int .i64 (rch y1 y2 y3 (f1.tmod 25) (f2.tmod 25) (f3.tmod 25))] 3)).heap.size (W8.alloc (.cells #[.int .i64 n, .int .i64 (n.tmod 100), .int .i64 (rch y1 y2 y3 (f1.tmod 25) (f2.tmod 25) (f3.tmod 25))] 3)) W9 := by rw [hW_]; exact Below.refl _ _
        try rw [hW_]
        clear hW_
        have hs : Below W8.heap.size W8 W9 := Below.trans (by repeat (first | exact Below.refl _ _ | refine Below.alloc ?_ (by first | omega | (simp; try omega)) _ | refine Below.setCell ?_ (by first | omega | (simp; try omega)) _)) (hk.mono (by first | omega | (simp; try omega)))
        have v0 := v0.below hs
        have v1 := v1.below hs
        have v3 := v3.below hs
        have v4 := v4.below hs
        have v5 := v5.below hs
        have v6 := v6.below hs
        have v7 := v7.below hs
        have v8 : Var W9 (W8.heap.size) [.int .i64 n, .int .i64 (n.tmod 100), .int .i64 (rch y1 y2 y3 (f1.tmod 25) (f2.tmod 25) (f3.tmod 25))] := Var.low ⟨by first | omega | (simp; try omega), by simp [Cel, go_sem]⟩ hk (by first | omega | (simp; try omega))
        obtain ⟨b8, hb8⟩ : ∃ b, W8.heap.size = b := ⟨_, rfl⟩
        have lob8 : w.heap.size ≤ b8 := by have := hB.size; omega
        rw [hb8] at v8
        try rw [hb8]
        have hB := hB.trans (hs.mono hB.size)
        clear hb8 hs hk
        go_wp2_with fail
        go_loopw [98] (fun i wr => ∃ k2 : Nat, k2 ≤ 3 ∧ i = .int .i64 (k2 : Int) ∧ Below w.heap.size w wr ∧ Var wr b0 [.int .i64 e1, .int .i64 e2, .int .i64 e3, .int .i64 e4] ∧ Var wr b1 [.int .i64 f1, .int .i64 f2, .int .i64 f3] ∧ Var wr b3 [.int .i64 p1, .int .i64 p2, .int .i64 p3, .int .i64 p4] ∧ Var wr b4 [.int .i64 o1, .int .i64 o2, .int .i64 o3, .int .i64 o4] ∧ Var wr b5 [.int .i64 (f1.tmod 25), .int .i64 (f2.tmod 25), .int .i64 (f3.tmod 25)] ∧ Var wr b6 [.int .i64 p1, .int .i64 p2, .int .i64 p3, .int .i64 p4, .int .i64 e1, .int .i64 e2, .int .i64 e3, .int .i64 e4, .int .i64 o1, .int .i64 o2, .int .i64 o3, .int .i64 o4, .int .i64 o1, .int .i64 o2, .int .i64 o3, .int .i64 e4] ∧ Var wr b7 [.int .i64 y1, .int .i64 y2, .int .i64 y3, .int .i64 y4] ∧ Var wr b8 [.int .i64 n, .int .i64 (n.tmod 100), .int .i64 (rch y1 y2 y3 (f1.tmod 25) (f2.tmod 25) (f3.tmod 25))]) (fun i _ => 3 - (intOf i).toNat)
        case atStart => exact ⟨0, by omega, rfl, hB, v0, v1, v3, v4, v5, v6, v7, v8⟩
        case round =>
          clear hB v0 v1 v3 v4 v5 v6 v7 v8
          obtain ⟨k2, hk2, rfl, hB, v0, v1, v3, v4, v5, v6, v7, v8⟩ := hrel
          by_cases hlt2 : k2 < 3
          · have hk3 : (k2 : Int) < 3 := by omega
            obtain ⟨m, im, qq⟩ : ∃ m : Int, Hid (I64 m) ∧ ([.int .i64 n, .int .i64 (n.tmod 100), .int .i64 (rch y1 y2 y3 (f1.tmod 25) (f2.tmod 25) (f3.tmod 25))] : List Value)[k2]? = some (.int .i64 m) := by
              match k2, hlt2 with
              | 0, _ => exact ⟨_, hn, rfl⟩
              | 1, _ => exact ⟨_, i64_t100 _, rfl⟩
              | 2, _ => exact ⟨_, hideV (i64w _), rfl⟩
            have d0 := v8.at k2 qq
            clear qq
            have cb7_0 := v7.at 0 rfl
            have cb7_1 := v7.at 1 rfl
            have cb7_2 := v7.at 2 rfl
            have cb7_3 := v7.at 3 rfl
            go_wp2_with fail
            refine (push_p y1 y2 y3 y4 m i1.out i2.out i3.out _).mono ?_
            rintro e W10 ⟨rfl, hk⟩
            try simp only [Pl]
            have hs := hk
            have v0 := v0.below hs
            have v1 := v1.below hs
            have v3 := v3.below hs
            have v4 := v4.below hs
            have v5 := v5.below hs
            have v6 := v6.below hs
            have v7 := v7.below hs
            have v8 := v8.below hs
            have hB := hB.trans (hs.mono hB.size)
            clear cb7_0 cb7_1 cb7_2 cb7_3 hs hk
            clear d0
            have cb7_0 := v7.at 0 rfl
            have ab7_0_1 : ∀ o0, (W10.alloc o0).cell? ⟨b7, 0, none⟩ = some (.int .i64 y1) := fun o0 => (v7.allocs1 o0).at 0 rfl
            have cb7_1 := v7.at 1 rfl
            have ab7_1_1 : ∀ o0, (W10.alloc o0).cell? ⟨b7, 1, none⟩ = some (.int .i64 y2) := fun o0 => (v7.allocs1 o0).at 1 rfl
            have cb7_2 := v7.at 2 rfl
            have ab7_2_1 : ∀ o0, (W10.alloc o0).cell? ⟨b7, 2, none⟩ = some (.int .i64 y3) := fun o0 => (v7.allocs1 o0).at 2 rfl
            have cb7_3 := v7.at 3 rfl
            have ab7_3_1 : ∀ o0, (W10.alloc o0).cell? ⟨b7, 3, none⟩ = some (.int .i64 y4) := fun o0 => (v7.allocs1 o0).at 3 rfl
            go_wp2_with fail
            refine (push_r y1 y2 y3 y4 m i1.out i2.out i3.out im.out _).mono ?_
            rintro e W11 ⟨rfl, hk⟩
            try simp only [Pl]
            have hs : Below W10.heap.size W10 W11 := Below.trans (by repeat (first | exact Below.refl _ _ | refine Below.alloc ?_ (by first | omega | (simp; try omega)) _ | refine Below.setCell ?_ (by first | omega | (simp; try omega)) _)) (hk.mono (by first | omega | (simp; try omega)))
            have v0 := v0.below hs
            have v1 := v1.below hs
            have v3 := v3.below hs
            have v4 := v4.below hs
            have v5 := v5.below hs
            have v6 := v6.below hs
            have v7 := v7.below hs
            have v8 := v8.below hs
            have v9 : Var W11 (W10.heap.size) [.int .i64 (puX y1 y2 y3 y4 m), .int .i64 (puY y1 y2 y3 y4 m), .int .i64 (puZ y1 y2 y3 y4 m), .int .i64 (puB y1 y2 y3 y4 m)] := Var.low ⟨by first | omega | (simp; try omega), by simp [Cel, go_sem]⟩ hk (by first | omega | (simp; try omega))
            obtain ⟨b9, hb9⟩ : ∃ b, W10.heap.size = b := ⟨_, rfl⟩
            have lob9 : w.heap.size ≤ b9 := by have := hB.size; omega
            rw [hb9] at v9
            try rw [hb9]
            have hB := hB.trans (hs.mono hB.size)
            clear cb7_0 cb7_1 cb7_2 cb7_3 hb9 hs hk ab7_0_1 ab7_1_1 ab7_2_1 ab7_3_1
            have cb9_0 := v9.at 0 rfl
            have ab9_0_1 : ∀ o0, (W11.alloc o0).cell? ⟨b9, 0, none⟩ = some (.int .i64 (puX y1 y2 y3 y4 m)) := fun o0 => (v9.allocs1 o0).at 0 rfl
            have cb9_1 := v9.at 1 rfl
            have ab9_1_1 : ∀ o0, (W11.alloc o0).cell? ⟨b9, 1, none⟩ = some (.int .i64 (puY y1 y2 y3 y4 m)) := fun o0 => (v9.allocs1 o0).at 1 rfl
            have cb9_2 := v9.at 2 rfl
            have ab9_2_1 : ∀ o0, (W11.alloc o0).cell? ⟨b9, 2, none⟩ = some (.int .i64 (puZ y1 y2 y3 y4 m)) := fun o0 => (v9.allocs1 o0).at 2 rfl
            have cb9_3 := v9.at 3 rfl
            have ab9_3_1 : ∀ o0, (W11.alloc o0).cell? ⟨b9, 3, none⟩ = some (.int .i64 (puB y1 y2 y3 y4 m)) := fun o0 => (v9.allocs1 o0).at 3 rfl
            go_wp2_with fail
            have hBs := hB.size
            go_roundw
            case rel => first | exact ⟨k2 + 1, by omega, by simp, by repeat (first | exact hB | refine Below.alloc ?_ (by first | omega | (simp; try omega)) _ | refine Below.setCell ?_ (by first | omega | (simp; try omega)) _), v0.allocs1 _, v1.allocs1 _, v3.allocs1 _, v4.allocs1 _, v5.allocs1 _, v6.allocs1 _, v7.allocs1 _, v8.allocs1 _⟩ | ((repeat apply Exists.intro); refine ⟨⟨k2 + 1, by omega, by simp, by repeat (first | exact hB | refine Below.alloc ?_ (by first | omega | (simp; try omega)) _ | refine Below.setCell ?_ (by first | omega | (simp; try omega)) _), v0.allocs1 _, v1.allocs1 _, v3.allocs1 _, v4.allocs1 _, v5.allocs1 _, v6.allocs1 _, v7.allocs1 _, v8.allocs1 _⟩, rfl⟩)
            case measure => simp [intOf]; omega
          · obtain rfl : k2 = 3 := by omega
            have cb3_0 := v3.at 0 rfl
            have cb3_1 := v3.at 1 rfl
            have cb3_2 := v3.at 2 rfl
            have cb3_3 := v3.at 3 rfl
            have cb0_0 := v0.at 0 rfl
            have cb0_1 := v0.at 1 rfl
            have cb0_2 := v0.at 2 rfl
            have cb0_3 := v0.at 3 rfl
            have cb4_0 := v4.at 0 rfl
            have cb4_1 := v4.at 1 rfl
            have cb4_2 := v4.at 2 rfl
            have cb4_3 := v4.at 3 rfl
            go_wp2_with fail
            obtain ⟨W10, hW_⟩ : ∃ W, wr.alloc (.cells #[.int .i64 p1, .int .i64 p2, .int .i64 p3, .int .i64 p4, .int .i64 e1, .int .i64 e2, .int .i64 e3, .int .i64 e4, .int .i64 o1, .int .i64 o2, .int .i64 o3, .int .i64 o4] 39) = W := ⟨_, rfl⟩
            have hk : Below (wr.alloc (.cells #[.int .i64 p1, .int .i64 p2, .int .i64 p3, .int .i64 p4, .int .i64 e1, .int .i64 e2, .int .i64 e3, .int .i64 e4, .int .i64 o1, .int .i64 o2, .int .i64 o3, .int .i64 o4] 39)).heap.size (wr.alloc (.cells #[.int .i64 p1, .int .i64 p2, .int .i64 p3, .int .i64 p4, .int .i64 e1, .int .i64 e2, .int .i64 e3, .int .i64 e4, .int .i64 o1, .int .i64 o2, .int .i64 o3, .int .i64 o4] 39)) W10 := by rw [hW_]; exact Below.refl _ _
            try rw [hW_]
            clear hW_
            have hs : Below wr.heap.size wr W10 := Below.trans (by repeat (first | exact Below.refl _ _ | refine Below.alloc ?_ (by first | omega | (simp; try omega)) _ | refine Below.setCell ?_ (by first | omega | (simp; try omega)) _)) (hk.mono (by first | omega | (simp; try omega)))
            have v0 := v0.below hs
            have v1 := v1.below hs
            have v3 := v3.below hs
            have v4 := v4.below hs
            have v5 := v5.below hs
            have v6 := v6.below hs
            have v7 := v7.below hs
            have v8 := v8.below hs
            have v9 : Var W10 (wr.heap.size) [.int .i64 p1, .int .i64 p2, .int .i64 p3, .int .i64 p4, .int .i64 e1, .int .i64 e2, .int .i64 e3, .int .i64 e4, .int .i64 o1, .int .i64 o2, .int .i64 o3, .int .i64 o4] := Var.low ⟨by first | omega | (simp; try omega), by simp [Cel, go_sem]⟩ hk (by first | omega | (simp; try omega))
            obtain ⟨b9, hb9⟩ : ∃ b, wr.heap.size = b := ⟨_, rfl⟩
            have lob9 : w.heap.size ≤ b9 := by have := hB.size; omega
            rw [hb9] at v9
            try rw [hb9]
            have hB := hB.trans (hs.mono hB.size)
            clear cb3_0 cb3_1 cb3_2 cb3_3 cb0_0 cb0_1 cb0_2 cb0_3 cb4_0 cb4_1 cb4_2 cb4_3 hb9 hs hk
            go_wp2_with fail
            go_loopw [128] (fun i wr => ∃ k3 : Nat, k3 ≤ 3 ∧ i = .int .i64 (k3 : Int) ∧ Below w.heap.size w wr ∧ Var wr b0 [.int .i64 e1, .int .i64 e2, .int .i64 e3, .int .i64 e4] ∧ Var wr b1 [.int .i64 f1, .int .i64 f2, .int .i64 f3] ∧ Var wr b3 [.int .i64 p1, .int .i64 p2, .int .i64 p3, .int .i64 p4] ∧ Var wr b4 [.int .i64 o1, .int .i64 o2, .int .i64 o3, .int .i64 o4] ∧ Var wr b5 [.int .i64 (f1.tmod 25), .int .i64 (f2.tmod 25), .int .i64 (f3.tmod 25)] ∧ Var wr b6 [.int .i64 p1, .int .i64 p2, .int .i64 p3, .int .i64 p4, .int .i64 e1, .int .i64 e2, .int .i64 e3, .int .i64 e4, .int .i64 o1, .int .i64 o2, .int .i64 o3, .int .i64 o4, .int .i64 o1, .int .i64 o2, .int .i64 o3, .int .i64 e4] ∧ Var wr b7 [.int .i64 y1, .int .i64 y2, .int .i64 y3, .int .i64 y4] ∧ Var wr b8 [.int .i64 n, .int .i64 (n.tmod 100), .int .i64 (rch y1 y2 y3 (f1.tmod 25) (f2.tmod 25) (f3.tmod 25))] ∧ Var wr b9 [.int .i64 p1, .int .i64 p2, .int .i64 p3, .int .i64 p4, .int .i64 e1, .int .i64 e2, .int .i64 e3, .int .i64 e4, .int .i64 o1, .int .i64 o2, .int .i64 o3, .int .i64 o4]) (fun i _ => 3 - (intOf i).toNat)
            case atStart => exact ⟨0, by omega, rfl, hB, v0, v1, v3, v4, v5, v6, v7, v8, v9⟩
            case round =>
              clear hB v0 v1 v3 v4 v5 v6 v7 v8 v9
              obtain ⟨k3, hk3, rfl, hB, v0, v1, v3, v4, v5, v6, v7, v8, v9⟩ := hrel
              by_cases hlt3 : k3 < 3
              · have hk3 : (k3 : Int) < 3 := by omega
                obtain ⟨x1, x2, x3, x4, qq0, qq1, qq2, qq3⟩ : ∃ x1 x2 x3 x4 : Int, ([.int .i64 p1, .int .i64 p2, .int .i64 p3, .int .i64 p4, .int .i64 e1, .int .i64 e2, .int .i64 e3, .int .i64 e4, .int .i64 o1, .int .i64 o2, .int .i64 o3, .int .i64 o4] : List Value)[k3 * 4]? = some (.int .i64 x1) ∧ ([.int .i64 p1, .int .i64 p2, .int .i64 p3, .int .i64 p4, .int .i64 e1, .int .i64 e2, .int .i64 e3, .int .i64 e4, .int .i64 o1, .int .i64 o2, .int .i64 o3, .int .i64 o4] : List Value)[k3 * 4 + 1]? = some (.int .i64 x2) ∧ ([.int .i64 p1, .int .i64 p2, .int .i64 p3, .int .i64 p4, .int .i64 e1, .int .i64 e2, .int .i64 e3, .int .i64 e4, .int .i64 o1, .int .i64 o2, .int .i64 o3, .int .i64 o4] : List Value)[k3 * 4 + 2]? = some (.int .i64 x3) ∧ ([.int .i64 p1, .int .i64 p2, .int .i64 p3, .int .i64 p4, .int .i64 e1, .int .i64 e2, .int .i64 e3, .int .i64 e4, .int .i64 o1, .int .i64 o2, .int .i64 o3, .int .i64 o4] : List Value)[k3 * 4 + 3]? = some (.int .i64 x4) := by
                  match k3, hlt3 with
                  | 0, _ | 1, _ | 2, _ => exact ⟨_, _, _, _, rfl, rfl, rfl, rfl⟩
                have d0 := v9.at (k3 * 4) qq0
                have d1 := v9.at (k3 * 4 + 1) qq1
                have d2 := v9.at (k3 * 4 + 2) qq2
                have d3 := v9.at (k3 * 4 + 3) qq3
                clear qq0 qq1 qq2 qq3
                go_wp2_with fail
                refine wp_region_dag (by kernel_rfl) ?_
                intro W11 hk
                have hs : Below wr.heap.size wr W11 := Below.trans (by repeat (first | exact Below.refl _ _ | refine Below.alloc ?_ (by first | omega | (simp; try omega)) _ | refine Below.setCell ?_ (by first | omega | (simp; try omega)) _)) (hk.mono (by first | omega | (simp; try omega)))
                have v0 := v0.below hs
                have v1 := v1.below hs
                have v3 := v3.below hs
                have v4 := v4.below hs
                have v5 := v5.below hs
                have v6 := v6.below hs
                have v7 := v7.below hs
                have v8 := v8.below hs
                have v9 := v9.below hs
                have v10 : Var W11 (wr.heap.size) [.int .i64 x1, .int .i64 x2, .int .i64 x3, .int .i64 x4] := Var.low ⟨by first | omega | (simp; try omega), by simp [Cel, go_sem]⟩ hk (by first | omega | (simp; try omega))
                obtain ⟨b10, hb10⟩ : ∃ b, wr.heap.size = b := ⟨_, rfl⟩
                have lob10 : w.heap.size ≤ b10 := by have := hB.size; omega
                rw [hb10] at v10
                try rw [hb10]
                have hB := hB.trans (hs.mono hB.size)
                clear hb10 hs hk
                refine dagV (fun _ => trivial) 7 ?hn (fun X => ⟨#[.slice none 0 0, .agg #[.int .i64 e1, .int .i64 e2, .int .i64 e3, .int .i64 e4], .agg #[.int .i64 f1, .int .i64 f2, .int .i64 f3], .agg #[.int .i64 s0, .int .i64 s1, .int .i64 s2], .int .i64 n, undef, .pointer (some ⟨b0, 0, none⟩), .pointer (some ⟨b1, 0, none⟩), .pointer (some ⟨b2, 0, none⟩), undef, u10, .bool true, .pointer (some ⟨b3, 0, none⟩), .pointer (some ⟨b4, 0, none⟩), .pointer (some ⟨b5, 0, none⟩), undef, .pointer (some ⟨b7, 0, none⟩), undef, u18, u19, u20, u21, u22, undef, .pointer (some ⟨b10, 0, none⟩), .bool true, .slice none 0 0, .slice none 0 0, .int .i64 0, .int .i64 0, .slice none 0 0, .agg #[.int .i64 p1, .int .i64 p2, .int .i64 p3, .int .i64 p4], .agg #[.int .i64 p1, .int .i64 p2, .int .i64 p3, .int .i64 p4], .agg #[.int .i64 s0, .int .i64 s1, .int .i64 s2], .agg #[.int .i64 o1, .int .i64 o2, .int .i64 o3, .int .i64 o4], .pointer (some ⟨b1, 0, none⟩), .int .i64 f1, .int .i64 (f1.tmod 25), .pointer (some ⟨b1, 1, none⟩), .int .i64 f2, .int .i64 (f2.tmod 25), .pointer (some ⟨b1, 2, none⟩), .int .i64 f3, .int .i64 (f3.tmod 25), .agg #[.int .i64 (f1.tmod 25), .int .i64 (f2.tmod 25), .int .i64 (f3.tmod 25)], .agg #[.int .i64 p1, .int .i64 p2, .int .i64 p3, .int .i64 p4], .agg #[.int .i64 e1, .int .i64 e2, .int .i64 e3, .int .i64 e4], .agg #[.int .i64 o1, .int .i64 o2, .int .i64 o3, .int .i64 o4], .pointer (some ⟨b4, 0, none⟩), .agg #[.int .i64 o1, .int .i64 o2, .int .i64 o3], .pointer (some ⟨b0, 3, none⟩), .int .i64 e4, .agg #[.int .i64 o1, .int .i64 o2, .int .i64 o3, .int .i64 e4], .slice (some ⟨b6, 0, none⟩) 4 4, .int .i64 4, .int .i64 (k : Int), .bool true, .pointer (some ⟨b6, k * 4, none⟩), .agg #[.int .i64 y1, .int .i64 y2, .int .i64 y3, .int .i64 y4], X8_ 0, X8_ 1, X8_ 2, X8_ 3, X8_ 4, X8_ 5, X8_ 6, X8_ 7, X8_ 8, X8_ 9, X8_ 10, X8_ 11, X8_ 12, X8_ 13, X8_ 14, X8_ 15, X8_ 16, X8_ 17, X8_ 18, X8_ 19, X8_ 20, X8_ 21, X8_ 22, X8_ 23, X8_ 24, X8_ 25, X8_ 26, X8_ 27, X8_ 28, .bool false, .int .i64 n, .int .i64 n, .int .i64 (n.tmod 100), .pointer (some ⟨b7, 0, none⟩), .agg #[.int .i64 y1, .int .i64 y2, .int .i64 y3], .agg #[.int .i64 (f1.tmod 25), .int .i64 (f2.tmod 25), .int .i64 (f3.tmod 25)], .int .i64 (rch y1 y2 y3 (f1.tmod 25) (f2.tmod 25) (f3.tmod 25)), .slice (some ⟨b8, 0, none⟩) 3 3, .int .i64 3, .int .i64 3, .bool false, u100, u101, u102, u103, u104, u105, u106, u107, u108, u109, u110, u111, u112, u113, u114, u115, u116, u117, u118, u119, u120, u121, u122, .agg #[.int .i64 p1, .int .i64 p2, .int .i64 p3, .int .i64 p4], .agg #[.int .i64 e1, .int .i64 e2, .int .i64 e3, .int .i64 e4], .agg #[.int .i64 o1, .int .i64 o2, .int .i64 o3, .int .i64 o4], .slice (some ⟨b9, 0, none⟩) 3 3, .int .i64 3, .int .i64 (k3 : Int), .bool true, .pointer (some ⟨b9, k3 * 4, none⟩), .agg #[.int .i64 x1, .int .i64 x2, .int .i64 x3, .int .i64 x4], X 0, X 1, X 2, X 3, X 4, X 5, X 6, u139, u140, undef], []⟩) [(0, 0, 0), (0, 0, 0), (0, 0, 0), (0, 0, 0), (0, 0, 0), (0, 0, 0), (0, 0, 0)] (fun _ => []) [.val (.agg #[.int .i64 y1, .int .i64 y2, .int .i64 y3, .int .i64 y4]), .val (.agg #[.int .i64 x1, .int .i64 x2, .int .i64 x3, .int .i64 x4]), .val (.int .i64 (ordL [(y1, x1), (y2, x2), (y3, x3), (y4, x4)])), .val (.agg #[.int .i64 y1, .int .i64 y2, .int .i64 y3, .int .i64 y4]), .val (.agg #[.int .i64 x1, .int .i64 x2, .int .i64 x3, .int .i64 x4]), .val (.int .i64 (ordL [(y1, x1), (y2, x2), (y3, x3), (y4, x4)])), .val (.bool false)] [[], [], [0, 1], [], [], [3, 4], [2, 5]] [0, 1, 2, 3, 4, 5, 6] [] [] [] (fun _ => 0) W11 (by kernel_rfl) (by kernel_rfl) (by kernel_rfl) (by kernel_rfl) (by kernel_rfl) ?dist ?olds ?op ?al ?st ?into ?fin (upd (upd (upd (upd (upd (upd (upd (fun _ => undef) 0 (u132)) 1 (u133)) 2 (u134)) 3 (u135)) 4 (u136)) 5 (u137)) 6 (u138)) _ _ (by kernel_rfl) (of_decide_eq_true (by kernel_rfl)) (of_decide_eq_true (by kernel_rfl))
                case hn => rfl
                case dist => intro i hi j hj; simp at hi hj; try omega
                case olds => exact nofun
                case op =>
                  repeat' first | exact Each.nil | refine Each.cons ?_ ?_
                  all_goals intro X w7 H hb hD h
                  · have hv := v7.below (show Keep [] _ _ from hb).nil
                    have c0_ := hv.at 0 rfl
                    have c1_ := hv.at 1 rfl
                    have c2_ := hv.at 2 rfl
                    have c3_ := hv.at 3 rfl
                    refine tv rfl (by rfl) ?_ (by exact h _ w7 rfl (Below.refl _ _))
                    go_simp <;> first | rfl | (simp only [IntWalk.i64_left]; rfl) | (simp only [IntWalk.i64_left, *]; done) | (simp only [IntWalk.i64_left, *]; rfl)
                  · have hv := v10.below (show Keep [] _ _ from hb).nil
                    have c0_ := hv.at 0 rfl
                    have c1_ := hv.at 1 rfl
                    have c2_ := hv.at 2 rfl
                    have c3_ := hv.at 3 rfl
                    refine tv rfl (by rfl) ?_ (by exact h _ w7 rfl (Below.refl _ _))
                    go_simp <;> first | rfl | (simp only [IntWalk.i64_left]; rfl) | (simp only [IntWalk.i64_left, *]; done) | (simp only [IntWalk.i64_left, *]; rfl)
                  · have e0_ : X 0 = _ := hD 0 (by decide) rfl
                    have e1_ : X 1 = _ := hD 1 (by decide) rfl
                    refine wpOp_call (i := 2) (f := 37) (args := #[.agg #[.int .i64 y1, .int .i64 y2, .int .i64 y3, .int .i64 y4], .agg #[.int .i64 x1, .int .i64 x2, .int .i64 x3, .int .i64 x4]]) 134 rfl rfl (by simp only [e0_, e1_]; rfl) (by simp only [e0_, e1_]; go_simp) ?_
                    refine (compare_p y1 y2 y3 y4 x1 x2 x3 x4 _).mono ?_
                    rintro e w8 ⟨rfl, hk⟩
                    exact ⟨_, rfl, h _ w8 rfl hk⟩
                  · have hv := v7.below (show Keep [] _ _ from hb).nil
                    have c0_ := hv.at 0 rfl
                    have c1_ := hv.at 1 rfl
                    have c2_ := hv.at 2 rfl
                    have c3_ := hv.at 3 rfl
                    refine tv rfl (by rfl) ?_ (by exact h _ w7 rfl (Below.refl _ _))
                    go_simp <;> first | rfl | (simp only [IntWalk.i64_left]; rfl) | (simp only [IntWalk.i64_left, *]; done) | (simp only [IntWalk.i64_left, *]; rfl)
                  · have hv := v10.below (show Keep [] _ _ from hb).nil
                    have c0_ := hv.at 0 rfl
                    have c1_ := hv.at 1 rfl
                    have c2_ := hv.at 2 rfl
                    have c3_ := hv.at 3 rfl
                    refine tv rfl (by rfl) ?_ (by exact h _ w7 rfl (Below.refl _ _))
                    go_simp <;> first | rfl | (simp only [IntWalk.i64_left]; rfl) | (simp only [IntWalk.i64_left, *]; done) | (simp only [IntWalk.i64_left, *]; rfl)
                  · have e3_ : X 3 = _ := hD 3 (by decide) rfl
                    have e4_ : X 4 = _ := hD 4 (by decide) rfl
                    refine wpOp_call (i := 5) (f := 38) (args := #[.agg #[.int .i64 y1, .int .i64 y2, .int .i64 y3, .int .i64 y4], .agg #[.int .i64 x1, .int .i64 x2, .int .i64 x3, .int .i64 x4]]) 137 rfl rfl (by simp only [e3_, e4_]; rfl) (by simp only [e3_, e4_]; go_simp) ?_
                    refine (compare_r y1 y2 y3 y4 x1 x2 x3 x4 _).mono ?_
                    rintro e w8 ⟨rfl, hk⟩
                    exact ⟨_, rfl, h _ w8 rfl hk⟩
                  · have e2_ : X 2 = _ := hD 2 (by decide) rfl
                    have e5_ : X 5 = _ := hD 5 (by decide) rfl
                    refine tv rfl (by simp only [e2_, e5_]; rfl) ?_ (by exact h _ w7 rfl (Below.refl _ _))
                    simp only [e2_, e5_]; go_simp <;> first | rfl | (simp only [IntWalk.i64_left]; rfl) | (simp only [IntWalk.i64_left, *]; done) | (simp only [IntWalk.i64_left, *]; rfl)
                case al => exact Each.nil
                case st => exact Each.nil
                case into => exact Each.nil
                case fin =>
                  intro X21_ W12 hI
                  have hE : Keep [] W11 W12 := hI.keep
                  have e6_ : X21_ 6 = _ := hI.fact 6 (by decide) rfl rfl
                  have v0 := v0.below hE.nil
                  have v1 := v1.below hE.nil
                  have v3 := v3.below hE.nil
                  have v4 := v4.below hE.nil
                  have v5 := v5.below hE.nil
                  have v6 := v6.below hE.nil
                  have v7 := v7.below hE.nil
                  have v8 := v8.below hE.nil
                  have v9 := v9.below hE.nil
                  have v10 := v10.below hE.nil
                  have hB := hB.trans (hE.nil.mono hB.size)
                  simp only [e6_]
                  clear e6_ hI hE
                  clear d0 d1 d2 d3
                  go_wp2_with fail
                  have hBs := hB.size
                  go_roundw
                  case rel => first | exact ⟨k3 + 1, by omega, by simp, by repeat (first | exact hB | refine Below.alloc ?_ (by first | omega | (simp; try omega)) _ | refine Below.setCell ?_ (by first | omega | (simp; try omega)) _), v0, v1, v3, v4, v5, v6, v7, v8, v9⟩ | ((repeat apply Exists.intro); refine ⟨⟨k3 + 1, by omega, by simp, by repeat (first | exact hB | refine Below.alloc ?_ (by first | omega | (simp; try omega)) _ | refine Below.setCell ?_ (by first | omega | (simp; try omega)) _), v0, v1, v3, v4, v5, v6, v7, v8, v9⟩, rfl⟩)
                  case measure => simp [intOf]; omega
              · obtain rfl : k3 = 3 := by omega
                go_wp2_with fail
                have hBs := hB.size
                go_roundw
                case rel => first | exact ⟨k + 1, by omega, by simp, by repeat (first | exact hB | refine Below.alloc ?_ (by first | omega | (simp; try omega)) _ | refine Below.setCell ?_ (by first | omega | (simp; try omega)) _), v0, v1, v3, v4, v5, v6⟩ | ((repeat apply Exists.intro); refine ⟨⟨k + 1, by omega, by simp, by repeat (first | exact hB | refine Below.alloc ?_ (by first | omega | (simp; try omega)) _ | refine Below.setCell ?_ (by first | omega | (simp; try omega)) _), v0, v1, v3, v4, v5, v6⟩, rfl⟩)
                case measure => simp [intOf]; omega
    · obtain rfl : k = 4 := by omega
      go_wp2_with fail
      have hBs := hB.size
      go_ret
      exact ⟨rfl, by repeat (first | exact hB | refine Below.alloc ?_ (by first | omega | (simp; try omega)) _ | refine Below.setCell ?_ (by first | omega | (simp; try omega)) _)⟩
end Go.Proofs.Ytblnpelbklfloaa
