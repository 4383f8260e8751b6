/- The reference's Made: short numbers, a primitive vector. -/
import Derived.Test.YtblnpelbklfloaaVSid
namespace Go.Proofs.Ytblnpelbklfloaa
open Go.RowKit

/-- a plane that Made gives -/
def MadeP (x y z b : Int) : Prop := (-4608 ≤ x ∧ x ≤ 4608) ∧ (-4608 ≤ y ∧ y ≤ 4608) ∧ (-4608 ≤ z ∧ z ≤ 4608) ∧ g3 x y z = 1 ∧ (-331776 ≤ b ∧ b ≤ 331776)
theorem made_th {a1 a2 a3 b1 b2 b3 c1 c2 c3 : Int} (ha : P24 a1 a2 a3) (hb : P24 b1 b2 b3) (hc : P24 c1 c2 c3) (ho : thO a1 a2 a3 b1 b2 b3 c1 c2 c3 = true) :
    MadeP (thI a1 a2 a3 b1 b2 b3 c1 c2 c3) (thJ a1 a2 a3 b1 b2 b3 c1 c2 c3) (thK a1 a2 a3 b1 b2 b3 c1 c2 c3) (thD a1 a2 a3 b1 b2 b3 c1 c2 c3) := by
  have h : cgI a1 a2 a3 b1 b2 b3 c1 c2 c3 ≠ 0 := by
    rw [thO_eq ha hb hc] at ho
    simpa using ho
  obtain ⟨-, e1, e2, e3, e4⟩ := th_yes ha hb hc h
  obtain ⟨n1, n2, n3⟩ := n_bounds ha hb hc
  rw [e1, e2, e3, e4]
  exact ⟨n1, n2, n3, g3_prim h, (dt_all n1 n2 n3 ha).2⟩
theorem made_x {t r : Int} (ht : 0 ≤ t ∧ t ≤ 1) (hr : -8 ≤ r ∧ r ≤ 8) : MadeP (1 - 2 * t) 0 0 r := by
  refine ⟨by omega, by omega, by omega, ?_, by omega⟩
  rcases (show t = 0 ∨ t = 1 by omega) with rfl | rfl <;> rfl
theorem made_y {t r : Int} (ht : 0 ≤ t ∧ t ≤ 1) (hr : -8 ≤ r ∧ r ≤ 8) : MadeP 0 (1 - 2 * t) 0 r := by
  refine ⟨by omega, by omega, by omega, ?_, by omega⟩
  rcases (show t = 0 ∨ t = 1 by omega) with rfl | rfl <;> rfl
theorem made_z {t r : Int} (ht : 0 ≤ t ∧ t ≤ 1) (hr : -8 ≤ r ∧ r ≤ 8) : MadeP 0 0 (1 - 2 * t) r := by
  refine ⟨by omega, by omega, by omega, ?_, by omega⟩
  rcases (show t = 0 ∨ t = 1 by omega) with rfl | rfl <;> rfl

set_option maxRecDepth 100000 in
set_option maxHeartbeats 4000000 in
theorem made_v (ao : Option Addr) (len cap : Nat) (hlen : len ≤ 9223372036854775807) (w : World) (hl : Lst w ao len w.heap.size) : Calls Try.prog 27 #[.slice ao len cap] w fun e w' => ∃ x y z b : Int, e = .returned (Pl x y z b) ∧ MadeP x y z b ∧ Below w.heap.size w w' := by
  go_enter Try.func27, Try.ntmps27
  have hB := Below.refl w.heap.size w
  go_wp2_with fail
  obtain ⟨W1, hW_⟩ : ∃ W, (w.alloc (.cells #[.int .i64 0, .int .i64 0, .int .i64 0, .int .i64 0] 39)).alloc (.cells #[.slice ao len cap, .int .i64 0] 65) = W := ⟨_, rfl⟩
  have hk : Below ((w.alloc (.cells #[.int .i64 0, .int .i64 0, .int .i64 0, .int .i64 0] 39)).alloc (.cells #[.slice ao len cap, .int .i64 0] 65)).heap.size ((w.alloc (.cells #[.int .i64 0, .int .i64 0, .int .i64 0, .int .i64 0] 39)).alloc (.cells #[.slice ao len cap, .int .i64 0] 65)) W1 := by rw [hW_]; exact Below.refl _ _
  try rw [hW_]
  clear hW_
  have hs : Below w.heap.size w W1 := Below.trans (by repeat (first | exact Below.refl _ _ | refine Below.alloc ?_ (by first | omega | (simp; try omega)) _ | refine Below.setCell ?_ (by first | omega | (simp; try omega)) _)) (hk.mono (by first | omega | (simp; try omega)))
  have hl := hl.below hs
  have v0 : Var W1 (w.heap.size) [.int .i64 0, .int .i64 0, .int .i64 0, .int .i64 0] := Var.low ⟨by first | omega | (simp; try omega), by simp [Cel, go_sem]⟩ hk (by first | omega | (simp; try omega))
  have v1 : Var W1 (w.heap.size + 1) [.slice ao len cap, .int .i64 0] := Var.low ⟨by first | omega | (simp; try omega), by simp [Cel, go_sem]⟩ hk (by first | omega | (simp; try omega))
  obtain ⟨b1, hb1⟩ : ∃ b, w.heap.size + 1 = b := ⟨_, rfl⟩
  have lob1 : w.heap.size ≤ b1 := by have := hB.size; omega
  obtain ⟨b0, hb0⟩ : ∃ b, w.heap.size = b := ⟨_, rfl⟩
  have lob0 : w.heap.size ≤ b0 := by have := hB.size; omega
  have db0_b1 : b0 ≠ b1 := by omega
  rw [hb1] at v1
  try rw [hb1]
  rw [hb0] at v0
  try rw [hb0]
  have hB := hB.trans (hs.mono hB.size)
  clear hb0 hb1 hs hk
  refine (next_r b1 ao len cap 0 hlen w.heap.size lob1 8 (by decide) (by decide) _ v1 hl).mono ?_
  rintro e W2 ⟨r1, a1, rfl, lr1, hr1, v1, K1⟩
  have v0 := K1.var v0 (by simp; first | assumption | (apply Ne.symm; assumption))
  have hB := hB.trans (K1.low (B := w.heap.size) hB.size (by intro b hb; simp at hb; subst hb; exact lob1))
  have hl := hl.keep K1 lob1
  clear K1
  go_wp2_with fail
  refine (next_r b1 ao len cap a1 hlen w.heap.size lob1 17 (by decide) (by decide) _ v1 hl).mono ?_
  rintro e W3 ⟨r2, a2, rfl, lr2, hr2, v1, K1⟩
  have v0 := K1.var v0 (by simp; first | assumption | (apply Ne.symm; assumption))
  have hB := hB.trans (K1.low (B := w.heap.size) hB.size (by intro b hb; simp at hb; subst hb; exact lob1))
  have hl := hl.keep K1 lob1
  clear K1
  go_wp2_with fail
  refine (vec_r b1 ao len cap a2 hlen w.heap.size lob1 8 (by decide) (by decide) _ v1 hl).mono ?_
  rintro e W4 ⟨x3, y3, z3, a3, rfl, hv3, v1, K1⟩
  try simp only [V]
  have v0 := K1.var v0 (by simp; first | assumption | (apply Ne.symm; assumption))
  have hB := hB.trans (K1.low (B := w.heap.size) hB.size (by intro b hb; simp at hb; subst hb; exact lob1))
  have hl := hl.keep K1 lob1
  clear K1
  go_wp2_with fail
  refine (vec_r b1 ao len cap a3 hlen w.heap.size lob1 8 (by decide) (by decide) _ v1 hl).mono ?_
  rintro e W5 ⟨x4, y4, z4, a4, rfl, hv4, v1, K1⟩
  try simp only [V]
  have v0 := K1.var v0 (by simp; first | assumption | (apply Ne.symm; assumption))
  have hB := hB.trans (K1.low (B := w.heap.size) hB.size (by intro b hb; simp at hb; subst hb; exact lob1))
  have hl := hl.keep K1 lob1
  clear K1
  go_wp2_with fail
  refine (vec_r b1 ao len cap a4 hlen w.heap.size lob1 8 (by decide) (by decide) _ v1 hl).mono ?_
  rintro e W6 ⟨x5, y5, z5, a5, rfl, hv5, v1, K1⟩
  try simp only [V]
  have v0 := K1.var v0 (by simp; first | assumption | (apply Ne.symm; assumption))
  have hB := hB.trans (K1.low (B := w.heap.size) hB.size (by intro b hb; simp at hb; subst hb; exact lob1))
  have hl := hl.keep K1 lob1
  clear K1
  go_wp2_with fail
  refine (through_r x3 y3 z3 x4 y4 z4 x5 y5 z5 _).mono ?_
  rintro e W7 ⟨rfl, hk⟩

  try simp only [Pl]
  have hs := hk
  have v0 := v0.below hs
  have v1 := v1.below hs
  have hl := hl.below hs
  have hB := hB.trans (hs.mono hB.size)
  clear hs hk
  have hth := hideV (made_th (⟨⟨by omega, by omega⟩, ⟨by omega, by omega⟩, by omega, by omega⟩ : P24 x3 y3 z3) (⟨⟨by omega, by omega⟩, ⟨by omega, by omega⟩, by omega, by omega⟩ : P24 x4 y4 z4) (⟨⟨by omega, by omega⟩, ⟨by omega, by omega⟩, by omega, by omega⟩ : P24 x5 y5 z5))
  obtain ⟨t, ht, ht2⟩ : ∃ t, r1.tmod 2 = t ∧ (0 ≤ t ∧ t ≤ 1) := ⟨_, rfl, by have h3 := Int.tmod_nonneg 2 (show 0 ≤ r1 by omega); have h4 := Int.tmod_lt_of_pos r1 (show (0 : Int) < 2 by decide); omega⟩
  by_cases hk : 1 < r1
  · cases ho : thO x3 y3 z3 x4 y4 z4 x5 y5 z5
    ·
      skip
      go_wp2_with fail
      refine (mod_r (r2 - 8) 3 (by decide) (by decide) _).mono ?_
      rintro e wS ⟨rfl, rfl⟩
      obtain ⟨m, hm⟩ : ∃ m, (r2 - 8) % 3 = m := ⟨_, rfl⟩
      rw [hm]
      have hm3 : 0 ≤ m ∧ m < 3 := by omega
      clear hm
      by_cases m1 : m = 1
      · subst m1
        have cb0_0 := v0.at 0 rfl
        have zb0_0 := v0.fr 0 (by simp)
        have ab0_0_1 : ∀ o0, (W7.alloc o0).cell? ⟨b0, 0, none⟩ = some (.int .i64 0) := fun o0 => (v0.allocs1 o0).at 0 rfl
        have yb0_0_1 : ∀ o0, (W7.alloc o0).frozen? ⟨b0, 0, none⟩ = false := fun o0 => (v0.allocs1 o0).fr 0 (by simp)
        have ab0_0_2 : ∀ o0 o1, ((W7.alloc o0).alloc o1).cell? ⟨b0, 0, none⟩ = some (.int .i64 0) := fun o0 o1 => (v0.allocs2 o0 o1).at 0 rfl
        have yb0_0_2 : ∀ o0 o1, ((W7.alloc o0).alloc o1).frozen? ⟨b0, 0, none⟩ = false := fun o0 o1 => (v0.allocs2 o0 o1).fr 0 (by simp)
        have cb0_1 := v0.at 1 rfl
        have zb0_1 := v0.fr 1 (by simp)
        have ab0_1_1 : ∀ o0, (W7.alloc o0).cell? ⟨b0, 1, none⟩ = some (.int .i64 0) := fun o0 => (v0.allocs1 o0).at 1 rfl
        have yb0_1_1 : ∀ o0, (W7.alloc o0).frozen? ⟨b0, 1, none⟩ = false := fun o0 => (v0.allocs1 o0).fr 1 (by simp)
        have ab0_1_2 : ∀ o0 o1, ((W7.alloc o0).alloc o1).cell? ⟨b0, 1, none⟩ = some (.int .i64 0) := fun o0 o1 => (v0.allocs2 o0 o1).at 1 rfl
        have yb0_1_2 : ∀ o0 o1, ((W7.alloc o0).alloc o1).frozen? ⟨b0, 1, none⟩ = false := fun o0 o1 => (v0.allocs2 o0 o1).fr 1 (by simp)
        have cb0_2 := v0.at 2 rfl
        have zb0_2 := v0.fr 2 (by simp)
        have ab0_2_1 : ∀ o0, (W7.alloc o0).cell? ⟨b0, 2, none⟩ = some (.int .i64 0) := fun o0 => (v0.allocs1 o0).at 2 rfl
        have yb0_2_1 : ∀ o0, (W7.alloc o0).frozen? ⟨b0, 2, none⟩ = false := fun o0 => (v0.allocs1 o0).fr 2 (by simp)
        have ab0_2_2 : ∀ o0 o1, ((W7.alloc o0).alloc o1).cell? ⟨b0, 2, none⟩ = some (.int .i64 0) := fun o0 o1 => (v0.allocs2 o0 o1).at 2 rfl
        have yb0_2_2 : ∀ o0 o1, ((W7.alloc o0).alloc o1).frozen? ⟨b0, 2, none⟩ = false := fun o0 o1 => (v0.allocs2 o0 o1).fr 2 (by simp)
        have cb0_3 := v0.at 3 rfl
        have zb0_3 := v0.fr 3 (by simp)
        have ab0_3_1 : ∀ o0, (W7.alloc o0).cell? ⟨b0, 3, none⟩ = some (.int .i64 0) := fun o0 => (v0.allocs1 o0).at 3 rfl
        have yb0_3_1 : ∀ o0, (W7.alloc o0).frozen? ⟨b0, 3, none⟩ = false := fun o0 => (v0.allocs1 o0).fr 3 (by simp)
        have ab0_3_2 : ∀ o0 o1, ((W7.alloc o0).alloc o1).cell? ⟨b0, 3, none⟩ = some (.int .i64 0) := fun o0 o1 => (v0.allocs2 o0 o1).at 3 rfl
        have yb0_3_2 : ∀ o0 o1, ((W7.alloc o0).alloc o1).frozen? ⟨b0, 3, none⟩ = false := fun o0 o1 => (v0.allocs2 o0 o1).fr 3 (by simp)
        go_wp2_with fail
        have hBs := hB.size
        change bodyPost Try.prog Try.f27 _ _ _ _
        refine bodyPost_ret (v := .agg #[.int .i64 0, .int .i64 (1 - 2 * t), .int .i64 0, .int .i64 (r2 - 8)]) (by simp [results, Try.results27, go_sem, ab0_0_2, ab0_1_2, ab0_2_2, ab0_3_2]) rfl ?_
        exact ⟨_, _, _, _, rfl, made_y ht2 (by omega), by repeat (first | exact hB | refine Below.alloc ?_ (by first | omega | (simp; try omega)) _ | refine Below.setCell ?_ (by first | omega | (simp; try omega)) _)⟩
      · by_cases m2 : m = 2
        · subst m2
          have cb0_0 := v0.at 0 rfl
          have zb0_0 := v0.fr 0 (by simp)
          have ab0_0_1 : ∀ o0, (W7.alloc o0).cell? ⟨b0, 0, none⟩ = some (.int .i64 0) := fun o0 => (v0.allocs1 o0).at 0 rfl
          have yb0_0_1 : ∀ o0, (W7.alloc o0).frozen? ⟨b0, 0, none⟩ = false := fun o0 => (v0.allocs1 o0).fr 0 (by simp)
          have ab0_0_2 : ∀ o0 o1, ((W7.alloc o0).alloc o1).cell? ⟨b0, 0, none⟩ = some (.int .i64 0) := fun o0 o1 => (v0.allocs2 o0 o1).at 0 rfl
          have yb0_0_2 : ∀ o0 o1, ((W7.alloc o0).alloc o1).frozen? ⟨b0, 0, none⟩ = false := fun o0 o1 => (v0.allocs2 o0 o1).fr 0 (by simp)
          have cb0_1 := v0.at 1 rfl
          have zb0_1 := v0.fr 1 (by simp)
          have ab0_1_1 : ∀ o0, (W7.alloc o0).cell? ⟨b0, 1, none⟩ = some (.int .i64 0) := fun o0 => (v0.allocs1 o0).at 1 rfl
          have yb0_1_1 : ∀ o0, (W7.alloc o0).frozen? ⟨b0, 1, none⟩ = false := fun o0 => (v0.allocs1 o0).fr 1 (by simp)
          have ab0_1_2 : ∀ o0 o1, ((W7.alloc o0).alloc o1).cell? ⟨b0, 1, none⟩ = some (.int .i64 0) := fun o0 o1 => (v0.allocs2 o0 o1).at 1 rfl
          have yb0_1_2 : ∀ o0 o1, ((W7.alloc o0).alloc o1).frozen? ⟨b0, 1, none⟩ = false := fun o0 o1 => (v0.allocs2 o0 o1).fr 1 (by simp)
          have cb0_2 := v0.at 2 rfl
          have zb0_2 := v0.fr 2 (by simp)
          have ab0_2_1 : ∀ o0, (W7.alloc o0).cell? ⟨b0, 2, none⟩ = some (.int .i64 0) := fun o0 => (v0.allocs1 o0).at 2 rfl
          have yb0_2_1 : ∀ o0, (W7.alloc o0).frozen? ⟨b0, 2, none⟩ = false := fun o0 => (v0.allocs1 o0).fr 2 (by simp)
          have ab0_2_2 : ∀ o0 o1, ((W7.alloc o0).alloc o1).cell? ⟨b0, 2, none⟩ = some (.int .i64 0) := fun o0 o1 => (v0.allocs2 o0 o1).at 2 rfl
          have yb0_2_2 : ∀ o0 o1, ((W7.alloc o0).alloc o1).frozen? ⟨b0, 2, none⟩ = false := fun o0 o1 => (v0.allocs2 o0 o1).fr 2 (by simp)
          have cb0_3 := v0.at 3 rfl
          have zb0_3 := v0.fr 3 (by simp)
          have ab0_3_1 : ∀ o0, (W7.alloc o0).cell? ⟨b0, 3, none⟩ = some (.int .i64 0) := fun o0 => (v0.allocs1 o0).at 3 rfl
          have yb0_3_1 : ∀ o0, (W7.alloc o0).frozen? ⟨b0, 3, none⟩ = false := fun o0 => (v0.allocs1 o0).fr 3 (by simp)
          have ab0_3_2 : ∀ o0 o1, ((W7.alloc o0).alloc o1).cell? ⟨b0, 3, none⟩ = some (.int .i64 0) := fun o0 o1 => (v0.allocs2 o0 o1).at 3 rfl
          have yb0_3_2 : ∀ o0 o1, ((W7.alloc o0).alloc o1).frozen? ⟨b0, 3, none⟩ = false := fun o0 o1 => (v0.allocs2 o0 o1).fr 3 (by simp)
          go_wp2_with fail
          have hBs := hB.size
          change bodyPost Try.prog Try.f27 _ _ _ _
          refine bodyPost_ret (v := .agg #[.int .i64 0, .int .i64 0, .int .i64 (1 - 2 * t), .int .i64 (r2 - 8)]) (by simp [results, Try.results27, go_sem, ab0_0_2, ab0_1_2, ab0_2_2, ab0_3_2]) rfl ?_
          exact ⟨_, _, _, _, rfl, made_z ht2 (by omega), by repeat (first | exact hB | refine Below.alloc ?_ (by first | omega | (simp; try omega)) _ | refine Below.setCell ?_ (by first | omega | (simp; try omega)) _)⟩
        · have m3 : m = 0 := by omega
          subst m3
          have cb0_0 := v0.at 0 rfl
          have zb0_0 := v0.fr 0 (by simp)
          have ab0_0_1 : ∀ o0, (W7.alloc o0).cell? ⟨b0, 0, none⟩ = some (.int .i64 0) := fun o0 => (v0.allocs1 o0).at 0 rfl
          have yb0_0_1 : ∀ o0, (W7.alloc o0).frozen? ⟨b0, 0, none⟩ = false := fun o0 => (v0.allocs1 o0).fr 0 (by simp)
          have ab0_0_2 : ∀ o0 o1, ((W7.alloc o0).alloc o1).cell? ⟨b0, 0, none⟩ = some (.int .i64 0) := fun o0 o1 => (v0.allocs2 o0 o1).at 0 rfl
          have yb0_0_2 : ∀ o0 o1, ((W7.alloc o0).alloc o1).frozen? ⟨b0, 0, none⟩ = false := fun o0 o1 => (v0.allocs2 o0 o1).fr 0 (by simp)
          have cb0_1 := v0.at 1 rfl
          have zb0_1 := v0.fr 1 (by simp)
          have ab0_1_1 : ∀ o0, (W7.alloc o0).cell? ⟨b0, 1, none⟩ = some (.int .i64 0) := fun o0 => (v0.allocs1 o0).at 1 rfl
          have yb0_1_1 : ∀ o0, (W7.alloc o0).frozen? ⟨b0, 1, none⟩ = false := fun o0 => (v0.allocs1 o0).fr 1 (by simp)
          have ab0_1_2 : ∀ o0 o1, ((W7.alloc o0).alloc o1).cell? ⟨b0, 1, none⟩ = some (.int .i64 0) := fun o0 o1 => (v0.allocs2 o0 o1).at 1 rfl
          have yb0_1_2 : ∀ o0 o1, ((W7.alloc o0).alloc o1).frozen? ⟨b0, 1, none⟩ = false := fun o0 o1 => (v0.allocs2 o0 o1).fr 1 (by simp)
          have cb0_2 := v0.at 2 rfl
          have zb0_2 := v0.fr 2 (by simp)
          have ab0_2_1 : ∀ o0, (W7.alloc o0).cell? ⟨b0, 2, none⟩ = some (.int .i64 0) := fun o0 => (v0.allocs1 o0).at 2 rfl
          have yb0_2_1 : ∀ o0, (W7.alloc o0).frozen? ⟨b0, 2, none⟩ = false := fun o0 => (v0.allocs1 o0).fr 2 (by simp)
          have ab0_2_2 : ∀ o0 o1, ((W7.alloc o0).alloc o1).cell? ⟨b0, 2, none⟩ = some (.int .i64 0) := fun o0 o1 => (v0.allocs2 o0 o1).at 2 rfl
          have yb0_2_2 : ∀ o0 o1, ((W7.alloc o0).alloc o1).frozen? ⟨b0, 2, none⟩ = false := fun o0 o1 => (v0.allocs2 o0 o1).fr 2 (by simp)
          have cb0_3 := v0.at 3 rfl
          have zb0_3 := v0.fr 3 (by simp)
          have ab0_3_1 : ∀ o0, (W7.alloc o0).cell? ⟨b0, 3, none⟩ = some (.int .i64 0) := fun o0 => (v0.allocs1 o0).at 3 rfl
          have yb0_3_1 : ∀ o0, (W7.alloc o0).frozen? ⟨b0, 3, none⟩ = false := fun o0 => (v0.allocs1 o0).fr 3 (by simp)
          have ab0_3_2 : ∀ o0 o1, ((W7.alloc o0).alloc o1).cell? ⟨b0, 3, none⟩ = some (.int .i64 0) := fun o0 o1 => (v0.allocs2 o0 o1).at 3 rfl
          have yb0_3_2 : ∀ o0 o1, ((W7.alloc o0).alloc o1).frozen? ⟨b0, 3, none⟩ = false := fun o0 o1 => (v0.allocs2 o0 o1).fr 3 (by simp)
          go_wp2_with fail
          have hBs := hB.size
          change bodyPost Try.prog Try.f27 _ _ _ _
          refine bodyPost_ret (v := .agg #[.int .i64 (1 - 2 * t), .int .i64 0, .int .i64 0, .int .i64 (r2 - 8)]) (by simp [results, Try.results27, go_sem, ab0_0_2, ab0_1_2, ab0_2_2, ab0_3_2]) rfl ?_
          exact ⟨_, _, _, _, rfl, made_x ht2 (by omega), by repeat (first | exact hB | refine Below.alloc ?_ (by first | omega | (simp; try omega)) _ | refine Below.setCell ?_ (by first | omega | (simp; try omega)) _)⟩
    ·
      skip
      have hq := hideV (hth.out ho)
      have cb0_0 := v0.at 0 rfl
      have zb0_0 := v0.fr 0 (by simp)
      have ab0_0_1 : ∀ o0, (W7.alloc o0).cell? ⟨b0, 0, none⟩ = some (.int .i64 0) := fun o0 => (v0.allocs1 o0).at 0 rfl
      have yb0_0_1 : ∀ o0, (W7.alloc o0).frozen? ⟨b0, 0, none⟩ = false := fun o0 => (v0.allocs1 o0).fr 0 (by simp)
      have cb0_1 := v0.at 1 rfl
      have zb0_1 := v0.fr 1 (by simp)
      have ab0_1_1 : ∀ o0, (W7.alloc o0).cell? ⟨b0, 1, none⟩ = some (.int .i64 0) := fun o0 => (v0.allocs1 o0).at 1 rfl
      have yb0_1_1 : ∀ o0, (W7.alloc o0).frozen? ⟨b0, 1, none⟩ = false := fun o0 => (v0.allocs1 o0).fr 1 (by simp)
      have cb0_2 := v0.at 2 rfl
      have zb0_2 := v0.fr 2 (by simp)
      have ab0_2_1 : ∀ o0, (W7.alloc o0).cell? ⟨b0, 2, none⟩ = some (.int .i64 0) := fun o0 => (v0.allocs1 o0).at 2 rfl
      have yb0_2_1 : ∀ o0, (W7.alloc o0).frozen? ⟨b0, 2, none⟩ = false := fun o0 => (v0.allocs1 o0).fr 2 (by simp)
      have cb0_3 := v0.at 3 rfl
      have zb0_3 := v0.fr 3 (by simp)
      have ab0_3_1 : ∀ o0, (W7.alloc o0).cell? ⟨b0, 3, none⟩ = some (.int .i64 0) := fun o0 => (v0.allocs1 o0).at 3 rfl
      have yb0_3_1 : ∀ o0, (W7.alloc o0).frozen? ⟨b0, 3, none⟩ = false := fun o0 => (v0.allocs1 o0).fr 3 (by simp)
      go_wp2_with fail
      have hBs := hB.size
      change bodyPost Try.prog Try.f27 _ _ _ _
      refine bodyPost_ret (v := .agg #[.int .i64 (thI x3 y3 z3 x4 y4 z4 x5 y5 z5), .int .i64 (thJ x3 y3 z3 x4 y4 z4 x5 y5 z5), .int .i64 (thK x3 y3 z3 x4 y4 z4 x5 y5 z5), .int .i64 (thD x3 y3 z3 x4 y4 z4 x5 y5 z5)]) (by simp [results, Try.results27, go_sem, ab0_0_1, ab0_1_1, ab0_2_1, ab0_3_1]) rfl ?_
      exact ⟨_, _, _, _, rfl, hq.out, by repeat (first | exact hB | refine Below.alloc ?_ (by first | omega | (simp; try omega)) _ | refine Below.setCell ?_ (by first | omega | (simp; try omega)) _)⟩
  ·
    skip
    go_wp2_with fail
    refine (mod_r (r2 - 8) 3 (by decide) (by decide) _).mono ?_
    rintro e wS ⟨rfl, rfl⟩
    obtain ⟨m, hm⟩ : ∃ m, (r2 - 8) % 3 = m := ⟨_, rfl⟩
    rw [hm]
    have hm3 : 0 ≤ m ∧ m < 3 := by omega
    clear hm
    by_cases m1 : m = 1
    · subst m1
      have cb0_0 := v0.at 0 rfl
      have zb0_0 := v0.fr 0 (by simp)
      have ab0_0_1 : ∀ o0, (W7.alloc o0).cell? ⟨b0, 0, none⟩ = some (.int .i64 0) := fun o0 => (v0.allocs1 o0).at 0 rfl
      have yb0_0_1 : ∀ o0, (W7.alloc o0).frozen? ⟨b0, 0, none⟩ = false := fun o0 => (v0.allocs1 o0).fr 0 (by simp)
      have ab0_0_2 : ∀ o0 o1, ((W7.alloc o0).alloc o1).cell? ⟨b0, 0, none⟩ = some (.int .i64 0) := fun o0 o1 => (v0.allocs2 o0 o1).at 0 rfl
      have yb0_0_2 : ∀ o0 o1, ((W7.alloc o0).alloc o1).frozen? ⟨b0, 0, none⟩ = false := fun o0 o1 => (v0.allocs2 o0 o1).fr 0 (by simp)
      have cb0_1 := v0.at 1 rfl
      have zb0_1 := v0.fr 1 (by simp)
      have ab0_1_1 : ∀ o0, (W7.alloc o0).cell? ⟨b0, 1, none⟩ = some (.int .i64 0) := fun o0 => (v0.allocs1 o0).at 1 rfl
      have yb0_1_1 : ∀ o0, (W7.alloc o0).frozen? ⟨b0, 1, none⟩ = false := fun o0 => (v0.allocs1 o0).fr 1 (by simp)
      have ab0_1_2 : ∀ o0 o1, ((W7.alloc o0).alloc o1).cell? ⟨b0, 1, none⟩ = some (.int .i64 0) := fun o0 o1 => (v0.allocs2 o0 o1).at 1 rfl
      have yb0_1_2 : ∀ o0 o1, ((W7.alloc o0).alloc o1).frozen? ⟨b0, 1, none⟩ = false := fun o0 o1 => (v0.allocs2 o0 o1).fr 1 (by simp)
      have cb0_2 := v0.at 2 rfl
      have zb0_2 := v0.fr 2 (by simp)
      have ab0_2_1 : ∀ o0, (W7.alloc o0).cell? ⟨b0, 2, none⟩ = some (.int .i64 0) := fun o0 => (v0.allocs1 o0).at 2 rfl
      have yb0_2_1 : ∀ o0, (W7.alloc o0).frozen? ⟨b0, 2, none⟩ = false := fun o0 => (v0.allocs1 o0).fr 2 (by simp)
      have ab0_2_2 : ∀ o0 o1, ((W7.alloc o0).alloc o1).cell? ⟨b0, 2, none⟩ = some (.int .i64 0) := fun o0 o1 => (v0.allocs2 o0 o1).at 2 rfl
      have yb0_2_2 : ∀ o0 o1, ((W7.alloc o0).alloc o1).frozen? ⟨b0, 2, none⟩ = false := fun o0 o1 => (v0.allocs2 o0 o1).fr 2 (by simp)
      have cb0_3 := v0.at 3 rfl
      have zb0_3 := v0.fr 3 (by simp)
      have ab0_3_1 : ∀ o0, (W7.alloc o0).cell? ⟨b0, 3, none⟩ = some (.int .i64 0) := fun o0 => (v0.allocs1 o0).at 3 rfl
      have yb0_3_1 : ∀ o0, (W7.alloc o0).frozen? ⟨b0, 3, none⟩ = false := fun o0 => (v0.allocs1 o0).fr 3 (by simp)
      have ab0_3_2 : ∀ o0 o1, ((W7.alloc o0).alloc o1).cell? ⟨b0, 3, none⟩ = some (.int .i64 0) := fun o0 o1 => (v0.allocs2 o0 o1).at 3 rfl
      have yb0_3_2 : ∀ o0 o1, ((W7.alloc o0).alloc o1).frozen? ⟨b0, 3, none⟩ = false := fun o0 o1 => (v0.allocs2 o0 o1).fr 3 (by simp)
      go_wp2_with fail
      have hBs := hB.size
      change bodyPost Try.prog Try.f27 _ _ _ _
      refine bodyPost_ret (v := .agg #[.int .i64 0, .int .i64 (1 - 2 * t), .int .i64 0, .int .i64 (r2 - 8)]) (by simp [results, Try.results27, go_sem, ab0_0_2, ab0_1_2, ab0_2_2, ab0_3_2]) rfl ?_
      exact ⟨_, _, _, _, rfl, made_y ht2 (by omega), by repeat (first | exact hB | refine Below.alloc ?_ (by first | omega | (simp; try omega)) _ | refine Below.setCell ?_ (by first | omega | (simp; try omega)) _)⟩
    · by_cases m2 : m = 2
      · subst m2
        have cb0_0 := v0.at 0 rfl
        have zb0_0 := v0.fr 0 (by simp)
        have ab0_0_1 : ∀ o0, (W7.alloc o0).cell? ⟨b0, 0, none⟩ = some (.int .i64 0) := fun o0 => (v0.allocs1 o0).at 0 rfl
        have yb0_0_1 : ∀ o0, (W7.alloc o0).frozen? ⟨b0, 0, none⟩ = false := fun o0 => (v0.allocs1 o0).fr 0 (by simp)
        have ab0_0_2 : ∀ o0 o1, ((W7.alloc o0).alloc o1).cell? ⟨b0, 0, none⟩ = some (.int .i64 0) := fun o0 o1 => (v0.allocs2 o0 o1).at 0 rfl
        have yb0_0_2 : ∀ o0 o1, ((W7.alloc o0).alloc o1).frozen? ⟨b0, 0, none⟩ = false := fun o0 o1 => (v0.allocs2 o0 o1).fr 0 (by simp)
        have cb0_1 := v0.at 1 rfl
        have zb0_1 := v0.fr 1 (by simp)
        have ab0_1_1 : ∀ o0, (W7.alloc o0).cell? ⟨b0, 1, none⟩ = some (.int .i64 0) := fun o0 => (v0.allocs1 o0).at 1 rfl
        have yb0_1_1 : ∀ o0, (W7.alloc o0).frozen? ⟨b0, 1, none⟩ = false := fun o0 => (v0.allocs1 o0).fr 1 (by simp)
        have ab0_1_2 : ∀ o0 o1, ((W7.alloc o0).alloc o1).cell? ⟨b0, 1, none⟩ = some (.int .i64 0) := fun o0 o1 => (v0.allocs2 o0 o1).at 1 rfl
        have yb0_1_2 : ∀ o0 o1, ((W7.alloc o0).alloc o1).frozen? ⟨b0, 1, none⟩ = false := fun o0 o1 => (v0.allocs2 o0 o1).fr 1 (by simp)
        have cb0_2 := v0.at 2 rfl
        have zb0_2 := v0.fr 2 (by simp)
        have ab0_2_1 : ∀ o0, (W7.alloc o0).cell? ⟨b0, 2, none⟩ = some (.int .i64 0) := fun o0 => (v0.allocs1 o0).at 2 rfl
        have yb0_2_1 : ∀ o0, (W7.alloc o0).frozen? ⟨b0, 2, none⟩ = false := fun o0 => (v0.allocs1 o0).fr 2 (by simp)
        have ab0_2_2 : ∀ o0 o1, ((W7.alloc o0).alloc o1).cell? ⟨b0, 2, none⟩ = some (.int .i64 0) := fun o0 o1 => (v0.allocs2 o0 o1).at 2 rfl
        have yb0_2_2 : ∀ o0 o1, ((W7.alloc o0).alloc o1).frozen? ⟨b0, 2, none⟩ = false := fun o0 o1 => (v0.allocs2 o0 o1).fr 2 (by simp)
        have cb0_3 := v0.at 3 rfl
        have zb0_3 := v0.fr 3 (by simp)
        have ab0_3_1 : ∀ o0, (W7.alloc o0).cell? ⟨b0, 3, none⟩ = some (.int .i64 0) := fun o0 => (v0.allocs1 o0).at 3 rfl
        have yb0_3_1 : ∀ o0, (W7.alloc o0).frozen? ⟨b0, 3, none⟩ = false := fun o0 => (v0.allocs1 o0).fr 3 (by simp)
        have ab0_3_2 : ∀ o0 o1, ((W7.alloc o0).alloc o1).cell? ⟨b0, 3, none⟩ = some (.int .i64 0) := fun o0 o1 => (v0.allocs2 o0 o1).at 3 rfl
        have yb0_3_2 : ∀ o0 o1, ((W7.alloc o0).alloc o1).frozen? ⟨b0, 3, none⟩ = false := fun o0 o1 => (v0.allocs2 o0 o1).fr 3 (by simp)
        go_wp2_with fail
        have hBs := hB.size
        change bodyPost Try.prog Try.f27 _ _ _ _
        refine bodyPost_ret (v := .agg #[.int .i64 0, .int .i64 0, .int .i64 (1 - 2 * t), .int .i64 (r2 - 8)]) (by simp [results, Try.results27, go_sem, ab0_0_2, ab0_1_2, ab0_2_2, ab0_3_2]) rfl ?_
        exact ⟨_, _, _, _, rfl, made_z ht2 (by omega), by repeat (first | exact hB | refine Below.alloc ?_ (by first | omega | (simp; try omega)) _ | refine Below.setCell ?_ (by first | omega | (simp; try omega)) _)⟩
      · have m3 : m = 0 := by omega
        subst m3
        have cb0_0 := v0.at 0 rfl
        have zb0_0 := v0.fr 0 (by simp)
        have ab0_0_1 : ∀ o0, (W7.alloc o0).cell? ⟨b0, 0, none⟩ = some (.int .i64 0) := fun o0 => (v0.allocs1 o0).at 0 rfl
        have yb0_0_1 : ∀ o0, (W7.alloc o0).frozen? ⟨b0, 0, none⟩ = false := fun o0 => (v0.allocs1 o0).fr 0 (by simp)
        have ab0_0_2 : ∀ o0 o1, ((W7.alloc o0).alloc o1).cell? ⟨b0, 0, none⟩ = some (.int .i64 0) := fun o0 o1 => (v0.allocs2 o0 o1).at 0 rfl
        have yb0_0_2 : ∀ o0 o1, ((W7.alloc o0).alloc o1).frozen? ⟨b0, 0, none⟩ = false := fun o0 o1 => (v0.allocs2 o0 o1).fr 0 (by simp)
        have cb0_1 := v0.at 1 rfl
        have zb0_1 := v0.fr 1 (by simp)
        have ab0_1_1 : ∀ o0, (W7.alloc o0).cell? ⟨b0, 1, none⟩ = some (.int .i64 0) := fun o0 => (v0.allocs1 o0).at 1 rfl
        have yb0_1_1 : ∀ o0, (W7.alloc o0).frozen? ⟨b0, 1, none⟩ = false := fun o0 => (v0.allocs1 o0).fr 1 (by simp)
        have ab0_1_2 : ∀ o0 o1, ((W7.alloc o0).alloc o1).cell? ⟨b0, 1, none⟩ = some (.int .i64 0) := fun o0 o1 => (v0.allocs2 o0 o1).at 1 rfl
        have yb0_1_2 : ∀ o0 o1, ((W7.alloc o0).alloc o1).frozen? ⟨b0, 1, none⟩ = false := fun o0 o1 => (v0.allocs2 o0 o1).fr 1 (by simp)
        have cb0_2 := v0.at 2 rfl
        have zb0_2 := v0.fr 2 (by simp)
        have ab0_2_1 : ∀ o0, (W7.alloc o0).cell? ⟨b0, 2, none⟩ = some (.int .i64 0) := fun o0 => (v0.allocs1 o0).at 2 rfl
        have yb0_2_1 : ∀ o0, (W7.alloc o0).frozen? ⟨b0, 2, none⟩ = false := fun o0 => (v0.allocs1 o0).fr 2 (by simp)
        have ab0_2_2 : ∀ o0 o1, ((W7.alloc o0).alloc o1).cell? ⟨b0, 2, none⟩ = some (.int .i64 0) := fun o0 o1 => (v0.allocs2 o0 o1).at 2 rfl
        have yb0_2_2 : ∀ o0 o1, ((W7.alloc o0).alloc o1).frozen? ⟨b0, 2, none⟩ = false := fun o0 o1 => (v0.allocs2 o0 o1).fr 2 (by simp)
        have cb0_3 := v0.at 3 rfl
        have zb0_3 := v0.fr 3 (by simp)
        have ab0_3_1 : ∀ o0, (W7.alloc o0).cell? ⟨b0, 3, none⟩ = some (.int .i64 0) := fun o0 => (v0.allocs1 o0).at 3 rfl
        have yb0_3_1 : ∀ o0, (W7.alloc o0).frozen? ⟨b0, 3, none⟩ = false := fun o0 => (v0.allocs1 o0).fr 3 (by simp)
        have ab0_3_2 : ∀ o0 o1, ((W7.alloc o0).alloc o1).cell? ⟨b0, 3, none⟩ = some (.int .i64 0) := fun o0 o1 => (v0.allocs2 o0 o1).at 3 rfl
        have yb0_3_2 : ∀ o0 o1, ((W7.alloc o0).alloc o1).frozen? ⟨b0, 3, none⟩ = false := fun o0 o1 => (v0.allocs2 o0 o1).fr 3 (by simp)
        go_wp2_with fail
        have hBs := hB.size
        change bodyPost Try.prog Try.f27 _ _ _ _
        refine bodyPost_ret (v := .agg #[.int .i64 (1 - 2 * t), .int .i64 0, .int .i64 0, .int .i64 (r2 - 8)]) (by simp [results, Try.results27, go_sem, ab0_0_2, ab0_1_2, ab0_2_2, ab0_3_2]) rfl ?_
        exact ⟨_, _, _, _, rfl, made_x ht2 (by omega), by repeat (first | exact hB | refine Below.alloc ?_ (by first | omega | (simp; try omega)) _ | refine Below.setCell ?_ (by first | omega | (simp; try omega)) _)⟩

end Go.Proofs.Ytblnpelbklfloaa
