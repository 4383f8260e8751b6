/- The reference's Valid, Compare, Side, Push and Through. -/
import Derived.Test.YtblnpelbklfloaaVRef
namespace Go.Proofs.Ytblnpelbklfloaa
open Go.RowKit

theorem prim_r1 (x y z : Int) (hx : I64 x) (hy : I64 y) (hz : I64 z) (w : World) : Calls Try.prog 25 #[V x y z] w (Gives w (.tuple #[V (x.tdiv (dv3 x y z : Int)) (y.tdiv (dv3 x y z : Int)) (z.tdiv (dv3 x y z : Int)), .int .i64 (dv3 x y z : Int)])) := prim_r0 x y z (hideV hx) (hideV hy) (hideV hz) w
theorem get4 (x y z b : Int) {k : Nat} (h : k < 4) : ([.int .i64 x, .int .i64 y, .int .i64 z, .int .i64 b] : List Value)[k]? = some (.int .i64 ([x, y, z, b].getD k 0)) := by
  match k, h with
  | 0, _ | 1, _ | 2, _ | 3, _ => rfl
/-- the sign of a number -/
def sgn (m : Int) : Int := if m < 0 then -1 else if 0 < m then 1 else 0

set_option maxRecDepth 100000 in
set_option maxHeartbeats 2000000 in
theorem valid_r (x y z b : Int) (hx : I64 x) (hy : I64 y) (hz : I64 z) (w : World) : Calls Try.prog 30 #[Pl x y z b] w (Gives w (.bool (valid x y z b))) := by
  unfold Pl
  go_enter Try.func30, Try.ntmps30
  have hB := Below.refl w.heap.size w
  go_wp2_with fail
  refine (components_r x y z _).mono ?_
  rintro e W1 ⟨rfl, hk⟩
  try simp only [V]
  have hs : Below w.heap.size w W1 := Below.trans (by repeat (first | exact Below.refl _ _ | refine Below.alloc ?_ (by first | omega | (simp; try omega)) _ | refine Below.setCell ?_ (by first | omega | (simp; try omega)) _)) (hk.mono (by first | omega | (simp; try omega)))
  have v0 : Var W1 (w.heap.size) [.int .i64 x, .int .i64 y, .int .i64 z, .int .i64 b] := Var.low ⟨by first | omega | (simp; try omega), by simp [Cel, go_sem]⟩ hk (by first | omega | (simp; try omega))
  obtain ⟨b0, hb0⟩ : ∃ b, w.heap.size = b := ⟨_, rfl⟩
  have lob0 : w.heap.size ≤ b0 := by have := hB.size; omega
  rw [hb0] at v0
  try rw [hb0]
  have hB := hB.trans (hs.mono hB.size)
  clear hb0 hs hk
  go_wp2_with fail
  obtain ⟨W2, hW_⟩ : ∃ W, W1.alloc (.cells #[.int .i64 x, .int .i64 y, .int .i64 z] 40) = W := ⟨_, rfl⟩
  have hk : Below (W1.alloc (.cells #[.int .i64 x, .int .i64 y, .int .i64 z] 40)).heap.size (W1.alloc (.cells #[.int .i64 x, .int .i64 y, .int .i64 z] 40)) W2 := by rw [hW_]; exact Below.refl _ _
  try rw [hW_]
  clear hW_
  have hs : Below W1.heap.size W1 W2 := Below.trans (by repeat (first | exact Below.refl _ _ | refine Below.alloc ?_ (by first | omega | (simp; try omega)) _ | refine Below.setCell ?_ (by first | omega | (simp; try omega)) _)) (hk.mono (by first | omega | (simp; try omega)))
  have v0 := v0.below hs
  have v1 : Var W2 (W1.heap.size) [.int .i64 x, .int .i64 y, .int .i64 z] := Var.low ⟨by first | omega | (simp; try omega), by simp [Cel, go_sem]⟩ hk (by first | omega | (simp; try omega))
  obtain ⟨b1, hb1⟩ : ∃ b, W1.heap.size = b := ⟨_, rfl⟩
  have lob1 : w.heap.size ≤ b1 := by have := hB.size; omega
  rw [hb1] at v1
  try rw [hb1]
  have hB := hB.trans (hs.mono hB.size)
  clear hb1 hs hk
  obtain ⟨g, hd0⟩ : ∃ g, dv3 x y z = g := ⟨_, rfl⟩
  have hd := hideV hd0
  have hgl : g ≤ 9223372036854775807 := by rw [← hd0]; exact dv3_le hx hy hz
  clear hd0
  go_loopw [4] (fun i wr => ∃ k : Nat, k ≤ 3 ∧ i = .int .i64 (k : Int) ∧ Hid (∀ j, j < k → inL 4608 ([x, y, z].getD j 0) = true) ∧ Below w.heap.size w wr ∧ Var wr b1 [.int .i64 x, .int .i64 y, .int .i64 z] ∧ Var wr b0 [.int .i64 x, .int .i64 y, .int .i64 z, .int .i64 b]) (fun i _ => 3 - (intOf i).toNat)
  case atStart => exact ⟨0, by omega, rfl, fun j hj => absurd hj (Nat.not_lt_zero _), hB, v1, v0⟩
  case round =>
    clear hB v1 v0
    obtain ⟨k, hk, rfl, hp, hB, v1, v0⟩ := hrel
    by_cases hlt : k < 3
    · have hx1 := v1.at k (get3 x y z hlt)
      obtain ⟨c, hc⟩ : ∃ c, [x, y, z].getD k 0 = c := ⟨_, rfl⟩
      have HX := hideV hc
      rw [hc] at hx1
      clear hc
      have hk3 : (k : Int) < 3 := by omega
      by_cases hlow : c < -4608
      · go_wp2_with fail
        go_ret
        refine ⟨?_, hB⟩
        rw [show valid x y z b = false from by unfold valid; rw [show in3 4608 x y z = false from all_no (k := k) hlt (by rw [HX.out]; simp [inL]; omega)]; rfl]
        rfl
      · by_cases hhigh : 4608 < c
        · go_wp2_with fail
          go_ret
          refine ⟨?_, hB⟩
          rw [show valid x y z b = false from by unfold valid; rw [show in3 4608 x y z = false from all_no (k := k) hlt (by rw [HX.out]; simp [inL]; omega)]; rfl]
          rfl
        · have hp2 : Hid (∀ j, j < k + 1 → inL 4608 ([x, y, z].getD j 0) = true) := fun j hj => by
            by_cases e : j = k
            · subst e; rw [HX.out]; simp [inL]; omega
            · exact hp.out j (by omega)
          clear hp
          go_wp2_with fail
          go_roundw
          case rel => exact ⟨k + 1, by omega, by simp, hp2, hB, v1, v0⟩
          case measure => simp [intOf]; omega
    · obtain rfl : k = 3 := by omega
      have hin : in3 4608 x y z = true := all_yes (fun j hj => hp.out j hj)
      have hv : Hid (valid x y z b = (inL 2097152 b && decide (g = 1))) := hideV (by unfold valid; rw [hin, hd.out]; rfl)
      clear hp hin
      have cb0_0 := v0.at 0 rfl
      have cb0_1 := v0.at 1 rfl
      have cb0_2 := v0.at 2 rfl
      have cb0_3 := v0.at 3 rfl
      go_wp2_with fail
      refine (prim_r1 x y z hx hy hz _).mono ?_
      rintro e W3 ⟨rfl, hk⟩
      rw [hd.out]
      try simp only [V]
      have hs := hk
      have v0 := v0.below hs
      have v1 := v1.below hs
      have hB := hB.trans (hs.mono hB.size)
      clear cb0_0 cb0_1 cb0_2 cb0_3 hs hk
      have cb0_0 := v0.at 0 rfl
      have ab0_0_1 : ∀ o0, (W3.alloc o0).cell? ⟨b0, 0, none⟩ = some (.int .i64 x) := fun o0 => (v0.allocs1 o0).at 0 rfl
      have cb0_1 := v0.at 1 rfl
      have ab0_1_1 : ∀ o0, (W3.alloc o0).cell? ⟨b0, 1, none⟩ = some (.int .i64 y) := fun o0 => (v0.allocs1 o0).at 1 rfl
      have cb0_2 := v0.at 2 rfl
      have ab0_2_1 : ∀ o0, (W3.alloc o0).cell? ⟨b0, 2, none⟩ = some (.int .i64 z) := fun o0 => (v0.allocs1 o0).at 2 rfl
      have cb0_3 := v0.at 3 rfl
      have ab0_3_1 : ∀ o0, (W3.alloc o0).cell? ⟨b0, 3, none⟩ = some (.int .i64 b) := fun o0 => (v0.allocs1 o0).at 3 rfl
      by_cases h1 : g = 1
      · subst h1
        by_cases h2 : -2097152 ≤ b
        · by_cases h3 : b ≤ 2097152
          · have hl : inL 2097152 b = true := by simp [inL]; omega
            go_wp2_with fail
            have hBs := hB.size
            go_ret
            exact ⟨by rw [hv.out, hl]; rfl, by repeat (first | exact hB | refine Below.alloc ?_ (by first | omega | (simp; try omega)) _ | refine Below.setCell ?_ (by first | omega | (simp; try omega)) _)⟩
          · have hl : inL 2097152 b = false := by simp [inL]; omega
            have h4 : decide (b ≤ 2097152) = false := decide_eq_false h3
            go_wp2_with fail
            have hBs := hB.size
            go_ret
            exact ⟨by rw [hv.out, hl]; rfl, by repeat (first | exact hB | refine Below.alloc ?_ (by first | omega | (simp; try omega)) _ | refine Below.setCell ?_ (by first | omega | (simp; try omega)) _)⟩
        · have hl : inL 2097152 b = false := by simp [inL]; omega
          have h4 : decide (-2097152 ≤ b) = false := decide_eq_false h2
          go_wp2_with fail
          have hBs := hB.size
          go_ret
          exact ⟨by rw [hv.out, hl]; rfl, by repeat (first | exact hB | refine Below.alloc ?_ (by first | omega | (simp; try omega)) _ | refine Below.setCell ?_ (by first | omega | (simp; try omega)) _)⟩
      · have hg1 : ((g : Int) == 1) = false := by rw [beq_eq_false_iff_ne]; omega
        have hl : decide (g = 1) = false := decide_eq_false h1
        clear h1
        go_wp2_with fail
        have hBs := hB.size
        go_ret
        exact ⟨by rw [hv.out, hl, Bool.and_false]; rfl, by repeat (first | exact hB | refine Below.alloc ?_ (by first | omega | (simp; try omega)) _ | refine Below.setCell ?_ (by first | omega | (simp; try omega)) _)⟩


set_option maxRecDepth 100000 in
set_option maxHeartbeats 4000000 in
theorem compare_r (x y z b a c d e : Int) (w : World) : Calls Try.prog 38 #[Pl x y z b, Pl a c d e] w (Gives w (.int .i64 (ordL [(x, a), (y, c), (z, d), (b, e)]))) := by
  unfold Pl
  go_enter Try.func38, Try.ntmps38
  have hB := Below.refl w.heap.size w
  go_wp2_with fail
  obtain ⟨W1, hW_⟩ : ∃ W, (((w.alloc (.cells #[.int .i64 x, .int .i64 y, .int .i64 z, .int .i64 b] 39)).alloc (.cells #[.int .i64 a, .int .i64 c, .int .i64 d, .int .i64 e] 39)).alloc (.cells #[.int .i64 x, .int .i64 y, .int .i64 z, .int .i64 b] 73)).alloc (.cells #[.int .i64 a, .int .i64 c, .int .i64 d, .int .i64 e] 73) = W := ⟨_, rfl⟩
  have hk : Below ((((w.alloc (.cells #[.int .i64 x, .int .i64 y, .int .i64 z, .int .i64 b] 39)).alloc (.cells #[.int .i64 a, .int .i64 c, .int .i64 d, .int .i64 e] 39)).alloc (.cells #[.int .i64 x, .int .i64 y, .int .i64 z, .int .i64 b] 73)).alloc (.cells #[.int .i64 a, .int .i64 c, .int .i64 d, .int .i64 e] 73)).heap.size ((((w.alloc (.cells #[.int .i64 x, .int .i64 y, .int .i64 z, .int .i64 b] 39)).alloc (.cells #[.int .i64 a, .int .i64 c, .int .i64 d, .int .i64 e] 39)).alloc (.cells #[.int .i64 x, .int .i64 y, .int .i64 z, .int .i64 b] 73)).alloc (.cells #[.int .i64 a, .int .i64 c, .int .i64 d, .int .i64 e] 73)) W1 := by rw [hW_]; exact Below.refl _ _
  try rw [hW_]
  clear hW_
  have hs : Below w.heap.size w W1 := Below.trans (by repeat (first | exact Below.refl _ _ | refine Below.alloc ?_ (by first | omega | (simp; try omega)) _ | refine Below.setCell ?_ (by first | omega | (simp; try omega)) _)) (hk.mono (by first | omega | (simp; try omega)))
  have v0 : Var W1 (w.heap.size) [.int .i64 x, .int .i64 y, .int .i64 z, .int .i64 b] := Var.low ⟨by first | omega | (simp; try omega), by simp [Cel, go_sem]⟩ hk (by first | omega | (simp; try omega))
  have v1 : Var W1 (w.heap.size + 1) [.int .i64 a, .int .i64 c, .int .i64 d, .int .i64 e] := Var.low ⟨by first | omega | (simp; try omega), by simp [Cel, go_sem]⟩ hk (by first | omega | (simp; try omega))
  have v2 : Var W1 (w.heap.size + 1 + 1) [.int .i64 x, .int .i64 y, .int .i64 z, .int .i64 b] := Var.low ⟨by first | omega | (simp; try omega), by simp [Cel, go_sem]⟩ hk (by first | omega | (simp; try omega))
  have v3 : Var W1 (w.heap.size + 1 + 1 + 1) [.int .i64 a, .int .i64 c, .int .i64 d, .int .i64 e] := Var.low ⟨by first | omega | (simp; try omega), by simp [Cel, go_sem]⟩ hk (by first | omega | (simp; try omega))
  obtain ⟨b3, hb3⟩ : ∃ b, w.heap.size + 1 + 1 + 1 = b := ⟨_, rfl⟩
  have lob3 : w.heap.size ≤ b3 := by have := hB.size; omega
  obtain ⟨b2, hb2⟩ : ∃ b, w.heap.size + 1 + 1 = b := ⟨_, rfl⟩
  have lob2 : w.heap.size ≤ b2 := by have := hB.size; omega
  obtain ⟨b1, hb1⟩ : ∃ b, w.heap.size + 1 = b := ⟨_, rfl⟩
  have lob1 : w.heap.size ≤ b1 := by have := hB.size; omega
  obtain ⟨b0, hb0⟩ : ∃ b, w.heap.size = b := ⟨_, rfl⟩
  have lob0 : w.heap.size ≤ b0 := by have := hB.size; omega
  rw [hb3] at v3
  try rw [hb3]
  rw [hb2] at v2
  try rw [hb2]
  rw [hb1] at v1
  try rw [hb1]
  rw [hb0] at v0
  try rw [hb0]
  have hB := hB.trans (hs.mono hB.size)
  clear hb0 hb1 hb2 hb3 hs hk
  clear v0
  clear v1
  obtain ⟨l, hl⟩ : ∃ l : List (Int × Int), l = [(x, a), (y, c), (z, d), (b, e)] := ⟨_, rfl⟩
  have HLs := hideV hl
  rw [← hl]
  clear hl
  go_loopw [7] (fun i wr => ∃ k : Nat, k ≤ 4 ∧ i = .int .i64 (k : Int) ∧ Hid (ordL l = ordL (l.drop k)) ∧ Below w.heap.size w wr ∧ Var wr b2 [.int .i64 x, .int .i64 y, .int .i64 z, .int .i64 b] ∧ Var wr b3 [.int .i64 a, .int .i64 c, .int .i64 d, .int .i64 e]) (fun i _ => 4 - (intOf i).toNat)
  case atStart => exact ⟨0, by omega, rfl, rfl, hB, v2, v3⟩
  case round =>
    clear hB v2 v3
    obtain ⟨k, hk, rfl, hp, hB, v2, v3⟩ := hrel
    by_cases hlt : k < 4
    · have hkl : k < l.length := by rw [HLs.out]; exact hlt
      have hd1 := hp.out.trans (ordL_drop hkl)
      have hq1 := v2.at k (get4 x y z b hlt)
      have hq2 := v3.at k (get4 a c d e hlt)
      have e1 : [x, y, z, b].getD k 0 = (l.getD k (0, 0)).1 := by
        rw [HLs.out]
        match k, hlt with
        | 0, _ | 1, _ | 2, _ | 3, _ => rfl
      have e2 : [a, c, d, e].getD k 0 = (l.getD k (0, 0)).2 := by
        rw [HLs.out]
        match k, hlt with
        | 0, _ | 1, _ | 2, _ | 3, _ => rfl
      rw [← e1, ← e2] at hd1
      obtain ⟨p, hpe⟩ : ∃ p, [x, y, z, b].getD k 0 = p := ⟨_, rfl⟩
      obtain ⟨q, hqe⟩ : ∃ q, [a, c, d, e].getD k 0 = q := ⟨_, rfl⟩
      rw [hpe] at hq1
      rw [hqe] at hq2
      rw [hpe, hqe] at hd1
      have HD := hideV hd1
      clear hd1 e1 e2 hpe hqe hkl hp
      have hk4 : (k : Int) < 4 := by omega
      by_cases h1 : p < q
      · have hr : Hid (ordL l = -1) := HD.out.trans (if_pos h1)
        clear HD
        go_wp2_with fail
        go_quiet (fail)
        go_wp2_with fail
        go_ret
        exact ⟨by rw [hr.out]; rfl, belowN hB nq⟩
      · by_cases h2 : q < p
        · have hr : Hid (ordL l = 1) := HD.out.trans ((if_neg h1).trans (if_pos h2))
          clear HD
          go_wp2_with fail
          go_quiet (fail)
          go_wp2_with fail
          go_quiet (fail)
          go_wp2_with fail
          go_ret
          exact ⟨by rw [hr.out]; rfl, belowN (belowN hB _) _⟩
        · have hr : Hid (ordL l = ordL (l.drop (k + 1))) := HD.out.trans ((if_neg h1).trans (if_neg h2))
          clear HD
          go_wp2_with fail
          go_quiet (fail)
          go_wp2_with fail
          go_quiet (fail)
          go_wp2_with fail
          go_roundw
          case rel => exact ⟨k + 1, by omega, by simp, hr, belowN hB _, v2.below (belowN (Below.refl _ _) _), v3.below (belowN (Below.refl _ _) _)⟩
          case measure => simp [intOf]; omega
    · obtain rfl : k = 4 := by omega
      have hr : Hid (ordL l = 0) := hp.out.trans (by rw [List.drop_of_length_le (by rw [HLs.out]; exact Nat.le_refl _)]; rfl)
      clear hp
      go_wp2_with fail
      go_ret
      exact ⟨by first | (rw [hr.out]; rfl) | (rw [← HLs.out, hr.out]; rfl), hB⟩


set_option maxRecDepth 100000 in
set_option maxHeartbeats 2000000 in
theorem side_r_no1 (x y z b a c d : Int) (hx : I64 x) (hy : I64 y) (hz : I64 z) (h1 : Hid (valid x y z b = false)) (w : World) : Calls Try.prog 34 #[Pl x y z b, V a c d] w (Gives w (.int .i64 0)) := by
  unfold Pl V
  go_enter Try.func34, Try.ntmps34
  have hB := Below.refl w.heap.size w
  go_wp2_with fail
  refine (valid_r x y z b hx hy hz _).mono ?_
  rintro e W1 ⟨rfl, hk⟩
  rw [h1.out]
  have hs : Below w.heap.size w W1 := Below.trans (by repeat (first | exact Below.refl _ _ | refine Below.alloc ?_ (by first | omega | (simp; try omega)) _ | refine Below.setCell ?_ (by first | omega | (simp; try omega)) _)) (hk.mono (by first | omega | (simp; try omega)))
  have v0 : Var W1 (w.heap.size) [.int .i64 x, .int .i64 y, .int .i64 z, .int .i64 b] := Var.low ⟨by first | omega | (simp; try omega), by simp [Cel, go_sem]⟩ hk (by first | omega | (simp; try omega))
  have v1 : Var W1 (w.heap.size + 1) [.int .i64 a, .int .i64 c, .int .i64 d] := Var.low ⟨by first | omega | (simp; try omega), by simp [Cel, go_sem]⟩ hk (by first | omega | (simp; try omega))
  obtain ⟨b1, hb1⟩ : ∃ b, w.heap.size + 1 = b := ⟨_, rfl⟩
  have lob1 : w.heap.size ≤ b1 := by have := hB.size; omega
  obtain ⟨b0, hb0⟩ : ∃ b, w.heap.size = b := ⟨_, rfl⟩
  have lob0 : w.heap.size ≤ b0 := by have := hB.size; omega
  rw [hb1] at v1
  try rw [hb1]
  rw [hb0] at v0
  try rw [hb0]
  have hB := hB.trans (hs.mono hB.size)
  clear hb0 hb1 hs hk
  go_wp2_with fail
  have hBs := hB.size
  go_ret
  exact ⟨rfl, by repeat (first | exact hB | refine Below.alloc ?_ (by first | omega | (simp; try omega)) _ | refine Below.setCell ?_ (by first | omega | (simp; try omega)) _)⟩


set_option maxRecDepth 100000 in
set_option maxHeartbeats 2000000 in
theorem side_r_no2 (x y z b a c d : Int) (hx : I64 x) (hy : I64 y) (hz : I64 z) (h1 : Hid (valid x y z b = true)) (h2 : Hid (in3 24 a c d = false)) (w : World) : Calls Try.prog 34 #[Pl x y z b, V a c d] w (Gives w (.int .i64 0)) := by
  unfold Pl V
  go_enter Try.func34, Try.ntmps34
  have hB := Below.refl w.heap.size w
  go_wp2_with fail
  refine (valid_r x y z b hx hy hz _).mono ?_
  rintro e W1 ⟨rfl, hk⟩
  rw [h1.out]
  have hs : Below w.heap.size w W1 := Below.trans (by repeat (first | exact Below.refl _ _ | refine Below.alloc ?_ (by first | omega | (simp; try omega)) _ | refine Below.setCell ?_ (by first | omega | (simp; try omega)) _)) (hk.mono (by first | omega | (simp; try omega)))
  have v0 : Var W1 (w.heap.size) [.int .i64 x, .int .i64 y, .int .i64 z, .int .i64 b] := Var.low ⟨by first | omega | (simp; try omega), by simp [Cel, go_sem]⟩ hk (by first | omega | (simp; try omega))
  have v1 : Var W1 (w.heap.size + 1) [.int .i64 a, .int .i64 c, .int .i64 d] := Var.low ⟨by first | omega | (simp; try omega), by simp [Cel, go_sem]⟩ hk (by first | omega | (simp; try omega))
  obtain ⟨b1, hb1⟩ : ∃ b, w.heap.size + 1 = b := ⟨_, rfl⟩
  have lob1 : w.heap.size ≤ b1 := by have := hB.size; omega
  obtain ⟨b0, hb0⟩ : ∃ b, w.heap.size = b := ⟨_, rfl⟩
  have lob0 : w.heap.size ≤ b0 := by have := hB.size; omega
  rw [hb1] at v1
  try rw [hb1]
  rw [hb0] at v0
  try rw [hb0]
  have hB := hB.trans (hs.mono hB.size)
  clear hb0 hb1 hs hk
  have cb1_0 := v1.at 0 rfl
  have cb1_1 := v1.at 1 rfl
  have cb1_2 := v1.at 2 rfl
  go_wp2_with fail
  refine (in_r a c d _).mono ?_
  rintro e W2 ⟨rfl, hk⟩
  rw [h2.out]
  have hs := hk
  have v0 := v0.below hs
  have v1 := v1.below hs
  have hB := hB.trans (hs.mono hB.size)
  clear cb1_0 cb1_1 cb1_2 hs hk
  go_wp2_with fail
  have hBs := hB.size
  go_ret
  exact ⟨rfl, by repeat (first | exact hB | refine Below.alloc ?_ (by first | omega | (simp; try omega)) _ | refine Below.setCell ?_ (by first | omega | (simp; try omega)) _)⟩


set_option maxRecDepth 100000 in
set_option maxHeartbeats 2000000 in
theorem side_r_yes (x y z b a c d : Int) (hx : I64 x) (hy : I64 y) (hz : I64 z) (h1 : Hid (valid x y z b = true)) (h2 : Hid (in3 24 a c d = true)) (w : World) : Calls Try.prog 34 #[Pl x y z b, V a c d] w (Gives w (.int .i64 (sgn (wrap64 (dt x y z a c d - b))))) := by
  unfold Pl V
  go_enter Try.func34, Try.ntmps34
  have hB := Below.refl w.heap.size w
  go_wp2_with fail
  refine (valid_r x y z b hx hy hz _).mono ?_
  rintro e W1 ⟨rfl, hk⟩
  rw [h1.out]
  have hs : Below w.heap.size w W1 := Below.trans (by repeat (first | exact Below.refl _ _ | refine Below.alloc ?_ (by first | omega | (simp; try omega)) _ | refine Below.setCell ?_ (by first | omega | (simp; try omega)) _)) (hk.mono (by first | omega | (simp; try omega)))
  have v0 : Var W1 (w.heap.size) [.int .i64 x, .int .i64 y, .int .i64 z, .int .i64 b] := Var.low ⟨by first | omega | (simp; try omega), by simp [Cel, go_sem]⟩ hk (by first | omega | (simp; try omega))
  have v1 : Var W1 (w.heap.size + 1) [.int .i64 a, .int .i64 c, .int .i64 d] := Var.low ⟨by first | omega | (simp; try omega), by simp [Cel, go_sem]⟩ hk (by first | omega | (simp; try omega))
  obtain ⟨b1, hb1⟩ : ∃ b, w.heap.size + 1 = b := ⟨_, rfl⟩
  have lob1 : w.heap.size ≤ b1 := by have := hB.size; omega
  obtain ⟨b0, hb0⟩ : ∃ b, w.heap.size = b := ⟨_, rfl⟩
  have lob0 : w.heap.size ≤ b0 := by have := hB.size; omega
  rw [hb1] at v1
  try rw [hb1]
  rw [hb0] at v0
  try rw [hb0]
  have hB := hB.trans (hs.mono hB.size)
  clear hb0 hb1 hs hk
  have cb1_0 := v1.at 0 rfl
  have cb1_1 := v1.at 1 rfl
  have cb1_2 := v1.at 2 rfl
  go_wp2_with fail
  refine (in_r a c d _).mono ?_
  rintro e W2 ⟨rfl, hk⟩
  rw [h2.out]
  have hs := hk
  have v0 := v0.below hs
  have v1 := v1.below hs
  have hB := hB.trans (hs.mono hB.size)
  clear cb1_0 cb1_1 cb1_2 hs hk
  go_wp2_with fail
  refine wp_region_dag (by kernel_rfl) ?_
  intro W3 hk
  have hs := hk
  have v0 := v0.below hs
  have v1 := v1.below hs
  have hB := hB.trans (hs.mono hB.size)
  clear hs hk
  refine dagV (fun _ => trivial) 8 ?hn (fun X => ⟨#[.agg #[.int .i64 x, .int .i64 y, .int .i64 z, .int .i64 b], .agg #[.int .i64 a, .int .i64 c, .int .i64 d], .pointer (some ⟨b0, 0, none⟩), .pointer (some ⟨b1, 0, none⟩), .int .i64 0, X 7, .agg #[.int .i64 x, .int .i64 y, .int .i64 z, .int .i64 b], .bool true, .bool false, .bool false, .agg #[.int .i64 a, .int .i64 c, .int .i64 d], .bool true, .bool false, .bool false, X 0, X 1, X 2, X 3, X 4, X 5, X 6, undef, undef, undef, undef], []⟩) [(0, 0, 0), (0, 0, 0), (0, 0, 0), (0, 0, 0), (0, 0, 0), (0, 0, 0), (0, 0, 0), (0, 0, 0)] (fun _ => []) [.val (.pointer (some ⟨b0, 0, none⟩)), .val (.agg #[.int .i64 x, .int .i64 y, .int .i64 z]), .val (.agg #[.int .i64 a, .int .i64 c, .int .i64 d]), .val (.int .i64 (dt x y z a c d)), .val (.pointer (some ⟨b0, 3, none⟩)), .val (.int .i64 b), .val (.int .i64 (wrap64 ((dt x y z a c d) - b))), .val (.int .i64 (wrap64 ((dt x y z a c d) - b)))] [[], [0], [], [1, 2], [], [4], [3, 5], [6]] [0, 1, 2, 3, 4, 5, 6, 7] [] [] [] (fun _ => 0) W3 (by kernel_rfl) (by kernel_rfl) (by kernel_rfl) (by kernel_rfl) (by kernel_rfl) ?dist ?olds ?op ?al ?st ?into ?fin (fun _ => undef) _ _ (by kernel_rfl) (of_decide_eq_true (by kernel_rfl)) (of_decide_eq_true (by kernel_rfl))
  case hn => rfl
  case dist => intro i hi j hj; simp at hi hj; try omega
  case olds => exact nofun
  case op =>
    repeat' first | exact Each.nil | refine Each.cons ?_ ?_
    all_goals intro X w7 H hb hD h
    · refine tv rfl (by rfl) ?_ (by exact h _ w7 rfl (Below.refl _ _))
      go_simp <;> first | rfl | (simp only [IntWalk.i64_left]; rfl)
    · have e0_ : X 0 = _ := hD 0 (by decide) rfl
      have hv := v0.below (show Keep [] _ _ from hb).nil
      have c0_ := hv.at 0 rfl
      have c1_ := hv.at 1 rfl
      have c2_ := hv.at 2 rfl
      refine tv rfl (by simp only [e0_]; rfl) ?_ (by exact h _ w7 rfl (Below.refl _ _))
      simp only [e0_]; go_simp <;> first | rfl | (simp only [IntWalk.i64_left]; rfl)
    · have hv := v1.below (show Keep [] _ _ from hb).nil
      have c0_ := hv.at 0 rfl
      have c1_ := hv.at 1 rfl
      have c2_ := hv.at 2 rfl
      refine tv rfl (by rfl) ?_ (by exact h _ w7 rfl (Below.refl _ _))
      go_simp <;> first | rfl | (simp only [IntWalk.i64_left]; rfl)
    · have e1_ : X 1 = _ := hD 1 (by decide) rfl
      have e2_ : X 2 = _ := hD 2 (by decide) rfl
      refine wpOp_call (i := 3) (f := 20) (args := #[.agg #[.int .i64 x, .int .i64 y, .int .i64 z], .agg #[.int .i64 a, .int .i64 c, .int .i64 d]]) 17 rfl rfl (by simp only [e1_, e2_]; rfl) (by simp only [e1_, e2_]; go_simp) ?_
      refine (dot_r x y z a c d _).mono ?_
      rintro e w8 ⟨rfl, hk⟩
      exact ⟨_, rfl, h _ w8 rfl hk⟩
    · refine tv rfl (by rfl) ?_ (by exact h _ w7 rfl (Below.refl _ _))
      go_simp <;> first | rfl | (simp only [IntWalk.i64_left]; rfl)
    · have e4_ : X 4 = _ := hD 4 (by decide) rfl
      have hv := v0.below (show Keep [] _ _ from hb).nil
      have c0_ := hv.at 3 rfl
      refine tv rfl (by simp only [e4_]; rfl) ?_ (by exact h _ w7 rfl (Below.refl _ _))
      simp only [e4_]; go_simp <;> first | rfl | (simp only [IntWalk.i64_left]; rfl)
    · have e3_ : X 3 = _ := hD 3 (by decide) rfl
      have e5_ : X 5 = _ := hD 5 (by decide) rfl
      refine tv rfl (by simp only [e3_, e5_]; rfl) ?_ (by exact h _ w7 rfl (Below.refl _ _))
      simp only [e3_, e5_]; go_simp <;> first | rfl | (simp only [IntWalk.i64_left]; rfl)
    · have e6_ : X 6 = _ := hD 6 (by decide) rfl
      refine tv rfl (by simp only [e6_]; rfl) ?_ (by exact h _ w7 rfl (Below.refl _ _))
      simp only [e6_]; go_simp <;> first | rfl | (simp only [IntWalk.i64_left]; rfl)
  case al => exact Each.nil
  case st => exact Each.nil
  case into => exact Each.nil
  case fin =>
    intro X3_ W4 hI
    have hE : Keep [] W3 W4 := hI.keep
    have e7_ : X3_ 7 = _ := hI.fact 7 (by decide) rfl rfl
    have v0 := v0.below hE.nil
    have v1 := v1.below hE.nil
    have hB := hB.trans (hE.nil.mono hB.size)
    simp only [e7_]
    clear e7_ hI hE
    obtain ⟨m, hm⟩ : ∃ m, wrap64 (dt x y z a c d - b) = m := ⟨_, rfl⟩
    rw [hm]
    have HM := hideV hm
    clear hm
    by_cases h3 : m < 0
    · have hs := hideV (show sgn m = -1 from if_pos h3)
      go_wp2_with fail
      go_ret
      exact ⟨by rw [HM.out, hs.out]; rfl, hB⟩
    · by_cases h4 : 0 < m
      · have hs := hideV (show sgn m = 1 from (if_neg h3).trans (if_pos h4))
        go_wp2_with fail
        go_ret
        exact ⟨by rw [HM.out, hs.out]; rfl, hB⟩
      · have hs := hideV (show sgn m = 0 from (if_neg h3).trans (if_neg h4))
        go_wp2_with fail
        go_ret
        exact ⟨by rw [HM.out, hs.out]; rfl, hB⟩


set_option maxRecDepth 100000 in
set_option maxHeartbeats 2000000 in
theorem push_r_no1 (x y z b n _m : Int) (hx : I64 x) (hy : I64 y) (hz : I64 z) (h1 : Hid (valid x y z b = false)) (w : World) : Calls Try.prog 36 #[Pl x y z b, .int .i64 n] w (Gives w (.tuple #[Pl 0 0 0 0, .bool false])) := by
  unfold Pl
  go_enter Try.func36, Try.ntmps36
  have hB := Below.refl w.heap.size w
  go_wp2_with fail
  refine (valid_r x y z b hx hy hz _).mono ?_
  rintro e W1 ⟨rfl, hk⟩
  rw [h1.out]
  have hs : Below w.heap.size w W1 := Below.trans (by repeat (first | exact Below.refl _ _ | refine Below.alloc ?_ (by first | omega | (simp; try omega)) _ | refine Below.setCell ?_ (by first | omega | (simp; try omega)) _)) (hk.mono (by first | omega | (simp; try omega)))
  have v0 : Var W1 (w.heap.size) [.int .i64 x, .int .i64 y, .int .i64 z, .int .i64 b] := Var.low ⟨by first | omega | (simp; try omega), by simp [Cel, go_sem]⟩ hk (by first | omega | (simp; try omega))
  have v1 : Var W1 (w.heap.size + 1) [.int .i64 0, .int .i64 0, .int .i64 0, .int .i64 0] := Var.low ⟨by first | omega | (simp; try omega), by simp [Cel, go_sem]⟩ hk (by first | omega | (simp; try omega))
  obtain ⟨b1, hb1⟩ : ∃ b, w.heap.size + 1 = b := ⟨_, rfl⟩
  have lob1 : w.heap.size ≤ b1 := by have := hB.size; omega
  obtain ⟨b0, hb0⟩ : ∃ b, w.heap.size = b := ⟨_, rfl⟩
  have lob0 : w.heap.size ≤ b0 := by have := hB.size; omega
  rw [hb1] at v1
  try rw [hb1]
  rw [hb0] at v0
  try rw [hb0]
  have hB := hB.trans (hs.mono hB.size)
  clear hb0 hb1 hs hk
  have cb1_0 := v1.at 0 rfl
  have zb1_0 := v1.fr 0 (by simp)
  have cb1_1 := v1.at 1 rfl
  have zb1_1 := v1.fr 1 (by simp)
  have cb1_2 := v1.at 2 rfl
  have zb1_2 := v1.fr 2 (by simp)
  have cb1_3 := v1.at 3 rfl
  have zb1_3 := v1.fr 3 (by simp)
  go_wp2_with fail
  have hBs := hB.size
  exact bodyPost_ret (v := .tuple #[.agg #[.int .i64 0, .int .i64 0, .int .i64 0, .int .i64 0], .bool false]) (by simp [results, Try.results36, go_sem, cb1_0, cb1_1, cb1_2, cb1_3]) rfl ⟨rfl, by repeat (first | exact hB | refine Below.alloc ?_ (by first | omega | (simp; try omega)) _ | refine Below.setCell ?_ (by first | omega | (simp; try omega)) _)⟩


set_option maxRecDepth 100000 in
set_option maxHeartbeats 2000000 in
theorem push_r_no3 (x y z b n _m : Int) (hx : I64 x) (hy : I64 y) (hz : I64 z) (h1 : Hid (valid x y z b = true)) (h3 : n < -4194304) (w : World) : Calls Try.prog 36 #[Pl x y z b, .int .i64 n] w (Gives w (.tuple #[Pl 0 0 0 0, .bool false])) := by
  unfold Pl
  go_enter Try.func36, Try.ntmps36
  have hB := Below.refl w.heap.size w
  go_wp2_with fail
  refine (valid_r x y z b hx hy hz _).mono ?_
  rintro e W1 ⟨rfl, hk⟩
  rw [h1.out]
  have hs : Below w.heap.size w W1 := Below.trans (by repeat (first | exact Below.refl _ _ | refine Below.alloc ?_ (by first | omega | (simp; try omega)) _ | refine Below.setCell ?_ (by first | omega | (simp; try omega)) _)) (hk.mono (by first | omega | (simp; try omega)))
  have v0 : Var W1 (w.heap.size) [.int .i64 x, .int .i64 y, .int .i64 z, .int .i64 b] := Var.low ⟨by first | omega | (simp; try omega), by simp [Cel, go_sem]⟩ hk (by first | omega | (simp; try omega))
  have v1 : Var W1 (w.heap.size + 1) [.int .i64 0, .int .i64 0, .int .i64 0, .int .i64 0] := Var.low ⟨by first | omega | (simp; try omega), by simp [Cel, go_sem]⟩ hk (by first | omega | (simp; try omega))
  obtain ⟨b1, hb1⟩ : ∃ b, w.heap.size + 1 = b := ⟨_, rfl⟩
  have lob1 : w.heap.size ≤ b1 := by have := hB.size; omega
  obtain ⟨b0, hb0⟩ : ∃ b, w.heap.size = b := ⟨_, rfl⟩
  have lob0 : w.heap.size ≤ b0 := by have := hB.size; omega
  rw [hb1] at v1
  try rw [hb1]
  rw [hb0] at v0
  try rw [hb0]
  have hB := hB.trans (hs.mono hB.size)
  clear hb0 hb1 hs hk
  have cb1_0 := v1.at 0 rfl
  have zb1_0 := v1.fr 0 (by simp)
  have cb1_1 := v1.at 1 rfl
  have zb1_1 := v1.fr 1 (by simp)
  have cb1_2 := v1.at 2 rfl
  have zb1_2 := v1.fr 2 (by simp)
  have cb1_3 := v1.at 3 rfl
  have zb1_3 := v1.fr 3 (by simp)
  go_wp2_with fail
  have hBs := hB.size
  exact bodyPost_ret (v := .tuple #[.agg #[.int .i64 0, .int .i64 0, .int .i64 0, .int .i64 0], .bool false]) (by simp [results, Try.results36, go_sem, cb1_0, cb1_1, cb1_2, cb1_3]) rfl ⟨rfl, by repeat (first | exact hB | refine Below.alloc ?_ (by first | omega | (simp; try omega)) _ | refine Below.setCell ?_ (by first | omega | (simp; try omega)) _)⟩


set_option maxRecDepth 100000 in
set_option maxHeartbeats 2000000 in
theorem push_r_no4 (x y z b n _m : Int) (hx : I64 x) (hy : I64 y) (hz : I64 z) (h1 : Hid (valid x y z b = true)) (h3 : ¬ n < -4194304) (h4 : 4194304 < n) (w : World) : Calls Try.prog 36 #[Pl x y z b, .int .i64 n] w (Gives w (.tuple #[Pl 0 0 0 0, .bool false])) := by
  unfold Pl
  go_enter Try.func36, Try.ntmps36
  have hB := Below.refl w.heap.size w
  go_wp2_with fail
  refine (valid_r x y z b hx hy hz _).mono ?_
  rintro e W1 ⟨rfl, hk⟩
  rw [h1.out]
  have hs : Below w.heap.size w W1 := Below.trans (by repeat (first | exact Below.refl _ _ | refine Below.alloc ?_ (by first | omega | (simp; try omega)) _ | refine Below.setCell ?_ (by first | omega | (simp; try omega)) _)) (hk.mono (by first | omega | (simp; try omega)))
  have v0 : Var W1 (w.heap.size) [.int .i64 x, .int .i64 y, .int .i64 z, .int .i64 b] := Var.low ⟨by first | omega | (simp; try omega), by simp [Cel, go_sem]⟩ hk (by first | omega | (simp; try omega))
  have v1 : Var W1 (w.heap.size + 1) [.int .i64 0, .int .i64 0, .int .i64 0, .int .i64 0] := Var.low ⟨by first | omega | (simp; try omega), by simp [Cel, go_sem]⟩ hk (by first | omega | (simp; try omega))
  obtain ⟨b1, hb1⟩ : ∃ b, w.heap.size + 1 = b := ⟨_, rfl⟩
  have lob1 : w.heap.size ≤ b1 := by have := hB.size; omega
  obtain ⟨b0, hb0⟩ : ∃ b, w.heap.size = b := ⟨_, rfl⟩
  have lob0 : w.heap.size ≤ b0 := by have := hB.size; omega
  rw [hb1] at v1
  try rw [hb1]
  rw [hb0] at v0
  try rw [hb0]
  have hB := hB.trans (hs.mono hB.size)
  clear hb0 hb1 hs hk
  have cb1_0 := v1.at 0 rfl
  have zb1_0 := v1.fr 0 (by simp)
  have cb1_1 := v1.at 1 rfl
  have zb1_1 := v1.fr 1 (by simp)
  have cb1_2 := v1.at 2 rfl
  have zb1_2 := v1.fr 2 (by simp)
  have cb1_3 := v1.at 3 rfl
  have zb1_3 := v1.fr 3 (by simp)
  go_wp2_with fail
  have hBs := hB.size
  exact bodyPost_ret (v := .tuple #[.agg #[.int .i64 0, .int .i64 0, .int .i64 0, .int .i64 0], .bool false]) (by simp [results, Try.results36, go_sem, cb1_0, cb1_1, cb1_2, cb1_3]) rfl ⟨rfl, by repeat (first | exact hB | refine Below.alloc ?_ (by first | omega | (simp; try omega)) _ | refine Below.setCell ?_ (by first | omega | (simp; try omega)) _)⟩


set_option maxRecDepth 100000 in
set_option maxHeartbeats 2000000 in
theorem push_r_no2 (x y z b n m : Int) (hx : I64 x) (hy : I64 y) (hz : I64 z) (h1 : Hid (valid x y z b = true)) (h3 : ¬ n < -4194304) (h4 : ¬ 4194304 < n) (hw : wrap64 (b + n) = m) (h2 : Hid (valid x y z m = false)) (w : World) : Calls Try.prog 36 #[Pl x y z b, .int .i64 n] w (Gives w (.tuple #[Pl 0 0 0 0, .bool false])) := by
  unfold Pl
  go_enter Try.func36, Try.ntmps36
  have hB := Below.refl w.heap.size w
  go_wp2_with fail
  refine (valid_r x y z b hx hy hz _).mono ?_
  rintro e W1 ⟨rfl, hk⟩
  rw [h1.out]
  have hs : Below w.heap.size w W1 := Below.trans (by repeat (first | exact Below.refl _ _ | refine Below.alloc ?_ (by first | omega | (simp; try omega)) _ | refine Below.setCell ?_ (by first | omega | (simp; try omega)) _)) (hk.mono (by first | omega | (simp; try omega)))
  have v0 : Var W1 (w.heap.size) [.int .i64 x, .int .i64 y, .int .i64 z, .int .i64 b] := Var.low ⟨by first | omega | (simp; try omega), by simp [Cel, go_sem]⟩ hk (by first | omega | (simp; try omega))
  have v1 : Var W1 (w.heap.size + 1) [.int .i64 0, .int .i64 0, .int .i64 0, .int .i64 0] := Var.low ⟨by first | omega | (simp; try omega), by simp [Cel, go_sem]⟩ hk (by first | omega | (simp; try omega))
  obtain ⟨b1, hb1⟩ : ∃ b, w.heap.size + 1 = b := ⟨_, rfl⟩
  have lob1 : w.heap.size ≤ b1 := by have := hB.size; omega
  obtain ⟨b0, hb0⟩ : ∃ b, w.heap.size = b := ⟨_, rfl⟩
  have lob0 : w.heap.size ≤ b0 := by have := hB.size; omega
  rw [hb1] at v1
  try rw [hb1]
  rw [hb0] at v0
  try rw [hb0]
  have hB := hB.trans (hs.mono hB.size)
  clear hb0 hb1 hs hk
  have cb0_0 := v0.at 0 rfl
  have cb0_1 := v0.at 1 rfl
  have cb0_2 := v0.at 2 rfl
  have cb0_3 := v0.at 3 rfl
  go_wp2_with fail
  refine (valid_r x y z m hx hy hz _).mono ?_
  rintro e W2 ⟨rfl, hk⟩
  rw [h2.out]
  have hs : Below W1.heap.size W1 W2 := Below.trans (by repeat (first | exact Below.refl _ _ | refine Below.alloc ?_ (by first | omega | (simp; try omega)) _ | refine Below.setCell ?_ (by first | omega | (simp; try omega)) _)) (hk.mono (by first | omega | (simp; try omega)))
  have v0 := v0.below hs
  have v1 := v1.below hs
  have v2 : Var W2 (W1.heap.size) [.int .i64 x, .int .i64 y, .int .i64 z, .int .i64 m] := Var.low ⟨by first | omega | (simp; try omega), by simp [Cel, go_sem]⟩ hk (by first | omega | (simp; try omega))
  obtain ⟨b2, hb2⟩ : ∃ b, W1.heap.size = b := ⟨_, rfl⟩
  have lob2 : w.heap.size ≤ b2 := by have := hB.size; omega
  rw [hb2] at v2
  try rw [hb2]
  have hB := hB.trans (hs.mono hB.size)
  clear cb0_0 cb0_1 cb0_2 cb0_3 hb2 hs hk
  have cb1_0 := v1.at 0 rfl
  have zb1_0 := v1.fr 0 (by simp)
  have cb1_1 := v1.at 1 rfl
  have zb1_1 := v1.fr 1 (by simp)
  have cb1_2 := v1.at 2 rfl
  have zb1_2 := v1.fr 2 (by simp)
  have cb1_3 := v1.at 3 rfl
  have zb1_3 := v1.fr 3 (by simp)
  go_wp2_with fail
  have hBs := hB.size
  exact bodyPost_ret (v := .tuple #[.agg #[.int .i64 0, .int .i64 0, .int .i64 0, .int .i64 0], .bool false]) (by simp [results, Try.results36, go_sem, cb1_0, cb1_1, cb1_2, cb1_3]) rfl ⟨rfl, by repeat (first | exact hB | refine Below.alloc ?_ (by first | omega | (simp; try omega)) _ | refine Below.setCell ?_ (by first | omega | (simp; try omega)) _)⟩


set_option maxRecDepth 100000 in
set_option maxHeartbeats 2000000 in
theorem push_r_yes (x y z b n m : Int) (hx : I64 x) (hy : I64 y) (hz : I64 z) (h1 : Hid (valid x y z b = true)) (h3 : ¬ n < -4194304) (h4 : ¬ 4194304 < n) (hw : wrap64 (b + n) = m) (h2 : Hid (valid x y z m = true)) (w : World) : Calls Try.prog 36 #[Pl x y z b, .int .i64 n] w (Gives w (.tuple #[Pl x y z m, .bool true])) := by
  unfold Pl
  go_enter Try.func36, Try.ntmps36
  have hB := Below.refl w.heap.size w
  go_wp2_with fail
  refine (valid_r x y z b hx hy hz _).mono ?_
  rintro e W1 ⟨rfl, hk⟩
  rw [h1.out]
  have hs : Below w.heap.size w W1 := Below.trans (by repeat (first | exact Below.refl _ _ | refine Below.alloc ?_ (by first | omega | (simp; try omega)) _ | refine Below.setCell ?_ (by first | omega | (simp; try omega)) _)) (hk.mono (by first | omega | (simp; try omega)))
  have v0 : Var W1 (w.heap.size) [.int .i64 x, .int .i64 y, .int .i64 z, .int .i64 b] := Var.low ⟨by first | omega | (simp; try omega), by simp [Cel, go_sem]⟩ hk (by first | omega | (simp; try omega))
  have v1 : Var W1 (w.heap.size + 1) [.int .i64 0, .int .i64 0, .int .i64 0, .int .i64 0] := Var.low ⟨by first | omega | (simp; try omega), by simp [Cel, go_sem]⟩ hk (by first | omega | (simp; try omega))
  obtain ⟨b1, hb1⟩ : ∃ b, w.heap.size + 1 = b := ⟨_, rfl⟩
  have lob1 : w.heap.size ≤ b1 := by have := hB.size; omega
  obtain ⟨b0, hb0⟩ : ∃ b, w.heap.size = b := ⟨_, rfl⟩
  have lob0 : w.heap.size ≤ b0 := by have := hB.size; omega
  rw [hb1] at v1
  try rw [hb1]
  rw [hb0] at v0
  try rw [hb0]
  have hB := hB.trans (hs.mono hB.size)
  clear hb0 hb1 hs hk
  have cb0_0 := v0.at 0 rfl
  have cb0_1 := v0.at 1 rfl
  have cb0_2 := v0.at 2 rfl
  have cb0_3 := v0.at 3 rfl
  go_wp2_with fail
  refine (valid_r x y z m hx hy hz _).mono ?_
  rintro e W2 ⟨rfl, hk⟩
  rw [h2.out]
  have hs : Below W1.heap.size W1 W2 := Below.trans (by repeat (first | exact Below.refl _ _ | refine Below.alloc ?_ (by first | omega | (simp; try omega)) _ | refine Below.setCell ?_ (by first | omega | (simp; try omega)) _)) (hk.mono (by first | omega | (simp; try omega)))
  have v0 := v0.below hs
  have v1 := v1.below hs
  have v2 : Var W2 (W1.heap.size) [.int .i64 x, .int .i64 y, .int .i64 z, .int .i64 m] := Var.low ⟨by first | omega | (simp; try omega), by simp [Cel, go_sem]⟩ hk (by first | omega | (simp; try omega))
  obtain ⟨b2, hb2⟩ : ∃ b, W1.heap.size = b := ⟨_, rfl⟩
  have lob2 : w.heap.size ≤ b2 := by have := hB.size; omega
  rw [hb2] at v2
  try rw [hb2]
  have hB := hB.trans (hs.mono hB.size)
  clear cb0_0 cb0_1 cb0_2 cb0_3 hb2 hs hk
  have cb2_0 := v2.at 0 rfl
  have cb2_1 := v2.at 1 rfl
  have cb2_2 := v2.at 2 rfl
  have cb2_3 := v2.at 3 rfl
  have cb1_0 := v1.at 0 rfl
  have zb1_0 := v1.fr 0 (by simp)
  have cb1_1 := v1.at 1 rfl
  have zb1_1 := v1.fr 1 (by simp)
  have cb1_2 := v1.at 2 rfl
  have zb1_2 := v1.fr 2 (by simp)
  have cb1_3 := v1.at 3 rfl
  have zb1_3 := v1.fr 3 (by simp)
  go_wp2_with fail
  have hBs := hB.size
  exact bodyPost_ret (v := .tuple #[.agg #[.int .i64 x, .int .i64 y, .int .i64 z, .int .i64 m], .bool true]) (by simp [results, Try.results36, go_sem, cb1_0, cb1_1, cb1_2, cb1_3]) rfl ⟨rfl, by repeat (first | exact hB | refine Below.alloc ?_ (by first | omega | (simp; try omega)) _ | refine Below.setCell ?_ (by first | omega | (simp; try omega)) _)⟩


set_option maxRecDepth 100000 in
set_option maxHeartbeats 2000000 in
theorem through_r_no1 (e1 e2 e3 f1 f2 f3 g1 g2 g3 : Int) (h1 : Hid (in3 24 e1 e2 e3 = false)) (w : World) : Calls Try.prog 40 #[V e1 e2 e3, V f1 f2 f3, V g1 g2 g3] w (Gives w (.tuple #[Pl 0 0 0 0, .bool false])) := by
  unfold V
  go_enter Try.func40, Try.ntmps40
  have hB := Below.refl w.heap.size w
  go_wp2_with fail
  refine (in_r e1 e2 e3 _).mono ?_
  rintro e W1 ⟨rfl, hk⟩
  rw [h1.out]
  have hs : Below w.heap.size w W1 := Below.trans (by repeat (first | exact Below.refl _ _ | refine Below.alloc ?_ (by first | omega | (simp; try omega)) _ | refine Below.setCell ?_ (by first | omega | (simp; try omega)) _)) (hk.mono (by first | omega | (simp; try omega)))
  have v0 : Var W1 (w.heap.size) [.int .i64 e1, .int .i64 e2, .int .i64 e3] := Var.low ⟨by first | omega | (simp; try omega), by simp [Cel, go_sem]⟩ hk (by first | omega | (simp; try omega))
  have v1 : Var W1 (w.heap.size + 1) [.int .i64 f1, .int .i64 f2, .int .i64 f3] := Var.low ⟨by first | omega | (simp; try omega), by simp [Cel, go_sem]⟩ hk (by first | omega | (simp; try omega))
  have v2 : Var W1 (w.heap.size + 1 + 1) [.int .i64 g1, .int .i64 g2, .int .i64 g3] := Var.low ⟨by first | omega | (simp; try omega), by simp [Cel, go_sem]⟩ hk (by first | omega | (simp; try omega))
  have v3 : Var W1 (w.heap.size + 1 + 1 + 1) [.int .i64 0, .int .i64 0, .int .i64 0, .int .i64 0] := Var.low ⟨by first | omega | (simp; try omega), by simp [Cel, go_sem]⟩ hk (by first | omega | (simp; try omega))
  obtain ⟨b3, hb3⟩ : ∃ b, w.heap.size + 1 + 1 + 1 = b := ⟨_, rfl⟩
  have lob3 : w.heap.size ≤ b3 := by have := hB.size; omega
  obtain ⟨b2, hb2⟩ : ∃ b, w.heap.size + 1 + 1 = b := ⟨_, rfl⟩
  have lob2 : w.heap.size ≤ b2 := by have := hB.size; omega
  obtain ⟨b1, hb1⟩ : ∃ b, w.heap.size + 1 = b := ⟨_, rfl⟩
  have lob1 : w.heap.size ≤ b1 := by have := hB.size; omega
  obtain ⟨b0, hb0⟩ : ∃ b, w.heap.size = b := ⟨_, rfl⟩
  have lob0 : w.heap.size ≤ b0 := by have := hB.size; omega
  have db0_b3 : b0 ≠ b3 := by omega
  have db1_b3 : b1 ≠ b3 := by omega
  have db2_b3 : b2 ≠ b3 := by omega
  rw [hb3] at v3
  try rw [hb3]
  rw [hb2] at v2
  try rw [hb2]
  rw [hb1] at v1
  try rw [hb1]
  rw [hb0] at v0
  try rw [hb0]
  have hB := hB.trans (hs.mono hB.size)
  clear hb0 hb1 hb2 hb3 hs hk
  have cb3_0 := v3.at 0 rfl
  have zb3_0 := v3.fr 0 (by simp)
  have cb3_1 := v3.at 1 rfl
  have zb3_1 := v3.fr 1 (by simp)
  have cb3_2 := v3.at 2 rfl
  have zb3_2 := v3.fr 2 (by simp)
  have cb3_3 := v3.at 3 rfl
  have zb3_3 := v3.fr 3 (by simp)
  go_wp2_with fail
  have hBs := hB.size
  exact bodyPost_ret (v := .tuple #[.agg #[.int .i64 0, .int .i64 0, .int .i64 0, .int .i64 0], .bool false]) (by simp [results, Try.results40, go_sem, cb3_0, cb3_1, cb3_2, cb3_3]) rfl ⟨rfl, by repeat (first | exact hB | refine Below.alloc ?_ (by first | omega | (simp; try omega)) _ | refine Below.setCell ?_ (by first | omega | (simp; try omega)) _)⟩


set_option maxRecDepth 100000 in
set_option maxHeartbeats 2000000 in
theorem through_r_no2 (e1 e2 e3 f1 f2 f3 g1 g2 g3 : Int) (h1 : Hid (in3 24 e1 e2 e3 = true)) (h2 : Hid (in3 24 f1 f2 f3 = false)) (w : World) : Calls Try.prog 40 #[V e1 e2 e3, V f1 f2 f3, V g1 g2 g3] w (Gives w (.tuple #[Pl 0 0 0 0, .bool false])) := by
  unfold V
  go_enter Try.func40, Try.ntmps40
  have hB := Below.refl w.heap.size w
  go_wp2_with fail
  refine (in_r e1 e2 e3 _).mono ?_
  rintro e W1 ⟨rfl, hk⟩
  rw [h1.out]
  have hs : Below w.heap.size w W1 := Below.trans (by repeat (first | exact Below.refl _ _ | refine Below.alloc ?_ (by first | omega | (simp; try omega)) _ | refine Below.setCell ?_ (by first | omega | (simp; try omega)) _)) (hk.mono (by first | omega | (simp; try omega)))
  have v0 : Var W1 (w.heap.size) [.int .i64 e1, .int .i64 e2, .int .i64 e3] := Var.low ⟨by first | omega | (simp; try omega), by simp [Cel, go_sem]⟩ hk (by first | omega | (simp; try omega))
  have v1 : Var W1 (w.heap.size + 1) [.int .i64 f1, .int .i64 f2, .int .i64 f3] := Var.low ⟨by first | omega | (simp; try omega), by simp [Cel, go_sem]⟩ hk (by first | omega | (simp; try omega))
  have v2 : Var W1 (w.heap.size + 1 + 1) [.int .i64 g1, .int .i64 g2, .int .i64 g3] := Var.low ⟨by first | omega | (simp; try omega), by simp [Cel, go_sem]⟩ hk (by first | omega | (simp; try omega))
  have v3 : Var W1 (w.heap.size + 1 + 1 + 1) [.int .i64 0, .int .i64 0, .int .i64 0, .int .i64 0] := Var.low ⟨by first | omega | (simp; try omega), by simp [Cel, go_sem]⟩ hk (by first | omega | (simp; try omega))
  obtain ⟨b3, hb3⟩ : ∃ b, w.heap.size + 1 + 1 + 1 = b := ⟨_, rfl⟩
  have lob3 : w.heap.size ≤ b3 := by have := hB.size; omega
  obtain ⟨b2, hb2⟩ : ∃ b, w.heap.size + 1 + 1 = b := ⟨_, rfl⟩
  have lob2 : w.heap.size ≤ b2 := by have := hB.size; omega
  obtain ⟨b1, hb1⟩ : ∃ b, w.heap.size + 1 = b := ⟨_, rfl⟩
  have lob1 : w.heap.size ≤ b1 := by have := hB.size; omega
  obtain ⟨b0, hb0⟩ : ∃ b, w.heap.size = b := ⟨_, rfl⟩
  have lob0 : w.heap.size ≤ b0 := by have := hB.size; omega
  have db0_b3 : b0 ≠ b3 := by omega
  have db1_b3 : b1 ≠ b3 := by omega
  have db2_b3 : b2 ≠ b3 := by omega
  rw [hb3] at v3
  try rw [hb3]
  rw [hb2] at v2
  try rw [hb2]
  rw [hb1] at v1
  try rw [hb1]
  rw [hb0] at v0
  try rw [hb0]
  have hB := hB.trans (hs.mono hB.size)
  clear hb0 hb1 hb2 hb3 hs hk
  have cb1_0 := v1.at 0 rfl
  have cb1_1 := v1.at 1 rfl
  have cb1_2 := v1.at 2 rfl
  go_wp2_with fail
  refine (in_r f1 f2 f3 _).mono ?_
  rintro e W2 ⟨rfl, hk⟩
  rw [h2.out]
  have hs := hk
  have v0 := v0.below hs
  have v1 := v1.below hs
  have v2 := v2.below hs
  have v3 := v3.below hs
  have hB := hB.trans (hs.mono hB.size)
  clear cb1_0 cb1_1 cb1_2 hs hk
  have cb3_0 := v3.at 0 rfl
  have zb3_0 := v3.fr 0 (by simp)
  have cb3_1 := v3.at 1 rfl
  have zb3_1 := v3.fr 1 (by simp)
  have cb3_2 := v3.at 2 rfl
  have zb3_2 := v3.fr 2 (by simp)
  have cb3_3 := v3.at 3 rfl
  have zb3_3 := v3.fr 3 (by simp)
  go_wp2_with fail
  have hBs := hB.size
  exact bodyPost_ret (v := .tuple #[.agg #[.int .i64 0, .int .i64 0, .int .i64 0, .int .i64 0], .bool false]) (by simp [results, Try.results40, go_sem, cb3_0, cb3_1, cb3_2, cb3_3]) rfl ⟨rfl, by repeat (first | exact hB | refine Below.alloc ?_ (by first | omega | (simp; try omega)) _ | refine Below.setCell ?_ (by first | omega | (simp; try omega)) _)⟩


set_option maxRecDepth 100000 in
set_option maxHeartbeats 2000000 in
theorem through_r_no3 (e1 e2 e3 f1 f2 f3 g1 g2 g3 : Int) (h1 : Hid (in3 24 e1 e2 e3 = true)) (h2 : Hid (in3 24 f1 f2 f3 = true)) (h3 : Hid (in3 24 g1 g2 g3 = false)) (w : World) : Calls Try.prog 40 #[V e1 e2 e3, V f1 f2 f3, V g1 g2 g3] w (Gives w (.tuple #[Pl 0 0 0 0, .bool false])) := by
  unfold V
  go_enter Try.func40, Try.ntmps40
  have hB := Below.refl w.heap.size w
  go_wp2_with fail
  refine (in_r e1 e2 e3 _).mono ?_
  rintro e W1 ⟨rfl, hk⟩
  rw [h1.out]
  have hs : Below w.heap.size w W1 := Below.trans (by repeat (first | exact Below.refl _ _ | refine Below.alloc ?_ (by first | omega | (simp; try omega)) _ | refine Below.setCell ?_ (by first | omega | (simp; try omega)) _)) (hk.mono (by first | omega | (simp; try omega)))
  have v0 : Var W1 (w.heap.size) [.int .i64 e1, .int .i64 e2, .int .i64 e3] := Var.low ⟨by first | omega | (simp; try omega), by simp [Cel, go_sem]⟩ hk (by first | omega | (simp; try omega))
  have v1 : Var W1 (w.heap.size + 1) [.int .i64 f1, .int .i64 f2, .int .i64 f3] := Var.low ⟨by first | omega | (simp; try omega), by simp [Cel, go_sem]⟩ hk (by first | omega | (simp; try omega))
  have v2 : Var W1 (w.heap.size + 1 + 1) [.int .i64 g1, .int .i64 g2, .int .i64 g3] := Var.low ⟨by first | omega | (simp; try omega), by simp [Cel, go_sem]⟩ hk (by first | omega | (simp; try omega))
  have v3 : Var W1 (w.heap.size + 1 + 1 + 1) [.int .i64 0, .int .i64 0, .int .i64 0, .int .i64 0] := Var.low ⟨by first | omega | (simp; try omega), by simp [Cel, go_sem]⟩ hk (by first | omega | (simp; try omega))
  obtain ⟨b3, hb3⟩ : ∃ b, w.heap.size + 1 + 1 + 1 = b := ⟨_, rfl⟩
  have lob3 : w.heap.size ≤ b3 := by have := hB.size; omega
  obtain ⟨b2, hb2⟩ : ∃ b, w.heap.size + 1 + 1 = b := ⟨_, rfl⟩
  have lob2 : w.heap.size ≤ b2 := by have := hB.size; omega
  obtain ⟨b1, hb1⟩ : ∃ b, w.heap.size + 1 = b := ⟨_, rfl⟩
  have lob1 : w.heap.size ≤ b1 := by have := hB.size; omega
  obtain ⟨b0, hb0⟩ : ∃ b, w.heap.size = b := ⟨_, rfl⟩
  have lob0 : w.heap.size ≤ b0 := by have := hB.size; omega
  have db0_b3 : b0 ≠ b3 := by omega
  have db1_b3 : b1 ≠ b3 := by omega
  have db2_b3 : b2 ≠ b3 := by omega
  rw [hb3] at v3
  try rw [hb3]
  rw [hb2] at v2
  try rw [hb2]
  rw [hb1] at v1
  try rw [hb1]
  rw [hb0] at v0
  try rw [hb0]
  have hB := hB.trans (hs.mono hB.size)
  clear hb0 hb1 hb2 hb3 hs hk
  have cb1_0 := v1.at 0 rfl
  have cb1_1 := v1.at 1 rfl
  have cb1_2 := v1.at 2 rfl
  go_wp2_with fail
  refine (in_r f1 f2 f3 _).mono ?_
  rintro e W2 ⟨rfl, hk⟩
  rw [h2.out]
  have hs := hk
  have v0 := v0.below hs
  have v1 := v1.below hs
  have v2 := v2.below hs
  have v3 := v3.below hs
  have hB := hB.trans (hs.mono hB.size)
  clear cb1_0 cb1_1 cb1_2 hs hk
  have cb2_0 := v2.at 0 rfl
  have cb2_1 := v2.at 1 rfl
  have cb2_2 := v2.at 2 rfl
  go_wp2_with fail
  refine (in_r g1 g2 g3 _).mono ?_
  rintro e W3 ⟨rfl, hk⟩
  rw [h3.out]
  have hs := hk
  have v0 := v0.below hs
  have v1 := v1.below hs
  have v2 := v2.below hs
  have v3 := v3.below hs
  have hB := hB.trans (hs.mono hB.size)
  clear cb2_0 cb2_1 cb2_2 hs hk
  have cb3_0 := v3.at 0 rfl
  have zb3_0 := v3.fr 0 (by simp)
  have cb3_1 := v3.at 1 rfl
  have zb3_1 := v3.fr 1 (by simp)
  have cb3_2 := v3.at 2 rfl
  have zb3_2 := v3.fr 2 (by simp)
  have cb3_3 := v3.at 3 rfl
  have zb3_3 := v3.fr 3 (by simp)
  go_wp2_with fail
  have hBs := hB.size
  exact bodyPost_ret (v := .tuple #[.agg #[.int .i64 0, .int .i64 0, .int .i64 0, .int .i64 0], .bool false]) (by simp [results, Try.results40, go_sem, cb3_0, cb3_1, cb3_2, cb3_3]) rfl ⟨rfl, by repeat (first | exact hB | refine Below.alloc ?_ (by first | omega | (simp; try omega)) _ | refine Below.setCell ?_ (by first | omega | (simp; try omega)) _)⟩


set_option maxRecDepth 100000 in
set_option maxHeartbeats 2000000 in
theorem through_r_flat (e1 e2 e3 f1 f2 f3 g1 g2 g3 : Int) (u1 u2 u3 t1 t2 t3 n1 n2 n3 i j k : Int) (h1 : Hid (in3 24 e1 e2 e3 = true)) (h2 : Hid (in3 24 f1 f2 f3 = true)) (h3 : Hid (in3 24 g1 g2 g3 = true)) (hu1 : Hid (wrap64 (f1 - e1) = u1)) (hv1 : Hid (wrap64 (g1 - e1) = t1)) (hu2 : Hid (wrap64 (f2 - e2) = u2)) (hv2 : Hid (wrap64 (g2 - e2) = t2)) (hu3 : Hid (wrap64 (f3 - e3) = u3)) (hv3 : Hid (wrap64 (g3 - e3) = t3)) (hn1 : Hid (crx u1 u2 u3 t1 t2 t3 = n1)) (hn2 : Hid (cry u1 u2 u3 t1 t2 t3 = n2)) (hn3 : Hid (crz u1 u2 u3 t1 t2 t3 = n3)) (hm1 : I64 n1) (hm2 : I64 n2) (hm3 : I64 n3) (hq1 : Hid (n1.tdiv (dv3 n1 n2 n3 : Int) = i)) (hq2 : Hid (n2.tdiv (dv3 n1 n2 n3 : Int) = j)) (hq3 : Hid (n3.tdiv (dv3 n1 n2 n3 : Int) = k)) (hd : Hid (dv3 n1 n2 n3 = 0)) (w : World) : Calls Try.prog 40 #[V e1 e2 e3, V f1 f2 f3, V g1 g2 g3] w (Gives w (.tuple #[Pl 0 0 0 0, .bool false])) := by
  unfold V
  go_enter Try.func40, Try.ntmps40
  have hB := Below.refl w.heap.size w
  go_wp2_with fail
  refine (in_r e1 e2 e3 _).mono ?_
  rintro e W1 ⟨rfl, hk⟩
  rw [h1.out]
  have hs : Below w.heap.size w W1 := Below.trans (by repeat (first | exact Below.refl _ _ | refine Below.alloc ?_ (by first | omega | (simp; try omega)) _ | refine Below.setCell ?_ (by first | omega | (simp; try omega)) _)) (hk.mono (by first | omega | (simp; try omega)))
  have v0 : Var W1 (w.heap.size) [.int .i64 e1, .int .i64 e2, .int .i64 e3] := Var.low ⟨by first | omega | (simp; try omega), by simp [Cel, go_sem]⟩ hk (by first | omega | (simp; try omega))
  have v1 : Var W1 (w.heap.size + 1) [.int .i64 f1, .int .i64 f2, .int .i64 f3] := Var.low ⟨by first | omega | (simp; try omega), by simp [Cel, go_sem]⟩ hk (by first | omega | (simp; try omega))
  have v2 : Var W1 (w.heap.size + 1 + 1) [.int .i64 g1, .int .i64 g2, .int .i64 g3] := Var.low ⟨by first | omega | (simp; try omega), by simp [Cel, go_sem]⟩ hk (by first | omega | (simp; try omega))
  have v3 : Var W1 (w.heap.size + 1 + 1 + 1) [.int .i64 0, .int .i64 0, .int .i64 0, .int .i64 0] := Var.low ⟨by first | omega | (simp; try omega), by simp [Cel, go_sem]⟩ hk (by first | omega | (simp; try omega))
  obtain ⟨b3, hb3⟩ : ∃ b, w.heap.size + 1 + 1 + 1 = b := ⟨_, rfl⟩
  have lob3 : w.heap.size ≤ b3 := by have := hB.size; omega
  obtain ⟨b2, hb2⟩ : ∃ b, w.heap.size + 1 + 1 = b := ⟨_, rfl⟩
  have lob2 : w.heap.size ≤ b2 := by have := hB.size; omega
  obtain ⟨b1, hb1⟩ : ∃ b, w.heap.size + 1 = b := ⟨_, rfl⟩
  have lob1 : w.heap.size ≤ b1 := by have := hB.size; omega
  obtain ⟨b0, hb0⟩ : ∃ b, w.heap.size = b := ⟨_, rfl⟩
  have lob0 : w.heap.size ≤ b0 := by have := hB.size; omega
  have db0_b3 : b0 ≠ b3 := by omega
  have db1_b3 : b1 ≠ b3 := by omega
  have db2_b3 : b2 ≠ b3 := by omega
  rw [hb3] at v3
  try rw [hb3]
  rw [hb2] at v2
  try rw [hb2]
  rw [hb1] at v1
  try rw [hb1]
  rw [hb0] at v0
  try rw [hb0]
  have hB := hB.trans (hs.mono hB.size)
  clear hb0 hb1 hb2 hb3 hs hk
  have cb1_0 := v1.at 0 rfl
  have cb1_1 := v1.at 1 rfl
  have cb1_2 := v1.at 2 rfl
  go_wp2_with fail
  refine (in_r f1 f2 f3 _).mono ?_
  rintro e W2 ⟨rfl, hk⟩
  rw [h2.out]
  have hs := hk
  have v0 := v0.below hs
  have v1 := v1.below hs
  have v2 := v2.below hs
  have v3 := v3.below hs
  have hB := hB.trans (hs.mono hB.size)
  clear cb1_0 cb1_1 cb1_2 hs hk
  have cb2_0 := v2.at 0 rfl
  have cb2_1 := v2.at 1 rfl
  have cb2_2 := v2.at 2 rfl
  go_wp2_with fail
  refine (in_r g1 g2 g3 _).mono ?_
  rintro e W3 ⟨rfl, hk⟩
  rw [h3.out]
  have hs := hk
  have v0 := v0.below hs
  have v1 := v1.below hs
  have v2 := v2.below hs
  have v3 := v3.below hs
  have hB := hB.trans (hs.mono hB.size)
  clear cb2_0 cb2_1 cb2_2 hs hk
  go_wp2_with fail
  refine wp_region_dag (by kernel_rfl) ?_
  intro W4 hk
  have hs := hk
  have v0 := v0.below hs
  have v1 := v1.below hs
  have v2 := v2.below hs
  have v3 := v3.below hs
  have hB := hB.trans (hs.mono hB.size)
  clear hs hk
  refine dagV (fun _ => trivial) 14 ?hn (fun X => ⟨#[.agg #[.int .i64 e1, .int .i64 e2, .int .i64 e3], .agg #[.int .i64 f1, .int .i64 f2, .int .i64 f3], .agg #[.int .i64 g1, .int .i64 g2, .int .i64 g3], .pointer (some ⟨b0, 0, none⟩), .pointer (some ⟨b1, 0, none⟩), .pointer (some ⟨b2, 0, none⟩), .pointer (some ⟨b3, 0, none⟩), .bool false, X 11, X 13, .agg #[.int .i64 e1, .int .i64 e2, .int .i64 e3], .bool true, .bool false, .bool false, .agg #[.int .i64 f1, .int .i64 f2, .int .i64 f3], .bool true, .bool false, .bool false, .bool false, .agg #[.int .i64 g1, .int .i64 g2, .int .i64 g3], .bool true, .bool false, .bool false, undef, X 8, X 0, X 1, X 2, X 3, X 4, X 5, X 6, X 7, X 9, X 10, undef, undef, undef, undef, undef, undef, undef, undef], []⟩) [(0, 0, 0), (0, 0, 0), (0, 0, 0), (0, 0, 0), (0, 0, 0), (0, 0, 0), (0, 0, 0), (0, 0, 0), (0, 0, 0), (0, 0, 0), (0, 0, 0), (1, 12, 9), (3, 11, 9), (0, 0, 0)] (fun i => ([[], [], [], [], [], [], [], [], [], [], [], [.int .i64 0, .int .i64 0, .int .i64 0], [], []] : List (List Value)).getD i []) [.val (.agg #[.int .i64 f1, .int .i64 f2, .int .i64 f3]), .val (.agg #[.int .i64 e1, .int .i64 e2, .int .i64 e3]), .val (.agg #[.int .i64 u1, .int .i64 u2, .int .i64 u3]), .val (.agg #[.int .i64 g1, .int .i64 g2, .int .i64 g3]), .val (.agg #[.int .i64 e1, .int .i64 e2, .int .i64 e3]), .val (.agg #[.int .i64 t1, .int .i64 t2, .int .i64 t3]), .val (.agg #[.int .i64 n1, .int .i64 n2, .int .i64 n3]), .val (.tuple #[.agg #[.int .i64 i, .int .i64 j, .int .i64 k], .int .i64 0]), .val (.tuple #[.agg #[.int .i64 i, .int .i64 j, .int .i64 k], .int .i64 0]), .val (.agg #[.int .i64 i, .int .i64 j, .int .i64 k]), .val (.int .i64 0), .none, .none, .val (.int .i64 0)] [[], [], [0, 1], [], [], [3, 4], [2, 5], [6], [7], [8], [8], [], [9, 11], [10]] [0, 1, 2, 3, 4, 5, 6, 7, 8, 9, 10, 13] [11] [12] [] (fun i => ([0, 0, 0, 0, 0, 0, 0, 0, 0, 0, 0, 23, 0, 0] : List TypeId).getD i 0) W4 (by kernel_rfl) (by kernel_rfl) (by kernel_rfl) (by kernel_rfl) (by kernel_rfl) ?dist ?olds ?op ?al ?st ?into ?fin (fun _ => undef) _ _ (by kernel_rfl) (of_decide_eq_true (by kernel_rfl)) (of_decide_eq_true (by kernel_rfl))
  case hn => rfl
  case dist => intro i hi j hj; simp at hi hj; try omega
  case olds => exact nofun
  case op =>
    repeat' first | exact Each.nil | refine Each.cons ?_ ?_
    all_goals intro X w7 H hb hD h
    · have hv := v1.below (show Keep [] _ _ from hb).nil
      have c0_ := hv.at 0 rfl
      have c1_ := hv.at 1 rfl
      have c2_ := hv.at 2 rfl
      refine tv rfl (by rfl) ?_ (by exact h _ w7 rfl (Below.refl _ _))
      go_simp <;> first | rfl | (simp only [IntWalk.i64_left]; rfl)
    · have hv := v0.below (show Keep [] _ _ from hb).nil
      have c0_ := hv.at 0 rfl
      have c1_ := hv.at 1 rfl
      have c2_ := hv.at 2 rfl
      refine tv rfl (by rfl) ?_ (by exact h _ w7 rfl (Below.refl _ _))
      go_simp <;> first | rfl | (simp only [IntWalk.i64_left]; rfl)
    · have e0_ : X 0 = _ := hD 0 (by decide) rfl
      have e1_ : X 1 = _ := hD 1 (by decide) rfl
      refine wpOp_call (i := 2) (f := 18) (args := #[.agg #[.int .i64 f1, .int .i64 f2, .int .i64 f3], .agg #[.int .i64 e1, .int .i64 e2, .int .i64 e3]]) 27 rfl rfl (by simp only [e0_, e1_]; rfl) (by simp only [e0_, e1_]; go_simp) ?_
      refine (sub_r f1 f2 f3 e1 e2 e3 _).mono ?_
      rintro e w8 ⟨rfl, hk⟩
      rw [hu1.out, hu2.out, hu3.out]
      exact ⟨_, rfl, h _ w8 rfl hk⟩
    · have hv := v2.below (show Keep [] _ _ from hb).nil
      have c0_ := hv.at 0 rfl
      have c1_ := hv.at 1 rfl
      have c2_ := hv.at 2 rfl
      refine tv rfl (by rfl) ?_ (by exact h _ w7 rfl (Below.refl _ _))
      go_simp <;> first | rfl | (simp only [IntWalk.i64_left]; rfl)
    · have hv := v0.below (show Keep [] _ _ from hb).nil
      have c0_ := hv.at 0 rfl
      have c1_ := hv.at 1 rfl
      have c2_ := hv.at 2 rfl
      refine tv rfl (by rfl) ?_ (by exact h _ w7 rfl (Below.refl _ _))
      go_simp <;> first | rfl | (simp only [IntWalk.i64_left]; rfl)
    · have e3_ : X 3 = _ := hD 3 (by decide) rfl
      have e4_ : X 4 = _ := hD 4 (by decide) rfl
      refine wpOp_call (i := 5) (f := 18) (args := #[.agg #[.int .i64 g1, .int .i64 g2, .int .i64 g3], .agg #[.int .i64 e1, .int .i64 e2, .int .i64 e3]]) 30 rfl rfl (by simp only [e3_, e4_]; rfl) (by simp only [e3_, e4_]; go_simp) ?_
      refine (sub_r g1 g2 g3 e1 e2 e3 _).mono ?_
      rintro e w8 ⟨rfl, hk⟩
      rw [hv1.out, hv2.out, hv3.out]
      exact ⟨_, rfl, h _ w8 rfl hk⟩
    · have e2_ : X 2 = _ := hD 2 (by decide) rfl
      have e5_ : X 5 = _ := hD 5 (by decide) rfl
      refine wpOp_call (i := 6) (f := 22) (args := #[.agg #[.int .i64 u1, .int .i64 u2, .int .i64 u3], .agg #[.int .i64 t1, .int .i64 t2, .int .i64 t3]]) 31 rfl rfl (by simp only [e2_, e5_]; rfl) (by simp only [e2_, e5_]; go_simp) ?_
      refine (cross_r u1 u2 u3 t1 t2 t3 _).mono ?_
      rintro e w8 ⟨rfl, hk⟩
      rw [hn1.out, hn2.out, hn3.out]
      exact ⟨_, rfl, h _ w8 rfl hk⟩
    · have e6_ : X 6 = _ := hD 6 (by decide) rfl
      refine wpOp_call (i := 7) (f := 25) (args := #[.agg #[.int .i64 n1, .int .i64 n2, .int .i64 n3]]) 32 rfl rfl (by simp only [e6_]; rfl) (by simp only [e6_]; go_simp) ?_
      refine (prim_r1 n1 n2 n3 hm1 hm2 hm3 _).mono ?_
      rintro e w8 ⟨rfl, hk⟩
      rw [hq1.out, hq2.out, hq3.out, hd.out, show ((0 : Nat) : Int) = 0 from rfl]
      exact ⟨_, rfl, h _ w8 rfl hk⟩
    · have e7_ : X 7 = _ := hD 7 (by decide) rfl
      refine tv rfl (by simp only [e7_]; rfl) ?_ (by exact h _ w7 rfl (Below.refl _ _))
      simp only [e7_]; go_simp <;> first | rfl | (simp only [IntWalk.i64_left]; rfl)
    · have e8_ : X 8 = _ := hD 8 (by decide) rfl
      refine tv rfl (by simp only [e8_]; rfl) ?_ (by exact h _ w7 rfl (Below.refl _ _))
      simp only [e8_]; go_simp <;> first | rfl | (simp only [IntWalk.i64_left]; rfl)
    · have e8_ : X 8 = _ := hD 8 (by decide) rfl
      refine tv rfl (by simp only [e8_]; rfl) ?_ (by exact h _ w7 rfl (Below.refl _ _))
      simp only [e8_]; go_simp <;> first | rfl | (simp only [IntWalk.i64_left]; rfl)
    · have e10_ : X 10 = _ := hD 10 (by decide) rfl
      refine tv rfl (by simp only [e10_]; rfl) ?_ (by exact h _ w7 rfl (Below.refl _ _))
      simp only [e10_]; go_simp <;> first | rfl | (simp only [IntWalk.i64_left]; rfl)
  case al =>
    repeat' first | exact Each.nil | refine Each.cons ?_ ?_
    all_goals exact fun X w7 H h => wpOp_run rfl (by go_simp; exact h)
  case st =>
    repeat' first | exact Each.nil | refine Each.cons ?_ ?_
    all_goals intro X w7 H b hX hC hG h
    · replace hX : X 11 = .pointer (some ⟨b, 0, none⟩) := hX
      have e : X 9 = _ := hG
      have c0_ := hC.at 0 rfl
      have z0_ := hC.fr 0 (by decide)
      have c1_ := hC.at 1 rfl
      have z1_ := hC.fr 1 (by decide)
      have c2_ := hC.at 2 rfl
      have z2_ := hC.fr 2 (by decide)
      refine wpOp_run rfl ?_
      have h := h (by show _ = (vc (X 9)).length; rw [e]; rfl)
      simp only [hX] at h ⊢
      replace h : H _ (putC b w7 0 (vc (X 9))) := h
      simp only [e] at h ⊢
      go_simp
      exact h
  case into => exact Each.nil
  case fin =>
    intro X3_ W5 hI
    have hE : Keep [] W4 W5 := hI.keep
    have e9_ : X3_ 9 = _ := hI.fact 9 (by decide) rfl rfl
    have e13_ : X3_ 13 = _ := hI.fact 13 (by decide) rfl rfl
    obtain ⟨b4, e11_, lob4, v4⟩ := hI.box 11 (by decide) rfl (by decide)
    replace v4 : Var W5 b4 (vc (X3_ 9)) := v4
    rw [e9_] at v4
    replace v4 : Var W5 b4 [.int .i64 i, .int .i64 j, .int .i64 k] := v4
    have db3_b4 : b3 ≠ b4 := by have := v3.1; omega
    replace lob4 : w.heap.size ≤ b4 := Nat.le_trans hB.size lob4
    have v0 := v0.below hE.nil
    have v1 := v1.below hE.nil
    have v2 := v2.below hE.nil
    have v3 := v3.below hE.nil
    have hB := hB.trans (hE.nil.mono hB.size)
    simp only [e9_, e13_, e11_]
    clear e9_ e13_ e11_ hI hE
    have cb3_0 := v3.at 0 rfl
    have zb3_0 := v3.fr 0 (by simp)
    have cb3_1 := v3.at 1 rfl
    have zb3_1 := v3.fr 1 (by simp)
    have cb3_2 := v3.at 2 rfl
    have zb3_2 := v3.fr 2 (by simp)
    have cb3_3 := v3.at 3 rfl
    have zb3_3 := v3.fr 3 (by simp)
    go_wp2_with fail
    have hBs := hB.size
    exact bodyPost_ret (v := .tuple #[.agg #[.int .i64 0, .int .i64 0, .int .i64 0, .int .i64 0], .bool false]) (by simp [results, Try.results40, go_sem, cb3_0, cb3_1, cb3_2, cb3_3]) rfl ⟨rfl, by repeat (first | exact hB | refine Below.alloc ?_ (by first | omega | (simp; try omega)) _ | refine Below.setCell ?_ (by first | omega | (simp; try omega)) _)⟩


set_option maxRecDepth 100000 in
set_option maxHeartbeats 2000000 in
theorem through_r_yes (e1 e2 e3 f1 f2 f3 g1 g2 g3 : Int) (u1 u2 u3 t1 t2 t3 n1 n2 n3 i j k : Int) (d : Nat) (h1 : Hid (in3 24 e1 e2 e3 = true)) (h2 : Hid (in3 24 f1 f2 f3 = true)) (h3 : Hid (in3 24 g1 g2 g3 = true)) (hu1 : Hid (wrap64 (f1 - e1) = u1)) (hv1 : Hid (wrap64 (g1 - e1) = t1)) (hu2 : Hid (wrap64 (f2 - e2) = u2)) (hv2 : Hid (wrap64 (g2 - e2) = t2)) (hu3 : Hid (wrap64 (f3 - e3) = u3)) (hv3 : Hid (wrap64 (g3 - e3) = t3)) (hn1 : Hid (crx u1 u2 u3 t1 t2 t3 = n1)) (hn2 : Hid (cry u1 u2 u3 t1 t2 t3 = n2)) (hn3 : Hid (crz u1 u2 u3 t1 t2 t3 = n3)) (hm1 : I64 n1) (hm2 : I64 n2) (hm3 : I64 n3) (hq1 : Hid (n1.tdiv (dv3 n1 n2 n3 : Int) = i)) (hq2 : Hid (n2.tdiv (dv3 n1 n2 n3 : Int) = j)) (hq3 : Hid (n3.tdiv (dv3 n1 n2 n3 : Int) = k)) (hd : Hid (dv3 n1 n2 n3 = d)) (h4 : ((d : Int) == 0) = false) (w : World) : Calls Try.prog 40 #[V e1 e2 e3, V f1 f2 f3, V g1 g2 g3] w (Gives w (.tuple #[Pl i j k (dt i j k e1 e2 e3), .bool true])) := by
  unfold V
  go_enter Try.func40, Try.ntmps40
  have hB := Below.refl w.heap.size w
  go_wp2_with fail
  refine (in_r e1 e2 e3 _).mono ?_
  rintro e W1 ⟨rfl, hk⟩
  rw [h1.out]
  have hs : Below w.heap.size w W1 := Below.trans (by repeat (first | exact Below.refl _ _ | refine Below.alloc ?_ (by first | omega | (simp; try omega)) _ | refine Below.setCell ?_ (by first | omega | (simp; try omega)) _)) (hk.mono (by first | omega | (simp; try omega)))
  have v0 : Var W1 (w.heap.size) [.int .i64 e1, .int .i64 e2, .int .i64 e3] := Var.low ⟨by first | omega | (simp; try omega), by simp [Cel, go_sem]⟩ hk (by first | omega | (simp; try omega))
  have v1 : Var W1 (w.heap.size + 1) [.int .i64 f1, .int .i64 f2, .int .i64 f3] := Var.low ⟨by first | omega | (simp; try omega), by simp [Cel, go_sem]⟩ hk (by first | omega | (simp; try omega))
  have v2 : Var W1 (w.heap.size + 1 + 1) [.int .i64 g1, .int .i64 g2, .int .i64 g3] := Var.low ⟨by first | omega | (simp; try omega), by simp [Cel, go_sem]⟩ hk (by first | omega | (simp; try omega))
  have v3 : Var W1 (w.heap.size + 1 + 1 + 1) [.int .i64 0, .int .i64 0, .int .i64 0, .int .i64 0] := Var.low ⟨by first | omega | (simp; try omega), by simp [Cel, go_sem]⟩ hk (by first | omega | (simp; try omega))
  obtain ⟨b3, hb3⟩ : ∃ b, w.heap.size + 1 + 1 + 1 = b := ⟨_, rfl⟩
  have lob3 : w.heap.size ≤ b3 := by have := hB.size; omega
  obtain ⟨b2, hb2⟩ : ∃ b, w.heap.size + 1 + 1 = b := ⟨_, rfl⟩
  have lob2 : w.heap.size ≤ b2 := by have := hB.size; omega
  obtain ⟨b1, hb1⟩ : ∃ b, w.heap.size + 1 = b := ⟨_, rfl⟩
  have lob1 : w.heap.size ≤ b1 := by have := hB.size; omega
  obtain ⟨b0, hb0⟩ : ∃ b, w.heap.size = b := ⟨_, rfl⟩
  have lob0 : w.heap.size ≤ b0 := by have := hB.size; omega
  have db0_b3 : b0 ≠ b3 := by omega
  have db1_b3 : b1 ≠ b3 := by omega
  have db2_b3 : b2 ≠ b3 := by omega
  rw [hb3] at v3
  try rw [hb3]
  rw [hb2] at v2
  try rw [hb2]
  rw [hb1] at v1
  try rw [hb1]
  rw [hb0] at v0
  try rw [hb0]
  have hB := hB.trans (hs.mono hB.size)
  clear hb0 hb1 hb2 hb3 hs hk
  have cb1_0 := v1.at 0 rfl
  have cb1_1 := v1.at 1 rfl
  have cb1_2 := v1.at 2 rfl
  go_wp2_with fail
  refine (in_r f1 f2 f3 _).mono ?_
  rintro e W2 ⟨rfl, hk⟩
  rw [h2.out]
  have hs := hk
  have v0 := v0.below hs
  have v1 := v1.below hs
  have v2 := v2.below hs
  have v3 := v3.below hs
  have hB := hB.trans (hs.mono hB.size)
  clear cb1_0 cb1_1 cb1_2 hs hk
  have cb2_0 := v2.at 0 rfl
  have cb2_1 := v2.at 1 rfl
  have cb2_2 := v2.at 2 rfl
  go_wp2_with fail
  refine (in_r g1 g2 g3 _).mono ?_
  rintro e W3 ⟨rfl, hk⟩
  rw [h3.out]
  have hs := hk
  have v0 := v0.below hs
  have v1 := v1.below hs
  have v2 := v2.below hs
  have v3 := v3.below hs
  have hB := hB.trans (hs.mono hB.size)
  clear cb2_0 cb2_1 cb2_2 hs hk
  go_wp2_with fail
  refine wp_region_dag (by kernel_rfl) ?_
  intro W4 hk
  have hs := hk
  have v0 := v0.below hs
  have v1 := v1.below hs
  have v2 := v2.below hs
  have v3 := v3.below hs
  have hB := hB.trans (hs.mono hB.size)
  clear hs hk
  refine dagV (fun _ => trivial) 14 ?hn (fun X => ⟨#[.agg #[.int .i64 e1, .int .i64 e2, .int .i64 e3], .agg #[.int .i64 f1, .int .i64 f2, .int .i64 f3], .agg #[.int .i64 g1, .int .i64 g2, .int .i64 g3], .pointer (some ⟨b0, 0, none⟩), .pointer (some ⟨b1, 0, none⟩), .pointer (some ⟨b2, 0, none⟩), .pointer (some ⟨b3, 0, none⟩), .bool false, X 11, X 13, .agg #[.int .i64 e1, .int .i64 e2, .int .i64 e3], .bool true, .bool false, .bool false, .agg #[.int .i64 f1, .int .i64 f2, .int .i64 f3], .bool true, .bool false, .bool false, .bool false, .agg #[.int .i64 g1, .int .i64 g2, .int .i64 g3], .bool true, .bool false, .bool false, undef, X 8, X 0, X 1, X 2, X 3, X 4, X 5, X 6, X 7, X 9, X 10, undef, undef, undef, undef, undef, undef, undef, undef], []⟩) [(0, 0, 0), (0, 0, 0), (0, 0, 0), (0, 0, 0), (0, 0, 0), (0, 0, 0), (0, 0, 0), (0, 0, 0), (0, 0, 0), (0, 0, 0), (0, 0, 0), (1, 12, 9), (3, 11, 9), (0, 0, 0)] (fun i => ([[], [], [], [], [], [], [], [], [], [], [], [.int .i64 0, .int .i64 0, .int .i64 0], [], []] : List (List Value)).getD i []) [.val (.agg #[.int .i64 f1, .int .i64 f2, .int .i64 f3]), .val (.agg #[.int .i64 e1, .int .i64 e2, .int .i64 e3]), .val (.agg #[.int .i64 u1, .int .i64 u2, .int .i64 u3]), .val (.agg #[.int .i64 g1, .int .i64 g2, .int .i64 g3]), .val (.agg #[.int .i64 e1, .int .i64 e2, .int .i64 e3]), .val (.agg #[.int .i64 t1, .int .i64 t2, .int .i64 t3]), .val (.agg #[.int .i64 n1, .int .i64 n2, .int .i64 n3]), .val (.tuple #[.agg #[.int .i64 i, .int .i64 j, .int .i64 k], .int .i64 (d : Int)]), .val (.tuple #[.agg #[.int .i64 i, .int .i64 j, .int .i64 k], .int .i64 (d : Int)]), .val (.agg #[.int .i64 i, .int .i64 j, .int .i64 k]), .val (.int .i64 (d : Int)), .none, .none, .val (.int .i64 (d : Int))] [[], [], [0, 1], [], [], [3, 4], [2, 5], [6], [7], [8], [8], [], [9, 11], [10]] [0, 1, 2, 3, 4, 5, 6, 7, 8, 9, 10, 13] [11] [12] [] (fun i => ([0, 0, 0, 0, 0, 0, 0, 0, 0, 0, 0, 23, 0, 0] : List TypeId).getD i 0) W4 (by kernel_rfl) (by kernel_rfl) (by kernel_rfl) (by kernel_rfl) (by kernel_rfl) ?dist ?olds ?op ?al ?st ?into ?fin (fun _ => undef) _ _ (by kernel_rfl) (of_decide_eq_true (by kernel_rfl)) (of_decide_eq_true (by kernel_rfl))
  case hn => rfl
  case dist => intro i hi j hj; simp at hi hj; try omega
  case olds => exact nofun
  case op =>
    repeat' first | exact Each.nil | refine Each.cons ?_ ?_
    all_goals intro X w7 H hb hD h
    · have hv := v1.below (show Keep [] _ _ from hb).nil
      have c0_ := hv.at 0 rfl
      have c1_ := hv.at 1 rfl
      have c2_ := hv.at 2 rfl
      refine tv rfl (by rfl) ?_ (by exact h _ w7 rfl (Below.refl _ _))
      go_simp <;> first | rfl | (simp only [IntWalk.i64_left]; rfl)
    · have hv := v0.below (show Keep [] _ _ from hb).nil
      have c0_ := hv.at 0 rfl
      have c1_ := hv.at 1 rfl
      have c2_ := hv.at 2 rfl
      refine tv rfl (by rfl) ?_ (by exact h _ w7 rfl (Below.refl _ _))
      go_simp <;> first | rfl | (simp only [IntWalk.i64_left]; rfl)
    · have e0_ : X 0 = _ := hD 0 (by decide) rfl
      have e1_ : X 1 = _ := hD 1 (by decide) rfl
      refine wpOp_call (i := 2) (f := 18) (args := #[.agg #[.int .i64 f1, .int .i64 f2, .int .i64 f3], .agg #[.int .i64 e1, .int .i64 e2, .int .i64 e3]]) 27 rfl rfl (by simp only [e0_, e1_]; rfl) (by simp only [e0_, e1_]; go_simp) ?_
      refine (sub_r f1 f2 f3 e1 e2 e3 _).mono ?_
      rintro e w8 ⟨rfl, hk⟩
      rw [hu1.out, hu2.out, hu3.out]
      exact ⟨_, rfl, h _ w8 rfl hk⟩
    · have hv := v2.below (show Keep [] _ _ from hb).nil
      have c0_ := hv.at 0 rfl
      have c1_ := hv.at 1 rfl
      have c2_ := hv.at 2 rfl
      refine tv rfl (by rfl) ?_ (by exact h _ w7 rfl (Below.refl _ _))
      go_simp <;> first | rfl | (simp only [IntWalk.i64_left]; rfl)
    · have hv := v0.below (show Keep [] _ _ from hb).nil
      have c0_ := hv.at 0 rfl
      have c1_ := hv.at 1 rfl
      have c2_ := hv.at 2 rfl
      refine tv rfl (by rfl) ?_ (by exact h _ w7 rfl (Below.refl _ _))
      go_simp <;> first | rfl | (simp only [IntWalk.i64_left]; rfl)
    · have e3_ : X 3 = _ := hD 3 (by decide) rfl
      have e4_ : X 4 = _ := hD 4 (by decide) rfl
      refine wpOp_call (i := 5) (f := 18) (args := #[.agg #[.int .i64 g1, .int .i64 g2, .int .i64 g3], .agg #[.int .i64 e1, .int .i64 e2, .int .i64 e3]]) 30 rfl rfl (by simp only [e3_, e4_]; rfl) (by simp only [e3_, e4_]; go_simp) ?_
      refine (sub_r g1 g2 g3 e1 e2 e3 _).mono ?_
      rintro e w8 ⟨rfl, hk⟩
      rw [hv1.out, hv2.out, hv3.out]
      exact ⟨_, rfl, h _ w8 rfl hk⟩
    · have e2_ : X 2 = _ := hD 2 (by decide) rfl
      have e5_ : X 5 = _ := hD 5 (by decide) rfl
      refine wpOp_call (i := 6) (f := 22) (args := #[.agg #[.int .i64 u1, .int .i64 u2, .int .i64 u3], .agg #[.int .i64 t1, .int .i64 t2, .int .i64 t3]]) 31 rfl rfl (by simp only [e2_, e5_]; rfl) (by simp only [e2_, e5_]; go_simp) ?_
      refine (cross_r u1 u2 u3 t1 t2 t3 _).mono ?_
      rintro e w8 ⟨rfl, hk⟩
      rw [hn1.out, hn2.out, hn3.out]
      exact ⟨_, rfl, h _ w8 rfl hk⟩
    · have e6_ : X 6 = _ := hD 6 (by decide) rfl
      refine wpOp_call (i := 7) (f := 25) (args := #[.agg #[.int .i64 n1, .int .i64 n2, .int .i64 n3]]) 32 rfl rfl (by simp only [e6_]; rfl) (by simp only [e6_]; go_simp) ?_
      refine (prim_r1 n1 n2 n3 hm1 hm2 hm3 _).mono ?_
      rintro e w8 ⟨rfl, hk⟩
      rw [hq1.out, hq2.out, hq3.out, hd.out]
      exact ⟨_, rfl, h _ w8 rfl hk⟩
    · have e7_ : X 7 = _ := hD 7 (by decide) rfl
      refine tv rfl (by simp only [e7_]; rfl) ?_ (by exact h _ w7 rfl (Below.refl _ _))
      simp only [e7_]; go_simp <;> first | rfl | (simp only [IntWalk.i64_left]; rfl)
    · have e8_ : X 8 = _ := hD 8 (by decide) rfl
      refine tv rfl (by simp only [e8_]; rfl) ?_ (by exact h _ w7 rfl (Below.refl _ _))
      simp only [e8_]; go_simp <;> first | rfl | (simp only [IntWalk.i64_left]; rfl)
    · have e8_ : X 8 = _ := hD 8 (by decide) rfl
      refine tv rfl (by simp only [e8_]; rfl) ?_ (by exact h _ w7 rfl (Below.refl _ _))
      simp only [e8_]; go_simp <;> first | rfl | (simp only [IntWalk.i64_left]; rfl)
    · have e10_ : X 10 = _ := hD 10 (by decide) rfl
      refine tv rfl (by simp only [e10_]; rfl) ?_ (by exact h _ w7 rfl (Below.refl _ _))
      simp only [e10_]; go_simp <;> first | rfl | (simp only [IntWalk.i64_left]; rfl)
  case al =>
    repeat' first | exact Each.nil | refine Each.cons ?_ ?_
    all_goals exact fun X w7 H h => wpOp_run rfl (by go_simp; exact h)
  case st =>
    repeat' first | exact Each.nil | refine Each.cons ?_ ?_
    all_goals intro X w7 H b hX hC hG h
    · replace hX : X 11 = .pointer (some ⟨b, 0, none⟩) := hX
      have e : X 9 = _ := hG
      have c0_ := hC.at 0 rfl
      have z0_ := hC.fr 0 (by decide)
      have c1_ := hC.at 1 rfl
      have z1_ := hC.fr 1 (by decide)
      have c2_ := hC.at 2 rfl
      have z2_ := hC.fr 2 (by decide)
      refine wpOp_run rfl ?_
      have h := h (by show _ = (vc (X 9)).length; rw [e]; rfl)
      simp only [hX] at h ⊢
      replace h : H _ (putC b w7 0 (vc (X 9))) := h
      simp only [e] at h ⊢
      go_simp
      exact h
  case into => exact Each.nil
  case fin =>
    intro X3_ W5 hI
    have hE : Keep [] W4 W5 := hI.keep
    have e9_ : X3_ 9 = _ := hI.fact 9 (by decide) rfl rfl
    have e13_ : X3_ 13 = _ := hI.fact 13 (by decide) rfl rfl
    obtain ⟨b4, e11_, lob4, v4⟩ := hI.box 11 (by decide) rfl (by decide)
    replace v4 : Var W5 b4 (vc (X3_ 9)) := v4
    rw [e9_] at v4
    replace v4 : Var W5 b4 [.int .i64 i, .int .i64 j, .int .i64 k] := v4
    have db3_b4 : b3 ≠ b4 := by have := v3.1; omega
    replace lob4 : w.heap.size ≤ b4 := Nat.le_trans hB.size lob4
    have v0 := v0.below hE.nil
    have v1 := v1.below hE.nil
    have v2 := v2.below hE.nil
    have v3 := v3.below hE.nil
    have hB := hB.trans (hE.nil.mono hB.size)
    simp only [e9_, e13_, e11_]
    clear e9_ e13_ e11_ hI hE
    go_wp2_with fail
    refine wp_region_dag (by kernel_rfl) ?_
    intro W6 hk
    have hs := hk
    have v0 := v0.below hs
    have v1 := v1.below hs
    have v2 := v2.below hs
    have v3 := v3.below hs
    have v4 := v4.below hs
    have hB := hB.trans (hs.mono hB.size)
    clear hs hk
    refine dagV (fun _ => trivial) 7 ?hn (fun X => ⟨#[.agg #[.int .i64 e1, .int .i64 e2, .int .i64 e3], .agg #[.int .i64 f1, .int .i64 f2, .int .i64 f3], .agg #[.int .i64 g1, .int .i64 g2, .int .i64 g3], .pointer (some ⟨b0, 0, none⟩), .pointer (some ⟨b1, 0, none⟩), .pointer (some ⟨b2, 0, none⟩), .pointer (some ⟨b3, 0, none⟩), X 6, .pointer (some ⟨b4, 0, none⟩), .int .i64 (d : Int), .agg #[.int .i64 e1, .int .i64 e2, .int .i64 e3], .bool true, .bool false, .bool false, .agg #[.int .i64 f1, .int .i64 f2, .int .i64 f3], .bool true, .bool false, .bool false, .bool false, .agg #[.int .i64 g1, .int .i64 g2, .int .i64 g3], .bool true, .bool false, .bool false, undef, X3_ 8, X3_ 0, X3_ 1, X3_ 2, X3_ 3, X3_ 4, X3_ 5, X3_ 6, X3_ 7, .agg #[.int .i64 i, .int .i64 j, .int .i64 k], X3_ 10, .int .i64 (d : Int), .bool false, undef, X 0, X 1, X 2, X 3, X 4], []⟩) [(0, 0, 0), (0, 0, 0), (0, 0, 0), (0, 0, 0), (0, 0, 0), (4, b3, 4), (0, 0, 0)] (fun i => ([[], [], [], [], [], [.int .i64 0, .int .i64 0, .int .i64 0, .int .i64 0], []] : List (List Value)).getD i []) [.val (.agg #[.int .i64 i, .int .i64 j, .int .i64 k]), .val (.agg #[.int .i64 i, .int .i64 j, .int .i64 k]), .val (.agg #[.int .i64 e1, .int .i64 e2, .int .i64 e3]), .val (.int .i64 (dt i j k e1 e2 e3)), .val (.agg #[.int .i64 i, .int .i64 j, .int .i64 k, .int .i64 (dt i j k e1 e2 e3)]), .none, .val (.bool true)] [[], [], [], [1, 2], [0, 3], [4], []] [0, 1, 2, 3, 4, 6] [] [] [5] (fun _ => 0) W6 (by kernel_rfl) (by kernel_rfl) (by kernel_rfl) (by kernel_rfl) (by kernel_rfl) ?dist ?olds ?op ?al ?st ?into ?fin (upd (fun _ => undef) 6 (.bool false)) _ _ (by kernel_rfl) (of_decide_eq_true (by kernel_rfl)) (of_decide_eq_true (by kernel_rfl))
    case hn => rfl
    case dist => intro i hi j hj; simp at hi hj; try omega
    case olds => intro i hi; obtain rfl := List.mem_singleton.1 hi; exact v3
    case op =>
      repeat' first | exact Each.nil | refine Each.cons ?_ ?_
      all_goals intro X w7 H hb hD h
      · have hv := (show Keep [b3] _ _ from hb).var v4 (by simp; first | omega | (intro h; exact absurd h (by first | assumption | (apply Ne.symm; assumption))))
        have c0_ := hv.at 0 rfl
        have c1_ := hv.at 1 rfl
        have c2_ := hv.at 2 rfl
        refine tv rfl (by rfl) ?_ (by exact h _ w7 rfl (Below.refl _ _))
        go_simp <;> first | rfl | (simp only [IntWalk.i64_left]; rfl)
      · have hv := (show Keep [b3] _ _ from hb).var v4 (by simp; first | omega | (intro h; exact absurd h (by first | assumption | (apply Ne.symm; assumption))))
        have c0_ := hv.at 0 rfl
        have c1_ := hv.at 1 rfl
        have c2_ := hv.at 2 rfl
        refine tv rfl (by rfl) ?_ (by exact h _ w7 rfl (Below.refl _ _))
        go_simp <;> first | rfl | (simp only [IntWalk.i64_left]; rfl)
      · have hv := (show Keep [b3] _ _ from hb).var v0 (by simp; first | omega | (intro h; exact absurd h (by first | assumption | (apply Ne.symm; assumption))))
        have c0_ := hv.at 0 rfl
        have c1_ := hv.at 1 rfl
        have c2_ := hv.at 2 rfl
        refine tv rfl (by rfl) ?_ (by exact h _ w7 rfl (Below.refl _ _))
        go_simp <;> first | rfl | (simp only [IntWalk.i64_left]; rfl)
      · have e1_ : X 1 = _ := hD 1 (by decide) rfl
        have e2_ : X 2 = _ := hD 2 (by decide) rfl
        refine wpOp_call (i := 3) (f := 20) (args := #[.agg #[.int .i64 i, .int .i64 j, .int .i64 k], .agg #[.int .i64 e1, .int .i64 e2, .int .i64 e3]]) 41 rfl rfl (by simp only [e1_, e2_]; rfl) (by simp only [e1_, e2_]; go_simp) ?_
        refine (dot_r i j k e1 e2 e3 _).mono ?_
        rintro e w8 ⟨rfl, hk⟩
        exact ⟨_, rfl, h _ w8 rfl hk⟩
      · have e0_ : X 0 = _ := hD 0 (by decide) rfl
        have e3_ : X 3 = _ := hD 3 (by decide) rfl
        refine tv rfl (by simp only [e0_, e3_]; rfl) ?_ (by exact h _ w7 rfl (Below.refl _ _))
        simp only [e0_, e3_]; go_simp <;> first | rfl | (simp only [IntWalk.i64_left]; rfl)
      · refine tv rfl (by rfl) ?_ (by exact h _ w7 rfl (Below.refl _ _))
        go_simp <;> first | rfl | (simp only [IntWalk.i64_left]; rfl)
    case al => exact Each.nil
    case st => exact Each.nil
    case into =>
      repeat' first | exact Each.nil | refine Each.cons ?_ ?_
      all_goals intro X w7 H hC hG h
      · have e : X 4 = _ := hG
        replace hC : Var w7 b3 [.int .i64 0, .int .i64 0, .int .i64 0, .int .i64 0] := hC
        have c0_ := hC.at 0 rfl
        have z0_ := hC.fr 0 (by simp)
        have c1_ := hC.at 1 rfl
        have z1_ := hC.fr 1 (by simp)
        have c2_ := hC.at 2 rfl
        have z2_ := hC.fr 2 (by simp)
        have c3_ := hC.at 3 rfl
        have z3_ := hC.fr 3 (by simp)
        refine wpOp_run rfl ?_
        have h := h (by show _ = (vc (X 4)).length; rw [e]; rfl)
        replace h : H _ (putC b3 w7 0 (vc (X 4))) := h
        generalize dt i j k e1 e2 e3 = u0_ at e
        simp only [e] at h ⊢
        go_simp
        exact h
    case fin =>
      intro X6_ W7 hI
      have hE : Keep [b3] W6 W7 := hI.keep
      have e4_ : X6_ 4 = _ := hI.fact 4 (by decide) rfl rfl
      have e6_ : X6_ 6 = _ := hI.fact 6 (by decide) rfl rfl
      have v0 := hE.var v0 (by simp; first | omega | (intro h; exact absurd h (by first | assumption | (apply Ne.symm; assumption))))
      have v1 := hE.var v1 (by simp; first | omega | (intro h; exact absurd h (by first | assumption | (apply Ne.symm; assumption))))
      have v2 := hE.var v2 (by simp; first | omega | (intro h; exact absurd h (by first | assumption | (apply Ne.symm; assumption))))
      replace v3 : Var W7 b3 (vc (X6_ 4)) := (hI.old 5 (by decide) rfl).2
      rw [e4_] at v3
      replace v3 : Var W7 b3 [.int .i64 i, .int .i64 j, .int .i64 k, .int .i64 (dt i j k e1 e2 e3)] := v3
      have v4 := hE.var v4 (by simp; first | omega | (intro h; exact absurd h (by first | assumption | (apply Ne.symm; assumption))))
      have hB := hB.trans (hE.low (B := w.heap.size) hB.size (by intro b hb; simp at hb; subst hb; assumption))
      simp only [e4_, e6_]
      clear e4_ e6_ hI hE
      have cb3_0 := v3.at 0 rfl
      have cb3_1 := v3.at 1 rfl
      have cb3_2 := v3.at 2 rfl
      have cb3_3 := v3.at 3 rfl
      go_wp2_with fail
      have hBs := hB.size
      exact bodyPost_ret (v := .tuple #[.agg #[.int .i64 i, .int .i64 j, .int .i64 k, .int .i64 (dt i j k e1 e2 e3)], .bool true]) (by simp [results, Try.results40, go_sem, cb3_0, cb3_1, cb3_2, cb3_3]) rfl ⟨rfl, by repeat (first | exact hB | refine Below.alloc ?_ (by first | omega | (simp; try omega)) _ | refine Below.setCell ?_ (by first | omega | (simp; try omega)) _)⟩

end Go.Proofs.Ytblnpelbklfloaa
