/- Several texts in one. -/
import Derived.Test.YtgenaicmjddjcaaGreatDoorLwA
namespace Go.Proofs.YtgenaicmjddjcaaGreatDoor
open Go.RowKit Go.Shelf

theorem RB.neg {k : Nat} {x : Rat} (h : RB k x) : RB k (-x) := ⟨by show (-x.num).natAbs < _; rw [Int.natAbs_neg]; exact h.1, h.2⟩
structure Small (x : Rat) : Prop where
 rb : RB 1 x
 f0 : -50 ≤ x.floor
 f1 : x.floor ≤ 50
 c0 : -50 ≤ x.ceil
 c1 : x.ceil ≤ 50
theorem small_of {n d : Int} (h1 : -50 < n) (h2 : n < 50) (h3 : 1 ≤ d) (h4 : d ≤ 30) : Small (Rat.divInt n d) := by
 have hd : d ≠ 0 := by omega
 have hb : RB 1 (Rat.divInt n d) := RB.divInt hd (Nat.lt_of_lt_of_le (m := 50) (by omega) (by decide)) (Nat.lt_of_lt_of_le (m := 31) (by omega) (by decide))
 obtain ⟨e1, -⟩ := rat_divInt n d hd
 have h5 := natAbs_ediv_le _ _ (ofG_ne (n := n) hd) (ofG_dvd_left n d)
 rw [← e1] at h5
 have h6 := rat_den_pos (Rat.divInt n d)
 obtain ⟨x, hx⟩ : ∃ x, Rat.divInt n d = x := ⟨_, rfl⟩
 rw [hx] at hb h5 h6 ⊢
 have m0 : x.num.natAbs < 50 := by omega
 refine ⟨hb, ?_, ?_, ?_, ?_⟩
 · rw [← rat_floor]; exact (Int.le_ediv_iff_mul_le h6).2 (by omega)
 · rw [← rat_floor]; exact Int.le_of_lt_add_one ((Int.ediv_lt_iff_lt_mul h6).2 (by omega))
 · rw [← rat_ceil]; have q : (-x.num) / (x.den : Int) < 51 := (Int.ediv_lt_iff_lt_mul h6).2 (by omega)
   omega
 · rw [← rat_ceil]; have q : -50 ≤ (-x.num) / (x.den : Int) := (Int.le_ediv_iff_mul_le h6).2 (by omega)
   omega
theorem intO_some {z : Int} (h0 : -9223372036854775808 ≤ z) (h1 : z ≤ 9223372036854775807) : intO (some z) = some z := if_pos ⟨h0, h1⟩
theorem Small.floor {x : Rat} (h : Small x) : floorO (some x) = some x.floor := by
 have := h.f0; have := h.f1
 show intO (some (x.num / (x.den : Int))) = _
 rw [rat_floor, intO_some (by omega) (by omega)]
theorem Small.ceil {x : Rat} (h : Small x) : ceilO (some x) = some x.ceil := by
 have := h.c0; have := h.c1
 show intO (some (-((-x.num) / (x.den : Int)))) = _
 rw [rat_ceil, intO_some (by omega) (by omega)]
theorem Small.neg {x : Rat} (h : Small x) : floorO (some (-x)) = some (-x.ceil) := by
 have := h.c0; have := h.c1
 have e : (-x).floor = -x.ceil := by rw [Rat.ceil_eq_neg_floor_neg, Int.neg_neg]
 show intO (some ((-x).num / ((-x).den : Int))) = _
 rw [rat_floor, e, intO_some (by omega) (by omega)]
end Go.Proofs.YtgenaicmjddjcaaGreatDoor

namespace Go.Proofs.YtgenaicmjddjcaaGreatDoor
open Go.RowKit Go.Shelf

theorem tmod_bd (n : Int) {m : Int} (hm : 0 < m) : -m < Int.tmod n m ∧ Int.tmod n m < m := by
 refine ⟨?_, Int.tmod_lt_of_pos n hm⟩
 by_cases h : n < 0
 · have := Int.tmod_lt_of_pos (-n) hm
   rw [Int.neg_tmod] at this; omega
 · have := Int.tmod_nonneg (a := n) m (by omega); omega
set_option maxRecDepth 100000 in
set_option maxHeartbeats 2000000 in
theorem mod30_r (n : Int) (w : World) :
 Calls Tryz.prog 50 #[.int .i64 n, .int .i64 30] w fun e w' => e = .returned (.int .i64 (n % 30)) ∧ w = w' := by
 obtain ⟨a3, a2⟩ := tmod_bd n (show (0 : Int) < 30 by decide)
 have e1 : Int.tmod (Int.tmod n 30 + 30) 30 = n % 30 := by
  have a1 := Int.tmod_add_mul_tdiv n 30
  rw [Int.tmod_eq_emod_of_nonneg (by omega)]
  omega
 obtain ⟨r, hr⟩ : ∃ r, Int.tmod n 30 = r := ⟨_, rfl⟩
 rw [hr] at e1 a2 a3
 obtain ⟨z, hz⟩ : ∃ z, n % 30 = z := ⟨_, rfl⟩
 rw [hz] at e1 ⊢
 have e2 : IntKind.i64.wrap (r + 30) = r + 30 := by simp only [IntKind.wrap, IntKind.bits, IntKind.signed]; simp; omega
 clear hz
 go_enter Tryz.func50, Tryz.ntmps50
 go_wp2
 go_ret
 exact ⟨rfl, rfl⟩
def SmallC (w : World) (e : Ending) (w' : World) : Prop := ∃ x : Rat, Small x ∧ RatVC w (some x) e w'
set_option maxRecDepth 100000 in
set_option maxHeartbeats 4000000 in
theorem made_zero (ao : Option Addr) (cap : Nat) (w : World) :
 Calls Tryz.prog 18 #[.slice ao 0 cap] w (SmallC w) := by
 go_enter Tryz.func18, Tryz.ntmps18
 go_wp2_with fail
 refine (rfracC_yes 0 1 (by decide) (by decide) (by decide) (by decide) _).mono ?_
 rintro e w9 ⟨s8, a8, n8, c8, s9, a9, n9, c9, rfl, P1, P2, k8, k9, hk, l8, l9⟩
 have c0 : w9.cell? ⟨w.heap.size, 0, none⟩ = some (.bool false) := (hk.cell (p := ⟨w.heap.size, 0, none⟩) (by simp <;> omega)).trans (by simp [go_sem])
 have c1 : w9.cell? ⟨w.heap.size, 1, none⟩ = some (.slice none 0 0) := (hk.cell (p := ⟨w.heap.size, 1, none⟩) (by simp <;> omega)).trans (by simp [go_sem])
 have c2 : w9.cell? ⟨w.heap.size, 2, none⟩ = some (.bool false) := (hk.cell (p := ⟨w.heap.size, 2, none⟩) (by simp <;> omega)).trans (by simp [go_sem])
 have c3 : w9.cell? ⟨w.heap.size, 3, none⟩ = some (.slice none 0 0) := (hk.cell (p := ⟨w.heap.size, 3, none⟩) (by simp <;> omega)).trans (by simp [go_sem])
 have z0 : w9.frozen? ⟨w.heap.size, 0, none⟩ = false := (hk.frozen (p := ⟨w.heap.size, 0, none⟩) (by simp <;> omega)).trans (by simp [go_sem])
 have z1 : w9.frozen? ⟨w.heap.size, 1, none⟩ = false := (hk.frozen (p := ⟨w.heap.size, 1, none⟩) (by simp <;> omega)).trans (by simp [go_sem])
 have z2 : w9.frozen? ⟨w.heap.size, 2, none⟩ = false := (hk.frozen (p := ⟨w.heap.size, 2, none⟩) (by simp <;> omega)).trans (by simp [go_sem])
 have z3 : w9.frozen? ⟨w.heap.size, 3, none⟩ = false := (hk.frozen (p := ⟨w.heap.size, 3, none⟩) (by simp <;> omega)).trans (by simp [go_sem])
 have qC : Quad w9 w.heap.size (.bool false) (.slice none 0 0) (.bool false) (.slice none 0 0) := ⟨⟨c0, c1, c2, c3⟩, z0, z1, z2, z3⟩
 have hB : Below w.heap.size w w9 := by
  refine Below.trans ?_ (hk.mono ?_)
  · repeat (first | exact Below.refl _ _ | refine Below.setCell ?_ (by simp <;> omega) _ | refine Below.alloc ?_ (by simp <;> omega) _)
  · simp <;> omega
 clear c0 c1 c2 c3 z0 z1 z2 z3 hk
 obtain ⟨Wz, hWz⟩ : ∃ W, (((w9.setCell ⟨w.heap.size, 0, none⟩ (.bool s8)).setCell ⟨w.heap.size, 1, none⟩ (.slice a8 n8 c8)).setCell ⟨w.heap.size, 2, none⟩ (.bool s9)).setCell ⟨w.heap.size, 3, none⟩ (.slice a9 n9 c9) = W := ⟨_, rfl⟩
 obtain ⟨hQ, hT⟩ := qC.set _ _ _ _ hWz
 have hBz : Below w.heap.size w Wz := by rw [← hWz]; exact below_set4 hB (by omega) _ _ _ _
 have P1 := P1.quad qC.four hT
 have P2 := P2.quad qC.four hT
 have K := hide (And.intro hQ (And.intro P1 (And.intro P2 hBz)))
 have HWz := hide hWz
 clear hQ hBz hWz hT P1 P2
 obtain ⟨⟨x90, x91, x92, x93⟩, z90, z91, z92, z93⟩ := id qC
 go_wp2
 obtain ⟨⟨⟨q0, q1, q2, q3⟩, -, -, -, -⟩, P1, P2, hBB⟩ := K.out
 rw [HWz.out]
 exact bodyPost_ret (v := .agg #[.bool s8, .slice a8 n8 c8, .bool s9, .slice a9 n9 c9]) (by simp [results, Tryz.results18, go_sem, q0, q1, q2, q3]) rfl ⟨_, small_of (by decide) (by decide) (by decide) (by decide), _, _, _, _, _, _, _, _, rfl, P1, P2, k8, k9, hBB, l8, l9⟩
set_option maxRecDepth 100000 in
set_option maxHeartbeats 4000000 in
theorem made_one (b off cap : Nat) (x : Int) (w : World) (hx : w.cell? ⟨b, off, none⟩ = some (.int .i64 x)) :
 Calls Tryz.prog 18 #[.slice (some ⟨b, off, none⟩) 1 cap] w (SmallC w) := by
 obtain ⟨r0, r1⟩ := tmod_bd x (show (0 : Int) < 50 by decide)
 obtain ⟨n, hn⟩ : ∃ n, Int.tmod x 50 = n := ⟨_, rfl⟩
 rw [hn] at r0 r1
 have hlt : b < w.heap.size := lt_of_cell hx
 have hne : ¬ (b = w.heap.size) := by omega
 have hne2 : ¬ (b = w.heap.size + 1) := by omega
 go_enter Tryz.func18, Tryz.ntmps18
 go_wp2_with fail
 refine (rfracC_yes n 1 (by omega) (by omega) (by decide) (by decide) _).mono ?_
 rintro e w9 ⟨s8, a8, n8, c8, s9, a9, n9, c9, rfl, P1, P2, k8, k9, hk, l8, l9⟩
 clear hn hne hne2 hx
 have c0 : w9.cell? ⟨w.heap.size, 0, none⟩ = some (.bool false) := (hk.cell (p := ⟨w.heap.size, 0, none⟩) (by simp <;> omega)).trans (by simp [go_sem])
 have c1 : w9.cell? ⟨w.heap.size, 1, none⟩ = some (.slice none 0 0) := (hk.cell (p := ⟨w.heap.size, 1, none⟩) (by simp <;> omega)).trans (by simp [go_sem])
 have c2 : w9.cell? ⟨w.heap.size, 2, none⟩ = some (.bool false) := (hk.cell (p := ⟨w.heap.size, 2, none⟩) (by simp <;> omega)).trans (by simp [go_sem])
 have c3 : w9.cell? ⟨w.heap.size, 3, none⟩ = some (.slice none 0 0) := (hk.cell (p := ⟨w.heap.size, 3, none⟩) (by simp <;> omega)).trans (by simp [go_sem])
 have z0 : w9.frozen? ⟨w.heap.size, 0, none⟩ = false := (hk.frozen (p := ⟨w.heap.size, 0, none⟩) (by simp <;> omega)).trans (by simp [go_sem])
 have z1 : w9.frozen? ⟨w.heap.size, 1, none⟩ = false := (hk.frozen (p := ⟨w.heap.size, 1, none⟩) (by simp <;> omega)).trans (by simp [go_sem])
 have z2 : w9.frozen? ⟨w.heap.size, 2, none⟩ = false := (hk.frozen (p := ⟨w.heap.size, 2, none⟩) (by simp <;> omega)).trans (by simp [go_sem])
 have z3 : w9.frozen? ⟨w.heap.size, 3, none⟩ = false := (hk.frozen (p := ⟨w.heap.size, 3, none⟩) (by simp <;> omega)).trans (by simp [go_sem])
 have qC : Quad w9 w.heap.size (.bool false) (.slice none 0 0) (.bool false) (.slice none 0 0) := ⟨⟨c0, c1, c2, c3⟩, z0, z1, z2, z3⟩
 have hB : Below w.heap.size w w9 := by
  refine Below.trans ?_ (hk.mono ?_)
  · repeat (first | exact Below.refl _ _ | refine Below.setCell ?_ (by simp <;> omega) _ | refine Below.alloc ?_ (by simp <;> omega) _)
  · simp <;> omega
 clear c0 c1 c2 c3 z0 z1 z2 z3 hk
 obtain ⟨Wz, hWz⟩ : ∃ W, (((w9.setCell ⟨w.heap.size, 0, none⟩ (.bool s8)).setCell ⟨w.heap.size, 1, none⟩ (.slice a8 n8 c8)).setCell ⟨w.heap.size, 2, none⟩ (.bool s9)).setCell ⟨w.heap.size, 3, none⟩ (.slice a9 n9 c9) = W := ⟨_, rfl⟩
 obtain ⟨hQ, hT⟩ := qC.set _ _ _ _ hWz
 have hBz : Below w.heap.size w Wz := by rw [← hWz]; exact below_set4 hB (by omega) _ _ _ _
 have P1 := P1.quad qC.four hT
 have P2 := P2.quad qC.four hT
 have K := hide (And.intro hQ (And.intro P1 (And.intro P2 hBz)))
 have HWz := hide hWz
 clear hQ hBz hWz hT P1 P2
 obtain ⟨⟨x90, x91, x92, x93⟩, z90, z91, z92, z93⟩ := id qC
 go_wp2
 obtain ⟨⟨⟨q0, q1, q2, q3⟩, -, -, -, -⟩, P1, P2, hBB⟩ := K.out
 rw [HWz.out]
 exact bodyPost_ret (v := .agg #[.bool s8, .slice a8 n8 c8, .bool s9, .slice a9 n9 c9]) (by simp [results, Tryz.results18, go_sem, q0, q1, q2, q3]) rfl ⟨_, small_of r0 r1 (by decide) (by decide), _, _, _, _, _, _, _, _, rfl, P1, P2, k8, k9, hBB, l8, l9⟩
set_option maxRecDepth 100000 in
set_option maxHeartbeats 4000000 in
theorem made_two (b off cap : Nat) (x y : Int) (w : World) (hx : w.cell? ⟨b, off, none⟩ = some (.int .i64 x)) (hy : w.cell? ⟨b, off + 1, none⟩ = some (.int .i64 y)) :
 Calls Tryz.prog 18 #[.slice (some ⟨b, off, none⟩) 2 cap] w (SmallC w) := by
 obtain ⟨r0, r1⟩ := tmod_bd x (show (0 : Int) < 50 by decide)
 obtain ⟨n, hn⟩ : ∃ n, Int.tmod x 50 = n := ⟨_, rfl⟩
 rw [hn] at r0 r1
 have HM := hide (fun W => mod30_r y W)
 have q0 : 0 ≤ y % 30 := by omega
 have q1 : y % 30 < 30 := by omega
 obtain ⟨m, hm⟩ : ∃ m, y % 30 = m := ⟨_, rfl⟩
 rw [hm] at HM q0 q1
 have hlt : b < w.heap.size := lt_of_cell hx
 have hne : ¬ (b = w.heap.size) := by omega
 have hne2 : ¬ (b = w.heap.size + 1) := by omega
 clear hm
 go_enter Tryz.func18, Tryz.ntmps18
 go_wp2_with fail
 refine (HM.out _).mono ?_
 rintro e w5 ⟨rfl, rfl⟩
 go_wp2_with fail
 refine (rfracC_yes n (1 + m) (by omega) (by omega) (by omega) (by omega) _).mono ?_
 rintro e w9 ⟨s8, a8, n8, c8, s9, a9, n9, c9, rfl, P1, P2, k8, k9, hk, l8, l9⟩
 clear hn hne hne2 hx hy HM
 have c0 : w9.cell? ⟨w.heap.size, 0, none⟩ = some (.bool false) := (hk.cell (p := ⟨w.heap.size, 0, none⟩) (by simp <;> omega)).trans (by simp [go_sem])
 have c1 : w9.cell? ⟨w.heap.size, 1, none⟩ = some (.slice none 0 0) := (hk.cell (p := ⟨w.heap.size, 1, none⟩) (by simp <;> omega)).trans (by simp [go_sem])
 have c2 : w9.cell? ⟨w.heap.size, 2, none⟩ = some (.bool false) := (hk.cell (p := ⟨w.heap.size, 2, none⟩) (by simp <;> omega)).trans (by simp [go_sem])
 have c3 : w9.cell? ⟨w.heap.size, 3, none⟩ = some (.slice none 0 0) := (hk.cell (p := ⟨w.heap.size, 3, none⟩) (by simp <;> omega)).trans (by simp [go_sem])
 have z0 : w9.frozen? ⟨w.heap.size, 0, none⟩ = false := (hk.frozen (p := ⟨w.heap.size, 0, none⟩) (by simp <;> omega)).trans (by simp [go_sem])
 have z1 : w9.frozen? ⟨w.heap.size, 1, none⟩ = false := (hk.frozen (p := ⟨w.heap.size, 1, none⟩) (by simp <;> omega)).trans (by simp [go_sem])
 have z2 : w9.frozen? ⟨w.heap.size, 2, none⟩ = false := (hk.frozen (p := ⟨w.heap.size, 2, none⟩) (by simp <;> omega)).trans (by simp [go_sem])
 have z3 : w9.frozen? ⟨w.heap.size, 3, none⟩ = false := (hk.frozen (p := ⟨w.heap.size, 3, none⟩) (by simp <;> omega)).trans (by simp [go_sem])
 have qC : Quad w9 w.heap.size (.bool false) (.slice none 0 0) (.bool false) (.slice none 0 0) := ⟨⟨c0, c1, c2, c3⟩, z0, z1, z2, z3⟩
 have hB : Below w.heap.size w w9 := by
  refine Below.trans ?_ (hk.mono ?_)
  · repeat (first | exact Below.refl _ _ | refine Below.setCell ?_ (by simp <;> omega) _ | refine Below.alloc ?_ (by simp <;> omega) _)
  · simp <;> omega
 clear c0 c1 c2 c3 z0 z1 z2 z3 hk
 obtain ⟨Wz, hWz⟩ : ∃ W, (((w9.setCell ⟨w.heap.size, 0, none⟩ (.bool s8)).setCell ⟨w.heap.size, 1, none⟩ (.slice a8 n8 c8)).setCell ⟨w.heap.size, 2, none⟩ (.bool s9)).setCell ⟨w.heap.size, 3, none⟩ (.slice a9 n9 c9) = W := ⟨_, rfl⟩
 obtain ⟨hQ, hT⟩ := qC.set _ _ _ _ hWz
 have hBz : Below w.heap.size w Wz := by rw [← hWz]; exact below_set4 hB (by omega) _ _ _ _
 have P1 := P1.quad qC.four hT
 have P2 := P2.quad qC.four hT
 have K := hide (And.intro hQ (And.intro P1 (And.intro P2 hBz)))
 have HWz := hide hWz
 clear hQ hBz hWz hT P1 P2
 obtain ⟨⟨x90, x91, x92, x93⟩, z90, z91, z92, z93⟩ := id qC
 go_wp2
 obtain ⟨⟨⟨q0, q1, q2, q3⟩, -, -, -, -⟩, P1, P2, hBB⟩ := K.out
 rw [HWz.out]
 exact bodyPost_ret (v := .agg #[.bool s8, .slice a8 n8 c8, .bool s9, .slice a9 n9 c9]) (by simp [results, Tryz.results18, go_sem, q0, q1, q2, q3]) rfl ⟨_, small_of r0 r1 (by omega) (by omega), _, _, _, _, _, _, _, _, rfl, P1, P2, k8, k9, hBB, l8, l9⟩
theorem made_smallC (ao : Option Addr) (L cap : Nat) (g : Nat → Int) (h2 : L ≤ 2) (w : World) (hl : Ints w ao L g) :
 Calls Tryz.prog 18 #[.slice ao L cap] w (SmallC w) := by
 match L, h2 with
 | 0, _ => exact made_zero ao cap w
 | 1, _ =>
   obtain ⟨b, off, rfl, hc⟩ := hl.resolve_left (by decide)
   exact made_one b off cap (g 0) w (hc 0 (by decide))
 | 2, _ =>
   obtain ⟨b, off, rfl, hc⟩ := hl.resolve_left (by decide)
   exact made_two b off cap (g 0) (g 1) w (hc 0 (by decide)) (hc 1 (by decide))
end Go.Proofs.YtgenaicmjddjcaaGreatDoor

