/- The law PlanePrims is true. -/
import Derived.Test.YtcgdedcgncjplaaVSan
namespace Go.Proofs.Ytcgdedcgncjplaa
open Go.RowKit

theorem i64_tmod (x m : Int) (h1 : 2 ≤ m) (h2 : m ≤ 13) : I64 (x.tmod m) := by
  have h3 := Int.natAbs_tmod x m
  have h4 := Nat.mod_lt x.natAbs (show m.natAbs > 0 by omega)
  unfold I64
  omega
theorem not_all {x y z : Int} (h : g3 x y z = 1) (m : Int) (hm : 2 ≤ m) : x.tmod m = 0 → y.tmod m = 0 → z.tmod m = 0 → False := fun a b c => by
  obtain ⟨k, rfl⟩ := Int.eq_ofNat_of_zero_le (show 0 ≤ m by omega)
  exact g3_none h (d := k) (by omega) (Int.dvd_of_tmod_eq_zero a) (Int.dvd_of_tmod_eq_zero b) (Int.dvd_of_tmod_eq_zero c)
/-- without the least int it is the greatest divisor -/
theorem dv3_g3 {x y z : Int} (hx : x ≠ -9223372036854775808) (hy : y ≠ -9223372036854775808) (hz : z ≠ -9223372036854775808) : dv3 x y z = g3 x y z := by
  unfold dv3 dvs g3
  rw [if_neg (by simp; exact ⟨hx, hy, hz⟩)]
  simp [List.foldl]

set_option maxRecDepth 100000 in
set_option maxHeartbeats 4000000 in
theorem prims_0 (x y z : Int) (n : Nat) (hn : n < 65536) (f : Int) (hf : 1 + (n : Int) % 1000 = f) (hp0 : x.tmod 1099511627776 = 0) (hq0 : y.tmod 1099511627776 = 0) (hr0 : z.tmod 1099511627776 = 0) (w : World) : Calls Try.prog 7 #[V x y z, .int .u16 (n : Int)] w (Gives w (.bool true)) := by
  unfold V
  go_enter Try.func7, Try.ntmps7
  have hB := Below.refl w.heap.size w
  have hn1 : (n : Int) < 65536 := by omega
  go_wp2_with fail
  refine (sanity_true _).mono ?_
  rintro e W1 ⟨rfl, hk⟩
  have hs : Below w.heap.size w W1 := Below.trans (by repeat (first | exact Below.refl _ _ | refine Below.alloc ?_ (by first | omega | (simp; try omega)) _ | refine Below.setCell ?_ (by first | omega | (simp; try omega)) _)) (hk.mono (by first | omega | (simp; try omega)))
  have v0 : Var W1 (w.heap.size) [.int .i64 x, .int .i64 y, .int .i64 z] := Var.low ⟨by first | omega | (simp; try omega), by simp [Cel, go_sem]⟩ hk (by first | omega | (simp; try omega))
  obtain ⟨b0, hb0⟩ : ∃ b, w.heap.size = b := ⟨_, rfl⟩
  have lob0 : w.heap.size ≤ b0 := by have := hB.size; omega
  rw [hb0] at v0
  try rw [hb0]
  have hB := hB.trans (hs.mono hB.size)
  clear hb0 hs hk
  have cb0_0 := v0.at 0 rfl
  have cb0_1 := v0.at 1 rfl
  have cb0_2 := v0.at 2 rfl
  go_wp2_with fail
  refine (vec_l 0 0 0 _).mono ?_
  rintro e W2 ⟨rfl, hk⟩
  try simp only [V]
  have hs := hk
  have v0 := v0.below hs
  have hB := hB.trans (hs.mono hB.size)
  clear cb0_0 cb0_1 cb0_2 hs hk
  have cb0_0 := v0.at 0 rfl
  have zb0_0 := v0.fr 0 (by simp)
  have cb0_1 := v0.at 1 rfl
  have zb0_1 := v0.fr 1 (by simp)
  have cb0_2 := v0.at 2 rfl
  have zb0_2 := v0.fr 2 (by simp)
  go_wp2_with fail
  refine (prim_0 0 0 0 ⟨by decide, by decide⟩ ⟨by decide, by decide⟩ ⟨by decide, by decide⟩ (hideV (by kernel_rfl)) _).mono ?_
  rintro e W3 ⟨rfl, hk⟩
  try simp only [V]
  have lb0 := v0.1
  have v0 : Var W3 b0 [.int .i64 0, .int .i64 0, .int .i64 0] := Var.low ⟨by first | omega | (simp; try omega), by simp [Cel, go_sem, cb0_0, cb0_1, cb0_2, zb0_0, zb0_1, zb0_2]⟩ hk (by first | omega | (simp; try omega))
  have hB : Below w.heap.size w W3 := Below.trans (by repeat (first | exact hB | refine Below.alloc ?_ (by first | omega | (simp; try omega)) _ | refine Below.setCell ?_ (by first | omega | (simp; try omega)) _)) (hk.mono (by have := hB.size; first | omega | (simp; try omega)))
  clear cb0_0 cb0_1 cb0_2 zb0_0 zb0_1 zb0_2 lb0 hk
  have cb0_0 := v0.at 0 rfl
  have ab0_0_1 : ∀ o0, (W3.alloc o0).cell? ⟨b0, 0, none⟩ = some (.int .i64 0) := fun o0 => (v0.allocs1 o0).at 0 rfl
  have cb0_1 := v0.at 1 rfl
  have ab0_1_1 : ∀ o0, (W3.alloc o0).cell? ⟨b0, 1, none⟩ = some (.int .i64 0) := fun o0 => (v0.allocs1 o0).at 1 rfl
  have cb0_2 := v0.at 2 rfl
  have ab0_2_1 : ∀ o0, (W3.alloc o0).cell? ⟨b0, 2, none⟩ = some (.int .i64 0) := fun o0 => (v0.allocs1 o0).at 2 rfl
  go_wp2_with fail
  have hBs := hB.size
  go_ret
  exact ⟨rfl, by repeat (first | exact hB | refine Below.alloc ?_ (by first | omega | (simp; try omega)) _ | refine Below.setCell ?_ (by first | omega | (simp; try omega)) _)⟩


set_option maxRecDepth 100000 in
set_option maxHeartbeats 8000000 in
theorem prims_go (x y z : Int) (n : Nat) (hn : n < 65536) (f : Int) (hf : 1 + (n : Int) % 1000 = f) (p q r P1 P2 P3 u1 u2 u3 G : Int) (g : Nat) (hp0 : x.tmod 1099511627776 = p) (hq0 : y.tmod 1099511627776 = q) (hr0 : z.tmod 1099511627776 = r) (hp : Hid (I64 p)) (hq : Hid (I64 q)) (hr : Hid (I64 r))
    (hu1 : Hid (p.tdiv (dv3 p q r : Int) = u1)) (hu2 : Hid (q.tdiv (dv3 p q r : Int) = u2)) (hu3 : Hid (r.tdiv (dv3 p q r : Int) = u3)) (hg : Hid (dv3 p q r = g)) (hne : ¬ p = 0) (hg1 : decide ((g : Int) < 1) = false)
    (hP1 : Hid (wrap64 (p * f) = P1)) (hP2 : Hid (wrap64 (q * f) = P2)) (hP3 : Hid (wrap64 (r * f) = P3)) (i1 : Hid (I64 P1)) (i2 : Hid (I64 P2)) (i3 : Hid (I64 P3))
    (ht1 : Hid (P1.tdiv (dv3 P1 P2 P3 : Int) = u1)) (ht2 : Hid (P2.tdiv (dv3 P1 P2 P3 : Int) = u2)) (ht3 : Hid (P3.tdiv (dv3 P1 P2 P3 : Int) = u3)) (ht4 : Hid ((dv3 P1 P2 P3 : Int) = G)) (hG : Hid (wrap64 ((g : Int) * f) = G))
    (he1 : Hid (wrap64 (u1 * (g : Int)) = p)) (he2 : Hid (wrap64 (u2 * (g : Int)) = q)) (he3 : Hid (wrap64 (u3 * (g : Int)) = r))
    (j1 : Hid (I64 u1)) (j2 : Hid (I64 u2)) (j3 : Hid (I64 u3)) (hone : Hid (g3 u1 u2 u3 = 1)) (hy1 : Hid (u1.tdiv (dv3 u1 u2 u3 : Int) = u1)) (hy2 : Hid (u2.tdiv (dv3 u1 u2 u3 : Int) = u2)) (hy3 : Hid (u3.tdiv (dv3 u1 u2 u3 : Int) = u3)) (hy4 : Hid ((dv3 u1 u2 u3 : Int) = 1)) (w : World) : Calls Try.prog 7 #[V x y z, .int .u16 (n : Int)] w (Gives w (.bool true)) := by
  unfold V
  go_enter Try.func7, Try.ntmps7
  have hB := Below.refl w.heap.size w
  have hn1 : (n : Int) < 65536 := by omega
  go_wp2_with fail
  refine (sanity_true _).mono ?_
  rintro e W1 ⟨rfl, hk⟩
  have hs : Below w.heap.size w W1 := Below.trans (by repeat (first | exact Below.refl _ _ | refine Below.alloc ?_ (by first | omega | (simp; try omega)) _ | refine Below.setCell ?_ (by first | omega | (simp; try omega)) _)) (hk.mono (by first | omega | (simp; try omega)))
  have v0 : Var W1 (w.heap.size) [.int .i64 x, .int .i64 y, .int .i64 z] := Var.low ⟨by first | omega | (simp; try omega), by simp [Cel, go_sem]⟩ hk (by first | omega | (simp; try omega))
  obtain ⟨b0, hb0⟩ : ∃ b, w.heap.size = b := ⟨_, rfl⟩
  have lob0 : w.heap.size ≤ b0 := by have := hB.size; omega
  rw [hb0] at v0
  try rw [hb0]
  have hB := hB.trans (hs.mono hB.size)
  clear hb0 hs hk
  have cb0_0 := v0.at 0 rfl
  have cb0_1 := v0.at 1 rfl
  have cb0_2 := v0.at 2 rfl
  go_wp2_with fail
  refine (vec_l p q r _).mono ?_
  rintro e W2 ⟨rfl, hk⟩
  try simp only [V]
  have hs := hk
  have v0 := v0.below hs
  have hB := hB.trans (hs.mono hB.size)
  clear cb0_0 cb0_1 cb0_2 hs hk
  clear hn1 hf hp0 hq0 hr0 hn
  have cb0_0 := v0.at 0 rfl
  have zb0_0 := v0.fr 0 (by simp)
  have cb0_1 := v0.at 1 rfl
  have zb0_1 := v0.fr 1 (by simp)
  have cb0_2 := v0.at 2 rfl
  have zb0_2 := v0.fr 2 (by simp)
  go_wp2_with fail
  refine (prim_p p q r hp.out hq.out hr.out _).mono ?_
  rintro e W3 ⟨rfl, hk⟩
  try rw [hu1.out]
  try rw [hu2.out]
  rw [hu3.out, hg.out]
  try simp only [V]
  have lb0 := v0.1
  have v0 : Var W3 b0 [.int .i64 p, .int .i64 q, .int .i64 r] := Var.low ⟨by first | omega | (simp; try omega), by simp [Cel, go_sem, cb0_0, cb0_1, cb0_2, zb0_0, zb0_1, zb0_2]⟩ hk (by first | omega | (simp; try omega))
  have hB : Below w.heap.size w W3 := Below.trans (by repeat (first | exact hB | refine Below.alloc ?_ (by first | omega | (simp; try omega)) _ | refine Below.setCell ?_ (by first | omega | (simp; try omega)) _)) (hk.mono (by have := hB.size; first | omega | (simp; try omega)))
  clear cb0_0 cb0_1 cb0_2 zb0_0 zb0_1 zb0_2 lb0 hk
  have cb0_0 := v0.at 0 rfl
  have ab0_0_1 : ∀ o0, (W3.alloc o0).cell? ⟨b0, 0, none⟩ = some (.int .i64 p) := fun o0 => (v0.allocs1 o0).at 0 rfl
  have cb0_1 := v0.at 1 rfl
  have ab0_1_1 : ∀ o0, (W3.alloc o0).cell? ⟨b0, 1, none⟩ = some (.int .i64 q) := fun o0 => (v0.allocs1 o0).at 1 rfl
  have cb0_2 := v0.at 2 rfl
  have ab0_2_1 : ∀ o0, (W3.alloc o0).cell? ⟨b0, 2, none⟩ = some (.int .i64 r) := fun o0 => (v0.allocs1 o0).at 2 rfl
  go_wp2_with fail
  refine (vec_l (wrap64 (p * f)) (wrap64 (q * f)) (wrap64 (r * f)) _).mono ?_
  rintro e W4 ⟨rfl, hk⟩
  try rw [hP1.out]
  try rw [hP2.out]
  try rw [hP3.out]
  try simp only [V]
  have hs : Below W3.heap.size W3 W4 := Below.trans (by repeat (first | exact Below.refl _ _ | refine Below.alloc ?_ (by first | omega | (simp; try omega)) _ | refine Below.setCell ?_ (by first | omega | (simp; try omega)) _)) (hk.mono (by first | omega | (simp; try omega)))
  have v0 := v0.below hs
  have v1 : Var W4 (W3.heap.size) [.int .i64 u1, .int .i64 u2, .int .i64 u3] := Var.low ⟨by first | omega | (simp; try omega), by simp [Cel, go_sem]⟩ hk (by first | omega | (simp; try omega))
  obtain ⟨b1, hb1⟩ : ∃ b, W3.heap.size = b := ⟨_, rfl⟩
  have lob1 : w.heap.size ≤ b1 := by have := hB.size; omega
  rw [hb1] at v1
  try rw [hb1]
  have hB := hB.trans (hs.mono hB.size)
  clear cb0_0 cb0_1 cb0_2 hb1 hs hk ab0_0_1 ab0_1_1 ab0_2_1
  go_wp2_with fail
  refine (prim_p P1 P2 P3 i1.out i2.out i3.out _).mono ?_
  rintro e W5 ⟨rfl, hk⟩
  try rw [ht1.out]
  try rw [ht2.out]
  rw [ht3.out, ht4.out]
  try simp only [V]
  have hs := hk
  have v0 := v0.below hs
  have v1 := v1.below hs
  have hB := hB.trans (hs.mono hB.size)
  clear hs hk
  have hG := hG.out
  have he1 := he1.out
  have he2 := he2.out
  have he3 := he3.out
  go_wp2_with fail
  refine wp_region_dag (by kernel_rfl) ?_
  intro W6 hk
  have hs : Below W5.heap.size W5 W6 := Below.trans (by repeat (first | exact Below.refl _ _ | refine Below.alloc ?_ (by first | omega | (simp; try omega)) _ | refine Below.setCell ?_ (by first | omega | (simp; try omega)) _)) (hk.mono (by first | omega | (simp; try omega)))
  have v0 := v0.below hs
  have v1 := v1.below hs
  have v2 : Var W6 (W5.heap.size) [.int .i64 u1, .int .i64 u2, .int .i64 u3] := Var.low ⟨by first | omega | (simp; try omega), by simp [Cel, go_sem]⟩ hk (by first | omega | (simp; try omega))
  obtain ⟨b2, hb2⟩ : ∃ b, W5.heap.size = b := ⟨_, rfl⟩
  have lob2 : w.heap.size ≤ b2 := by have := hB.size; omega
  rw [hb2] at v2
  try rw [hb2]
  have hB := hB.trans (hs.mono hB.size)
  clear hb2 hs hk
  refine dagV (fun _ => trivial) 31 ?hn (fun X => ⟨#[.agg #[.int .i64 x, .int .i64 y, .int .i64 z], .int .u16 (n : Int), .pointer (some ⟨b0, 0, none⟩), undef, .bool false, .bool true, .int .i64 f, .pointer (some ⟨b1, 0, none⟩), .int .i64 (g : Int), .pointer (some ⟨b2, 0, none⟩), .int .i64 G, undef, undef, .bool true, .int .u16 (n : Int), .int .i64 (n : Int), .int .i64 ((n : Int) % 1000), .int .i64 f, .pointer (some ⟨b0, 0, none⟩), .int .i64 x, .int .i64 p, .pointer (some ⟨b0, 1, none⟩), .int .i64 y, .int .i64 q, .pointer (some ⟨b0, 2, none⟩), .int .i64 z, .int .i64 r, .agg #[.int .i64 p, .int .i64 q, .int .i64 r], .tuple #[.agg #[.int .i64 u1, .int .i64 u2, .int .i64 u3], .int .i64 (g : Int)], .agg #[.int .i64 p, .int .i64 q, .int .i64 r], .tuple #[.agg #[.int .i64 u1, .int .i64 u2, .int .i64 u3], .int .i64 (g : Int)], .agg #[.int .i64 u1, .int .i64 u2, .int .i64 u3], .int .i64 (g : Int), .agg #[.int .i64 p, .int .i64 q, .int .i64 r], .agg #[.int .i64 0, .int .i64 0, .int .i64 0], .bool false, undef, undef, undef, undef, undef, undef, undef, undef, undef, undef, .tuple #[.agg #[.int .i64 u1, .int .i64 u2, .int .i64 u3], .int .i64 G], .pointer (some ⟨b0, 0, none⟩), .int .i64 p, .int .i64 f, .int .i64 P1, .pointer (some ⟨b0, 1, none⟩), .int .i64 q, .int .i64 f, .int .i64 P2, .pointer (some ⟨b0, 2, none⟩), .int .i64 r, .int .i64 f, .int .i64 P3, .agg #[.int .i64 P1, .int .i64 P2, .int .i64 P3], .tuple #[.agg #[.int .i64 u1, .int .i64 u2, .int .i64 u3], .int .i64 G], .agg #[.int .i64 u1, .int .i64 u2, .int .i64 u3], .int .i64 G, X 0, X 1, X 2, X 3, X 4, X 5, X 6, X 7, X 8, X 9, X 10, X 11, X 12, X 13, X 14, X 15, X 16, X 17, X 18, X 19, X 20, X 21, X 22, X 23, X 24, X 25, X 26, X 27, X 28, X 29, X 30, undef, undef, undef, undef, undef, undef, undef, undef, undef, undef, undef, undef, undef, undef, undef, undef, undef, undef, undef, undef, undef, undef, undef, undef, undef, undef, undef, undef, undef, undef, undef, undef], []⟩) [(0, 0, 0), (0, 0, 0), (0, 0, 0), (0, 0, 0), (0, 0, 0), (0, 0, 0), (0, 0, 0), (0, 0, 0), (0, 0, 0), (0, 0, 0), (0, 0, 0), (0, 0, 0), (0, 0, 0), (0, 0, 0), (0, 0, 0), (0, 0, 0), (0, 0, 0), (0, 0, 0), (0, 0, 0), (0, 0, 0), (0, 0, 0), (0, 0, 0), (0, 0, 0), (0, 0, 0), (0, 0, 0), (0, 0, 0), (0, 0, 0), (0, 0, 0), (0, 0, 0), (0, 0, 0), (0, 0, 0)] (fun _ => []) [.val (.int .i64 (g : Int)), .val (.bool false), .val (.bool false), .val (.int .i64 G), .val (.int .i64 (g : Int)), .val (.int .i64 f), .val (.int .i64 G), .val (.bool false), .val (.bool false), .val (.bool false), .val (.agg #[.int .i64 u1, .int .i64 u2, .int .i64 u3]), .val (.agg #[.int .i64 u1, .int .i64 u2, .int .i64 u3]), .val (.bool false), .val (.bool false), .val (.bool false), .val (.pointer (some ⟨b1, 0, none⟩)), .val (.int .i64 u1), .val (.int .i64 (g : Int)), .val (.int .i64 p), .val (.pointer (some ⟨b1, 1, none⟩)), .val (.int .i64 u2), .val (.int .i64 (g : Int)), .val (.int .i64 q), .val (.pointer (some ⟨b1, 2, none⟩)), .val (.int .i64 u3), .val (.int .i64 (g : Int)), .val (.int .i64 r), .val (.agg #[.int .i64 p, .int .i64 q, .int .i64 r]), .val (.agg #[.int .i64 p, .int .i64 q, .int .i64 r]), .val (.bool false), .val (.bool false)] [[], [0], [1], [2], [2], [2], [2, 4, 5], [2, 3, 6], [2, 7], [8], [9], [9], [9, 10, 11], [9, 12], [13], [14], [14, 15], [14], [14, 16, 17], [14], [14, 19], [14], [14, 20, 21], [14], [14, 23], [14], [14, 24, 25], [14, 18, 22, 26], [14], [14, 27, 28], [14, 29]] [0, 1, 2, 3, 4, 5, 6, 7, 8, 9, 10, 11, 12, 13, 14, 15, 16, 17, 18, 19, 20, 21, 22, 23, 24, 25, 26, 27, 28, 29, 30] [] [] [] (fun _ => 0) W6 (by kernel_rfl) (by kernel_rfl) (by kernel_rfl) (by kernel_rfl) (by kernel_rfl) ?dist ?olds ?op ?al ?st ?into ?fin (fun _ => undef) _ _ (by kernel_rfl) (of_decide_eq_true (by kernel_rfl)) (of_decide_eq_true (by kernel_rfl))
  case hn => rfl
  case dist => intro i hi j hj; simp at hi hj; try omega
  case olds => exact nofun
  case op =>
    repeat' first | exact Each.nil | refine Each.cons ?_ ?_
    all_goals intro X w7 H hb hD h
    · refine tv rfl (by rfl) ?_ (by exact h _ w7 rfl (Below.refl _ _))
      go_simp <;> first | rfl | (simp only [IntWalk.i64_left]; rfl) | (simp only [IntWalk.i64_left, *]; done) | (simp only [IntWalk.i64_left, *]; rfl)
    · have e0_ : X 0 = _ := hD 0 (by decide) rfl
      refine tv rfl (by simp only [e0_]; rfl) ?_ (by exact h _ w7 rfl (Below.refl _ _))
      simp only [e0_]; go_simp <;> first | rfl | (simp only [IntWalk.i64_left]; rfl) | (simp only [IntWalk.i64_left, *]; done) | (simp only [IntWalk.i64_left, *]; rfl)
    · have e1_ : X 1 = _ := hD 1 (by decide) rfl
      refine tv rfl (by simp only [e1_]; rfl) ?_ (by exact h _ w7 rfl (Below.refl _ _))
      simp only [e1_]; go_simp <;> first | rfl | (simp only [IntWalk.i64_left]; rfl) | (simp only [IntWalk.i64_left, *]; done) | (simp only [IntWalk.i64_left, *]; rfl)
    · have e2_ : X 2 = _ := hD 2 (by decide) rfl
      refine tv rfl (by simp only [e2_]; rfl) ?_ (by exact h _ w7 rfl (Below.refl _ _))
      simp only [e2_]; go_simp <;> first | rfl | (simp only [IntWalk.i64_left]; rfl) | (simp only [IntWalk.i64_left, *]; done) | (simp only [IntWalk.i64_left, *]; rfl)
    · have e2_ : X 2 = _ := hD 2 (by decide) rfl
      refine tv rfl (by simp only [e2_]; rfl) ?_ (by exact h _ w7 rfl (Below.refl _ _))
      simp only [e2_]; go_simp <;> first | rfl | (simp only [IntWalk.i64_left]; rfl) | (simp only [IntWalk.i64_left, *]; done) | (simp only [IntWalk.i64_left, *]; rfl)
    · have e2_ : X 2 = _ := hD 2 (by decide) rfl
      refine tv rfl (by simp only [e2_]; rfl) ?_ (by exact h _ w7 rfl (Below.refl _ _))
      simp only [e2_]; go_simp <;> first | rfl | (simp only [IntWalk.i64_left]; rfl) | (simp only [IntWalk.i64_left, *]; done) | (simp only [IntWalk.i64_left, *]; rfl)
    · have e2_ : X 2 = _ := hD 2 (by decide) rfl
      have e4_ : X 4 = _ := hD 4 (by decide) rfl
      have e5_ : X 5 = _ := hD 5 (by decide) rfl
      refine tv rfl (by simp only [e2_, e4_, e5_]; rfl) ?_ (by exact h _ w7 rfl (Below.refl _ _))
      simp only [e2_, e4_, e5_]; go_simp <;> first | rfl | (simp only [IntWalk.i64_left]; rfl) | (simp only [IntWalk.i64_left, *]; done) | (simp only [IntWalk.i64_left, *]; rfl)
    · have e2_ : X 2 = _ := hD 2 (by decide) rfl
      have e3_ : X 3 = _ := hD 3 (by decide) rfl
      have e6_ : X 6 = _ := hD 6 (by decide) rfl
      refine tv rfl (by simp only [e2_, e3_, e6_]; rfl) ?_ (by exact h _ w7 rfl (Below.refl _ _))
      simp only [e2_, e3_, e6_]; go_simp <;> first | rfl | (simp only [IntWalk.i64_left]; rfl) | (simp only [IntWalk.i64_left, *]; done) | (simp only [IntWalk.i64_left, *]; rfl)
    · have e2_ : X 2 = _ := hD 2 (by decide) rfl
      have e7_ : X 7 = _ := hD 7 (by decide) rfl
      refine tv rfl (by simp only [e2_, e7_]; rfl) ?_ (by exact h _ w7 rfl (Below.refl _ _))
      simp only [e2_, e7_]; go_simp <;> first | rfl | (simp only [IntWalk.i64_left]; rfl) | (simp only [IntWalk.i64_left, *]; done) | (simp only [IntWalk.i64_left, *]; rfl)
    · have e8_ : X 8 = _ := hD 8 (by decide) rfl
      refine tv rfl (by simp only [e8_]; rfl) ?_ (by exact h _ w7 rfl (Below.refl _ _))
      simp only [e8_]; go_simp <;> first | rfl | (simp only [IntWalk.i64_left]; rfl) | (simp only [IntWalk.i64_left, *]; done) | (simp only [IntWalk.i64_left, *]; rfl)
    · have e9_ : X 9 = _ := hD 9 (by decide) rfl
      have hv := v2.below (show Keep [] _ _ from hb).nil
      have c0_ := hv.at 0 rfl
      have c1_ := hv.at 1 rfl
      have c2_ := hv.at 2 rfl
      refine tv rfl (by simp only [e9_]; rfl) ?_ (by exact h _ w7 rfl (Below.refl _ _))
      simp only [e9_]; go_simp <;> first | rfl | (simp only [IntWalk.i64_left]; rfl) | (simp only [IntWalk.i64_left, *]; done) | (simp only [IntWalk.i64_left, *]; rfl)
    · have e9_ : X 9 = _ := hD 9 (by decide) rfl
      have hv := v1.below (show Keep [] _ _ from hb).nil
      have c0_ := hv.at 0 rfl
      have c1_ := hv.at 1 rfl
      have c2_ := hv.at 2 rfl
      refine tv rfl (by simp only [e9_]; rfl) ?_ (by exact h _ w7 rfl (Below.refl _ _))
      simp only [e9_]; go_simp <;> first | rfl | (simp only [IntWalk.i64_left]; rfl) | (simp only [IntWalk.i64_left, *]; done) | (simp only [IntWalk.i64_left, *]; rfl)
    · have e9_ : X 9 = _ := hD 9 (by decide) rfl
      have e10_ : X 10 = _ := hD 10 (by decide) rfl
      have e11_ : X 11 = _ := hD 11 (by decide) rfl
      refine tv rfl (by simp only [e9_, e10_, e11_]; rfl) ?_ (by exact h _ w7 rfl (Below.refl _ _))
      simp only [e9_, e10_, e11_]; go_simp <;> first | rfl | (simp only [IntWalk.i64_left]; rfl) | (simp only [IntWalk.i64_left, *]; done) | (simp only [IntWalk.i64_left, *]; rfl)
    · have e9_ : X 9 = _ := hD 9 (by decide) rfl
      have e12_ : X 12 = _ := hD 12 (by decide) rfl
      refine tv rfl (by simp only [e9_, e12_]; rfl) ?_ (by exact h _ w7 rfl (Below.refl _ _))
      simp only [e9_, e12_]; go_simp <;> first | rfl | (simp only [IntWalk.i64_left]; rfl) | (simp only [IntWalk.i64_left, *]; done) | (simp only [IntWalk.i64_left, *]; rfl)
    · have e13_ : X 13 = _ := hD 13 (by decide) rfl
      refine tv rfl (by simp only [e13_]; rfl) ?_ (by exact h _ w7 rfl (Below.refl _ _))
      simp only [e13_]; go_simp <;> first | rfl | (simp only [IntWalk.i64_left]; rfl) | (simp only [IntWalk.i64_left, *]; done) | (simp only [IntWalk.i64_left, *]; rfl)
    · have e14_ : X 14 = _ := hD 14 (by decide) rfl
      refine tv rfl (by simp only [e14_]; rfl) ?_ (by exact h _ w7 rfl (Below.refl _ _))
      simp only [e14_]; go_simp <;> first | rfl | (simp only [IntWalk.i64_left]; rfl) | (simp only [IntWalk.i64_left, *]; done) | (simp only [IntWalk.i64_left, *]; rfl)
    · have e14_ : X 14 = _ := hD 14 (by decide) rfl
      have e15_ : X 15 = _ := hD 15 (by decide) rfl
      have hv := v1.below (show Keep [] _ _ from hb).nil
      have c0_ := hv.at 0 rfl
      refine tv rfl (by simp only [e14_, e15_]; rfl) ?_ (by exact h _ w7 rfl (Below.refl _ _))
      simp only [e14_, e15_]; go_simp <;> first | rfl | (simp only [IntWalk.i64_left]; rfl) | (simp only [IntWalk.i64_left, *]; done) | (simp only [IntWalk.i64_left, *]; rfl)
    · have e14_ : X 14 = _ := hD 14 (by decide) rfl
      refine tv rfl (by simp only [e14_]; rfl) ?_ (by exact h _ w7 rfl (Below.refl _ _))
      simp only [e14_]; go_simp <;> first | rfl | (simp only [IntWalk.i64_left]; rfl) | (simp only [IntWalk.i64_left, *]; done) | (simp only [IntWalk.i64_left, *]; rfl)
    · have e14_ : X 14 = _ := hD 14 (by decide) rfl
      have e16_ : X 16 = _ := hD 16 (by decide) rfl
      have e17_ : X 17 = _ := hD 17 (by decide) rfl
      refine tv rfl (by simp only [e14_, e16_, e17_]; rfl) ?_ (by exact h _ w7 rfl (Below.refl _ _))
      simp only [e14_, e16_, e17_]; go_simp <;> first | rfl | (simp only [IntWalk.i64_left]; rfl) | (simp only [IntWalk.i64_left, *]; done) | (simp only [IntWalk.i64_left, *]; rfl)
    · have e14_ : X 14 = _ := hD 14 (by decide) rfl
      refine tv rfl (by simp only [e14_]; rfl) ?_ (by exact h _ w7 rfl (Below.refl _ _))
      simp only [e14_]; go_simp <;> first | rfl | (simp only [IntWalk.i64_left]; rfl) | (simp only [IntWalk.i64_left, *]; done) | (simp only [IntWalk.i64_left, *]; rfl)
    · have e14_ : X 14 = _ := hD 14 (by decide) rfl
      have e19_ : X 19 = _ := hD 19 (by decide) rfl
      have hv := v1.below (show Keep [] _ _ from hb).nil
      have c0_ := hv.at 1 rfl
      refine tv rfl (by simp only [e14_, e19_]; rfl) ?_ (by exact h _ w7 rfl (Below.refl _ _))
      simp only [e14_, e19_]; go_simp <;> first | rfl | (simp only [IntWalk.i64_left]; rfl) | (simp only [IntWalk.i64_left, *]; done) | (simp only [IntWalk.i64_left, *]; rfl)
    · have e14_ : X 14 = _ := hD 14 (by decide) rfl
      refine tv rfl (by simp only [e14_]; rfl) ?_ (by exact h _ w7 rfl (Below.refl _ _))
      simp only [e14_]; go_simp <;> first | rfl | (simp only [IntWalk.i64_left]; rfl) | (simp only [IntWalk.i64_left, *]; done) | (simp only [IntWalk.i64_left, *]; rfl)
    · have e14_ : X 14 = _ := hD 14 (by decide) rfl
      have e20_ : X 20 = _ := hD 20 (by decide) rfl
      have e21_ : X 21 = _ := hD 21 (by decide) rfl
      refine tv rfl (by simp only [e14_, e20_, e21_]; rfl) ?_ (by exact h _ w7 rfl (Below.refl _ _))
      simp only [e14_, e20_, e21_]; go_simp <;> first | rfl | (simp only [IntWalk.i64_left]; rfl) | (simp only [IntWalk.i64_left, *]; done) | (simp only [IntWalk.i64_left, *]; rfl)
    · have e14_ : X 14 = _ := hD 14 (by decide) rfl
      refine tv rfl (by simp only [e14_]; rfl) ?_ (by exact h _ w7 rfl (Below.refl _ _))
      simp only [e14_]; go_simp <;> first | rfl | (simp only [IntWalk.i64_left]; rfl) | (simp only [IntWalk.i64_left, *]; done) | (simp only [IntWalk.i64_left, *]; rfl)
    · have e14_ : X 14 = _ := hD 14 (by decide) rfl
      have e23_ : X 23 = _ := hD 23 (by decide) rfl
      have hv := v1.below (show Keep [] _ _ from hb).nil
      have c0_ := hv.at 2 rfl
      refine tv rfl (by simp only [e14_, e23_]; rfl) ?_ (by exact h _ w7 rfl (Below.refl _ _))
      simp only [e14_, e23_]; go_simp <;> first | rfl | (simp only [IntWalk.i64_left]; rfl) | (simp only [IntWalk.i64_left, *]; done) | (simp only [IntWalk.i64_left, *]; rfl)
    · have e14_ : X 14 = _ := hD 14 (by decide) rfl
      refine tv rfl (by simp only [e14_]; rfl) ?_ (by exact h _ w7 rfl (Below.refl _ _))
      simp only [e14_]; go_simp <;> first | rfl | (simp only [IntWalk.i64_left]; rfl) | (simp only [IntWalk.i64_left, *]; done) | (simp only [IntWalk.i64_left, *]; rfl)
    · have e14_ : X 14 = _ := hD 14 (by decide) rfl
      have e24_ : X 24 = _ := hD 24 (by decide) rfl
      have e25_ : X 25 = _ := hD 25 (by decide) rfl
      refine tv rfl (by simp only [e14_, e24_, e25_]; rfl) ?_ (by exact h _ w7 rfl (Below.refl _ _))
      simp only [e14_, e24_, e25_]; go_simp <;> first | rfl | (simp only [IntWalk.i64_left]; rfl) | (simp only [IntWalk.i64_left, *]; done) | (simp only [IntWalk.i64_left, *]; rfl)
    · have e14_ : X 14 = _ := hD 14 (by decide) rfl
      have e18_ : X 18 = _ := hD 18 (by decide) rfl
      have e22_ : X 22 = _ := hD 22 (by decide) rfl
      have e26_ : X 26 = _ := hD 26 (by decide) rfl
      refine wpOp_call (i := 27) (f := 12) (args := #[.int .i64 p, .int .i64 q, .int .i64 r]) 90 rfl rfl (by simp only [e14_, e18_, e22_, e26_]; rfl) (by simp only [e14_, e18_, e22_, e26_]; go_simp) ?_
      refine (vec_l p q r _).mono ?_
      rintro e w8 ⟨rfl, hk⟩
      exact ⟨_, rfl, h _ w8 rfl hk⟩
    · have e14_ : X 14 = _ := hD 14 (by decide) rfl
      have hv := v0.below (show Keep [] _ _ from hb).nil
      have c0_ := hv.at 0 rfl
      have c1_ := hv.at 1 rfl
      have c2_ := hv.at 2 rfl
      refine tv rfl (by simp only [e14_]; rfl) ?_ (by exact h _ w7 rfl (Below.refl _ _))
      simp only [e14_]; go_simp <;> first | rfl | (simp only [IntWalk.i64_left]; rfl) | (simp only [IntWalk.i64_left, *]; done) | (simp only [IntWalk.i64_left, *]; rfl)
    · have e14_ : X 14 = _ := hD 14 (by decide) rfl
      have e27_ : X 27 = _ := hD 27 (by decide) rfl
      have e28_ : X 28 = _ := hD 28 (by decide) rfl
      refine tv rfl (by simp only [e14_, e27_, e28_]; rfl) ?_ (by exact h _ w7 rfl (Below.refl _ _))
      simp only [e14_, e27_, e28_]; go_simp <;> first | rfl | (simp only [IntWalk.i64_left]; rfl) | (simp only [IntWalk.i64_left, *]; done) | (simp only [IntWalk.i64_left, *]; rfl)
    · have e14_ : X 14 = _ := hD 14 (by decide) rfl
      have e29_ : X 29 = _ := hD 29 (by decide) rfl
      refine tv rfl (by simp only [e14_, e29_]; rfl) ?_ (by exact h _ w7 rfl (Below.refl _ _))
      simp only [e14_, e29_]; go_simp <;> first | rfl | (simp only [IntWalk.i64_left]; rfl) | (simp only [IntWalk.i64_left, *]; done) | (simp only [IntWalk.i64_left, *]; rfl)
  case al => exact Each.nil
  case st => exact Each.nil
  case into => exact Each.nil
  case fin =>
    intro X8_ W7 hI
    have hE : Keep [] W6 W7 := hI.keep
    have e30_ : X8_ 30 = _ := hI.fact 30 (by decide) rfl rfl
    have v0 := v0.below hE.nil
    have v1 := v1.below hE.nil
    have v2 := v2.below hE.nil
    have hB := hB.trans (hE.nil.mono hB.size)
    simp only [e30_]
    clear e30_ hI hE
    go_wp2_with fail
    obtain ⟨W8, hW_⟩ : ∃ W, W7.alloc (.cells #[.int .i64 2, .int .i64 3, .int .i64 5, .int .i64 7, .int .i64 11, .int .i64 13] 3) = W := ⟨_, rfl⟩
    have hk : Below (W7.alloc (.cells #[.int .i64 2, .int .i64 3, .int .i64 5, .int .i64 7, .int .i64 11, .int .i64 13] 3)).heap.size (W7.alloc (.cells #[.int .i64 2, .int .i64 3, .int .i64 5, .int .i64 7, .int .i64 11, .int .i64 13] 3)) W8 := by rw [hW_]; exact Below.refl _ _
    try rw [hW_]
    clear hW_
    have hs : Below W7.heap.size W7 W8 := Below.trans (by repeat (first | exact Below.refl _ _ | refine Below.alloc ?_ (by first | omega | (simp; try omega)) _ | refine Below.setCell ?_ (by first | omega | (simp; try omega)) _)) (hk.mono (by first | omega | (simp; try omega)))
    have v0 := v0.below hs
    have v1 := v1.below hs
    have v2 := v2.below hs
    have v3 : Var W8 (W7.heap.size) [.int .i64 2, .int .i64 3, .int .i64 5, .int .i64 7, .int .i64 11, .int .i64 13] := Var.low ⟨by first | omega | (simp; try omega), by simp [Cel, go_sem]⟩ hk (by first | omega | (simp; try omega))
    obtain ⟨b3, hb3⟩ : ∃ b, W7.heap.size = b := ⟨_, rfl⟩
    have lob3 : w.heap.size ≤ b3 := by have := hB.size; omega
    rw [hb3] at v3
    try rw [hb3]
    have hB := hB.trans (hs.mono hB.size)
    clear hb3 hs hk
    clear v0
    clear v2
    clear hG he1 he2 he3
    go_loopw [96] (fun i wr => ∃ k : Nat, k ≤ 6 ∧ i = .int .i64 (k : Int) ∧ Below w.heap.size w wr ∧ Var wr b1 [.int .i64 u1, .int .i64 u2, .int .i64 u3] ∧ Var wr b3 [.int .i64 2, .int .i64 3, .int .i64 5, .int .i64 7, .int .i64 11, .int .i64 13]) (fun i _ => 6 - (intOf i).toNat)
    case atStart => exact ⟨0, by omega, rfl, hB, v1, v3⟩
    case round =>
      clear hB v1 v3
      obtain ⟨k, hk, rfl, hB, v1, v3⟩ := hrel
      have c0 := v1.at 0 rfl
      have c1 := v1.at 1 rfl
      have c2 := v1.at 2 rfl
      by_cases hlt : k < 6
      · obtain ⟨m, hm, hm2⟩ : ∃ m : Int, ([.int .i64 2, .int .i64 3, .int .i64 5, .int .i64 7, .int .i64 11, .int .i64 13] : List Value)[k]? = some (.int .i64 m) ∧ (2 ≤ m ∧ m ≤ 13) := by
          match k, hlt with
          | 0, _ => exact ⟨2, rfl, by decide, by decide⟩
          | 1, _ => exact ⟨3, rfl, by decide, by decide⟩
          | 2, _ => exact ⟨5, rfl, by decide, by decide⟩
          | 3, _ => exact ⟨7, rfl, by decide, by decide⟩
          | 4, _ => exact ⟨11, rfl, by decide, by decide⟩
          | 5, _ => exact ⟨13, rfl, by decide, by decide⟩
        have hq := v3.at k hm
        have hk6 : (k : Int) < 6 := by omega
        have hm0 : ¬ m = 0 := by omega
        have t1 := (IntWalk.i64_in _ (i64_tmod u1 m hm2.1 hm2.2))
        have t2 := (IntWalk.i64_in _ (i64_tmod u2 m hm2.1 hm2.2))
        have t3 := (IntWalk.i64_in _ (i64_tmod u3 m hm2.1 hm2.2))
        have HD := hideV (not_all hone.out m hm2.1)
        have HM := hideV hm2
        clear hm hm2
        by_cases d1 : (u1 : Int).tmod m = 0
        · by_cases d2 : (u2 : Int).tmod m = 0
          · have d3 : ¬ (u3 : Int).tmod m = 0 := fun d3 => HD.out d1 d2 d3
            clear HD
            go_wp2_with fail
            go_roundw
            case rel => exact ⟨k + 1, by omega, by simp, hB, v1, v3⟩
            case measure => simp [intOf]; omega
          · clear HD
            go_wp2_with fail
            go_roundw
            case rel => exact ⟨k + 1, by omega, by simp, hB, v1, v3⟩
            case measure => simp [intOf]; omega
        · clear HD
          go_wp2_with fail
          go_roundw
          case rel => exact ⟨k + 1, by omega, by simp, hB, v1, v3⟩
          case measure => simp [intOf]; omega
      · obtain rfl : k = 6 := by omega
        have cb1_0 := v1.at 0 rfl
        have cb1_1 := v1.at 1 rfl
        have cb1_2 := v1.at 2 rfl
        go_wp2_with fail
        refine (prim_yes u1 u2 u3 u1 u2 u3 1 j1.out j2.out j3.out hy1 hy2 hy3 hy4 _).mono ?_
        rintro e W9 ⟨rfl, hk⟩
        have hs := hk
        have v1 := v1.below hs
        have v3 := v3.below hs
        have hB := hB.trans (hs.mono hB.size)
        clear cb1_0 cb1_1 cb1_2 hs hk
        go_wp2_with fail
        have hBs := hB.size
        go_ret
        exact ⟨rfl, by repeat (first | exact hB | refine Below.alloc ?_ (by first | omega | (simp; try omega)) _ | refine Below.setCell ?_ (by first | omega | (simp; try omega)) _)⟩


set_option maxRecDepth 100000 in
set_option maxHeartbeats 8000000 in
theorem prims_go0 (x y z : Int) (n : Nat) (hn : n < 65536) (f : Int) (hf : 1 + (n : Int) % 1000 = f) (q r P2 P3 u2 u3 G : Int) (g : Nat) (hp0 : x.tmod 1099511627776 = 0) (hq0 : y.tmod 1099511627776 = q) (hr0 : z.tmod 1099511627776 = r) (hp : Hid (I64 0)) (hq : Hid (I64 q)) (hr : Hid (I64 r))
    (hu1 : Hid ((0 : Int).tdiv (dv3 0 q r : Int) = 0)) (hu2 : Hid (q.tdiv (dv3 0 q r : Int) = u2)) (hu3 : Hid (r.tdiv (dv3 0 q r : Int) = u3)) (hg : Hid (dv3 0 q r = g)) (hne : ¬ q = 0) (hg1 : decide ((g : Int) < 1) = false)
    (_hP1 : Hid (wrap64 (0 * f) = 0)) (hP2 : Hid (wrap64 (q * f) = P2)) (hP3 : Hid (wrap64 (r * f) = P3)) (i1 : Hid (I64 0)) (i2 : Hid (I64 P2)) (i3 : Hid (I64 P3))
    (ht1 : Hid ((0 : Int).tdiv (dv3 0 P2 P3 : Int) = 0)) (ht2 : Hid (P2.tdiv (dv3 0 P2 P3 : Int) = u2)) (ht3 : Hid (P3.tdiv (dv3 0 P2 P3 : Int) = u3)) (ht4 : Hid ((dv3 0 P2 P3 : Int) = G)) (hG : Hid (wrap64 ((g : Int) * f) = G))
    (he1 : Hid (wrap64 (0 * (g : Int)) = 0)) (he2 : Hid (wrap64 (u2 * (g : Int)) = q)) (he3 : Hid (wrap64 (u3 * (g : Int)) = r))
    (j1 : Hid (I64 0)) (j2 : Hid (I64 u2)) (j3 : Hid (I64 u3)) (hone : Hid (g3 0 u2 u3 = 1)) (hy1 : Hid ((0 : Int).tdiv (dv3 0 u2 u3 : Int) = 0)) (hy2 : Hid (u2.tdiv (dv3 0 u2 u3 : Int) = u2)) (hy3 : Hid (u3.tdiv (dv3 0 u2 u3 : Int) = u3)) (hy4 : Hid ((dv3 0 u2 u3 : Int) = 1)) (w : World) : Calls Try.prog 7 #[V x y z, .int .u16 (n : Int)] w (Gives w (.bool true)) := by
  unfold V
  go_enter Try.func7, Try.ntmps7
  have hB := Below.refl w.heap.size w
  have hn1 : (n : Int) < 65536 := by omega
  go_wp2_with fail
  refine (sanity_true _).mono ?_
  rintro e W1 ⟨rfl, hk⟩
  have hs : Below w.heap.size w W1 := Below.trans (by repeat (first | exact Below.refl _ _ | refine Below.alloc ?_ (by first | omega | (simp; try omega)) _ | refine Below.setCell ?_ (by first | omega | (simp; try omega)) _)) (hk.mono (by first | omega | (simp; try omega)))
  have v0 : Var W1 (w.heap.size) [.int .i64 x, .int .i64 y, .int .i64 z] := Var.low ⟨by first | omega | (simp; try omega), by simp [Cel, go_sem]⟩ hk (by first | omega | (simp; try omega))
  obtain ⟨b0, hb0⟩ : ∃ b, w.heap.size = b := ⟨_, rfl⟩
  have lob0 : w.heap.size ≤ b0 := by have := hB.size; omega
  rw [hb0] at v0
  try rw [hb0]
  have hB := hB.trans (hs.mono hB.size)
  clear hb0 hs hk
  have cb0_0 := v0.at 0 rfl
  have cb0_1 := v0.at 1 rfl
  have cb0_2 := v0.at 2 rfl
  go_wp2_with fail
  refine (vec_l 0 q r _).mono ?_
  rintro e W2 ⟨rfl, hk⟩
  try simp only [V]
  have hs := hk
  have v0 := v0.below hs
  have hB := hB.trans (hs.mono hB.size)
  clear cb0_0 cb0_1 cb0_2 hs hk
  clear hn1 hf hp0 hq0 hr0 hn
  have cb0_0 := v0.at 0 rfl
  have zb0_0 := v0.fr 0 (by simp)
  have cb0_1 := v0.at 1 rfl
  have zb0_1 := v0.fr 1 (by simp)
  have cb0_2 := v0.at 2 rfl
  have zb0_2 := v0.fr 2 (by simp)
  go_wp2_with fail
  refine (prim_p 0 q r hp.out hq.out hr.out _).mono ?_
  rintro e W3 ⟨rfl, hk⟩
  try rw [hu1.out]
  try rw [hu2.out]
  rw [hu3.out, hg.out]
  try simp only [V]
  have lb0 := v0.1
  have v0 : Var W3 b0 [.int .i64 0, .int .i64 q, .int .i64 r] := Var.low ⟨by first | omega | (simp; try omega), by simp [Cel, go_sem, cb0_0, cb0_1, cb0_2, zb0_0, zb0_1, zb0_2]⟩ hk (by first | omega | (simp; try omega))
  have hB : Below w.heap.size w W3 := Below.trans (by repeat (first | exact hB | refine Below.alloc ?_ (by first | omega | (simp; try omega)) _ | refine Below.setCell ?_ (by first | omega | (simp; try omega)) _)) (hk.mono (by have := hB.size; first | omega | (simp; try omega)))
  clear cb0_0 cb0_1 cb0_2 zb0_0 zb0_1 zb0_2 lb0 hk
  have cb0_0 := v0.at 0 rfl
  have ab0_0_1 : ∀ o0, (W3.alloc o0).cell? ⟨b0, 0, none⟩ = some (.int .i64 0) := fun o0 => (v0.allocs1 o0).at 0 rfl
  have cb0_1 := v0.at 1 rfl
  have ab0_1_1 : ∀ o0, (W3.alloc o0).cell? ⟨b0, 1, none⟩ = some (.int .i64 q) := fun o0 => (v0.allocs1 o0).at 1 rfl
  have cb0_2 := v0.at 2 rfl
  have ab0_2_1 : ∀ o0, (W3.alloc o0).cell? ⟨b0, 2, none⟩ = some (.int .i64 r) := fun o0 => (v0.allocs1 o0).at 2 rfl
  go_wp2_with fail
  refine (vec_l 0 (wrap64 (q * f)) (wrap64 (r * f)) _).mono ?_
  rintro e W4 ⟨rfl, hk⟩
  try rw [hP1.out]
  try rw [hP2.out]
  try rw [hP3.out]
  try simp only [V]
  have hs : Below W3.heap.size W3 W4 := Below.trans (by repeat (first | exact Below.refl _ _ | refine Below.alloc ?_ (by first | omega | (simp; try omega)) _ | refine Below.setCell ?_ (by first | omega | (simp; try omega)) _)) (hk.mono (by first | omega | (simp; try omega)))
  have v0 := v0.below hs
  have v1 : Var W4 (W3.heap.size) [.int .i64 0, .int .i64 u2, .int .i64 u3] := Var.low ⟨by first | omega | (simp; try omega), by simp [Cel, go_sem]⟩ hk (by first | omega | (simp; try omega))
  obtain ⟨b1, hb1⟩ : ∃ b, W3.heap.size = b := ⟨_, rfl⟩
  have lob1 : w.heap.size ≤ b1 := by have := hB.size; omega
  rw [hb1] at v1
  try rw [hb1]
  have hB := hB.trans (hs.mono hB.size)
  clear cb0_0 cb0_1 cb0_2 hb1 hs hk ab0_0_1 ab0_1_1 ab0_2_1
  go_wp2_with fail
  refine (prim_p 0 P2 P3 i1.out i2.out i3.out _).mono ?_
  rintro e W5 ⟨rfl, hk⟩
  try rw [ht1.out]
  try rw [ht2.out]
  rw [ht3.out, ht4.out]
  try simp only [V]
  have hs := hk
  have v0 := v0.below hs
  have v1 := v1.below hs
  have hB := hB.trans (hs.mono hB.size)
  clear hs hk
  have hG := hG.out
  have he1 := he1.out
  have he2 := he2.out
  have he3 := he3.out
  go_wp2_with fail
  refine wp_region_dag (by kernel_rfl) ?_
  intro W6 hk
  have hs : Below W5.heap.size W5 W6 := Below.trans (by repeat (first | exact Below.refl _ _ | refine Below.alloc ?_ (by first | omega | (simp; try omega)) _ | refine Below.setCell ?_ (by first | omega | (simp; try omega)) _)) (hk.mono (by first | omega | (simp; try omega)))
  have v0 := v0.below hs
  have v1 := v1.below hs
  have v2 : Var W6 (W5.heap.size) [.int .i64 0, .int .i64 u2, .int .i64 u3] := Var.low ⟨by first | omega | (simp; try omega), by simp [Cel, go_sem]⟩ hk (by first | omega | (simp; try omega))
  obtain ⟨b2, hb2⟩ : ∃ b, W5.heap.size = b := ⟨_, rfl⟩
  have lob2 : w.heap.size ≤ b2 := by have := hB.size; omega
  rw [hb2] at v2
  try rw [hb2]
  have hB := hB.trans (hs.mono hB.size)
  clear hb2 hs hk
  refine dagV (fun _ => trivial) 31 ?hn (fun X => ⟨#[.agg #[.int .i64 x, .int .i64 y, .int .i64 z], .int .u16 (n : Int), .pointer (some ⟨b0, 0, none⟩), undef, .bool false, .bool true, .int .i64 f, .pointer (some ⟨b1, 0, none⟩), .int .i64 (g : Int), .pointer (some ⟨b2, 0, none⟩), .int .i64 G, undef, undef, .bool true, .int .u16 (n : Int), .int .i64 (n : Int), .int .i64 ((n : Int) % 1000), .int .i64 f, .pointer (some ⟨b0, 0, none⟩), .int .i64 x, .int .i64 0, .pointer (some ⟨b0, 1, none⟩), .int .i64 y, .int .i64 q, .pointer (some ⟨b0, 2, none⟩), .int .i64 z, .int .i64 r, .agg #[.int .i64 0, .int .i64 q, .int .i64 r], .tuple #[.agg #[.int .i64 0, .int .i64 u2, .int .i64 u3], .int .i64 (g : Int)], .agg #[.int .i64 0, .int .i64 q, .int .i64 r], .tuple #[.agg #[.int .i64 0, .int .i64 u2, .int .i64 u3], .int .i64 (g : Int)], .agg #[.int .i64 0, .int .i64 u2, .int .i64 u3], .int .i64 (g : Int), .agg #[.int .i64 0, .int .i64 q, .int .i64 r], .agg #[.int .i64 0, .int .i64 0, .int .i64 0], .bool false, undef, undef, undef, undef, undef, undef, undef, undef, undef, undef, .tuple #[.agg #[.int .i64 0, .int .i64 u2, .int .i64 u3], .int .i64 G], .pointer (some ⟨b0, 0, none⟩), .int .i64 0, .int .i64 f, .int .i64 0, .pointer (some ⟨b0, 1, none⟩), .int .i64 q, .int .i64 f, .int .i64 P2, .pointer (some ⟨b0, 2, none⟩), .int .i64 r, .int .i64 f, .int .i64 P3, .agg #[.int .i64 0, .int .i64 P2, .int .i64 P3], .tuple #[.agg #[.int .i64 0, .int .i64 u2, .int .i64 u3], .int .i64 G], .agg #[.int .i64 0, .int .i64 u2, .int .i64 u3], .int .i64 G, X 0, X 1, X 2, X 3, X 4, X 5, X 6, X 7, X 8, X 9, X 10, X 11, X 12, X 13, X 14, X 15, X 16, X 17, X 18, X 19, X 20, X 21, X 22, X 23, X 24, X 25, X 26, X 27, X 28, X 29, X 30, undef, undef, undef, undef, undef, undef, undef, undef, undef, undef, undef, undef, undef, undef, undef, undef, undef, undef, undef, undef, undef, undef, undef, undef, undef, undef, undef, undef, undef, undef, undef, undef], []⟩) [(0, 0, 0), (0, 0, 0), (0, 0, 0), (0, 0, 0), (0, 0, 0), (0, 0, 0), (0, 0, 0), (0, 0, 0), (0, 0, 0), (0, 0, 0), (0, 0, 0), (0, 0, 0), (0, 0, 0), (0, 0, 0), (0, 0, 0), (0, 0, 0), (0, 0, 0), (0, 0, 0), (0, 0, 0), (0, 0, 0), (0, 0, 0), (0, 0, 0), (0, 0, 0), (0, 0, 0), (0, 0, 0), (0, 0, 0), (0, 0, 0), (0, 0, 0), (0, 0, 0), (0, 0, 0), (0, 0, 0)] (fun _ => []) [.val (.int .i64 (g : Int)), .val (.bool false), .val (.bool false), .val (.int .i64 G), .val (.int .i64 (g : Int)), .val (.int .i64 f), .val (.int .i64 G), .val (.bool false), .val (.bool false), .val (.bool false), .val (.agg #[.int .i64 0, .int .i64 u2, .int .i64 u3]), .val (.agg #[.int .i64 0, .int .i64 u2, .int .i64 u3]), .val (.bool false), .val (.bool false), .val (.bool false), .val (.pointer (some ⟨b1, 0, none⟩)), .val (.int .i64 0), .val (.int .i64 (g : Int)), .val (.int .i64 0), .val (.pointer (some ⟨b1, 1, none⟩)), .val (.int .i64 u2), .val (.int .i64 (g : Int)), .val (.int .i64 q), .val (.pointer (some ⟨b1, 2, none⟩)), .val (.int .i64 u3), .val (.int .i64 (g : Int)), .val (.int .i64 r), .val (.agg #[.int .i64 0, .int .i64 q, .int .i64 r]), .val (.agg #[.int .i64 0, .int .i64 q, .int .i64 r]), .val (.bool false), .val (.bool false)] [[], [0], [1], [2], [2], [2], [2, 4, 5], [2, 3, 6], [2, 7], [8], [9], [9], [9, 10, 11], [9, 12], [13], [14], [14, 15], [14], [14, 16, 17], [14], [14, 19], [14], [14, 20, 21], [14], [14, 23], [14], [14, 24, 25], [14, 18, 22, 26], [14], [14, 27, 28], [14, 29]] [0, 1, 2, 3, 4, 5, 6, 7, 8, 9, 10, 11, 12, 13, 14, 15, 16, 17, 18, 19, 20, 21, 22, 23, 24, 25, 26, 27, 28, 29, 30] [] [] [] (fun _ => 0) W6 (by kernel_rfl) (by kernel_rfl) (by kernel_rfl) (by kernel_rfl) (by kernel_rfl) ?dist ?olds ?op ?al ?st ?into ?fin (fun _ => undef) _ _ (by kernel_rfl) (of_decide_eq_true (by kernel_rfl)) (of_decide_eq_true (by kernel_rfl))
  case hn => rfl
  case dist => intro i hi j hj; simp at hi hj; try omega
  case olds => exact nofun
  case op =>
    repeat' first | exact Each.nil | refine Each.cons ?_ ?_
    all_goals intro X w7 H hb hD h
    · refine tv rfl (by rfl) ?_ (by exact h _ w7 rfl (Below.refl _ _))
      go_simp <;> first | rfl | (simp only [IntWalk.i64_left]; rfl) | (simp only [IntWalk.i64_left, *]; done) | (simp only [IntWalk.i64_left, *]; rfl)
    · have e0_ : X 0 = _ := hD 0 (by decide) rfl
      refine tv rfl (by simp only [e0_]; rfl) ?_ (by exact h _ w7 rfl (Below.refl _ _))
      simp only [e0_]; go_simp <;> first | rfl | (simp only [IntWalk.i64_left]; rfl) | (simp only [IntWalk.i64_left, *]; done) | (simp only [IntWalk.i64_left, *]; rfl)
    · have e1_ : X 1 = _ := hD 1 (by decide) rfl
      refine tv rfl (by simp only [e1_]; rfl) ?_ (by exact h _ w7 rfl (Below.refl _ _))
      simp only [e1_]; go_simp <;> first | rfl | (simp only [IntWalk.i64_left]; rfl) | (simp only [IntWalk.i64_left, *]; done) | (simp only [IntWalk.i64_left, *]; rfl)
    · have e2_ : X 2 = _ := hD 2 (by decide) rfl
      refine tv rfl (by simp only [e2_]; rfl) ?_ (by exact h _ w7 rfl (Below.refl _ _))
      simp only [e2_]; go_simp <;> first | rfl | (simp only [IntWalk.i64_left]; rfl) | (simp only [IntWalk.i64_left, *]; done) | (simp only [IntWalk.i64_left, *]; rfl)
    · have e2_ : X 2 = _ := hD 2 (by decide) rfl
      refine tv rfl (by simp only [e2_]; rfl) ?_ (by exact h _ w7 rfl (Below.refl _ _))
      simp only [e2_]; go_simp <;> first | rfl | (simp only [IntWalk.i64_left]; rfl) | (simp only [IntWalk.i64_left, *]; done) | (simp only [IntWalk.i64_left, *]; rfl)
    · have e2_ : X 2 = _ := hD 2 (by decide) rfl
      refine tv rfl (by simp only [e2_]; rfl) ?_ (by exact h _ w7 rfl (Below.refl _ _))
      simp only [e2_]; go_simp <;> first | rfl | (simp only [IntWalk.i64_left]; rfl) | (simp only [IntWalk.i64_left, *]; done) | (simp only [IntWalk.i64_left, *]; rfl)
    · have e2_ : X 2 = _ := hD 2 (by decide) rfl
      have e4_ : X 4 = _ := hD 4 (by decide) rfl
      have e5_ : X 5 = _ := hD 5 (by decide) rfl
      refine tv rfl (by simp only [e2_, e4_, e5_]; rfl) ?_ (by exact h _ w7 rfl (Below.refl _ _))
      simp only [e2_, e4_, e5_]; go_simp <;> first | rfl | (simp only [IntWalk.i64_left]; rfl) | (simp only [IntWalk.i64_left, *]; done) | (simp only [IntWalk.i64_left, *]; rfl)
    · have e2_ : X 2 = _ := hD 2 (by decide) rfl
      have e3_ : X 3 = _ := hD 3 (by decide) rfl
      have e6_ : X 6 = _ := hD 6 (by decide) rfl
      refine tv rfl (by simp only [e2_, e3_, e6_]; rfl) ?_ (by exact h _ w7 rfl (Below.refl _ _))
      simp only [e2_, e3_, e6_]; go_simp <;> first | rfl | (simp only [IntWalk.i64_left]; rfl) | (simp only [IntWalk.i64_left, *]; done) | (simp only [IntWalk.i64_left, *]; rfl)
    · have e2_ : X 2 = _ := hD 2 (by decide) rfl
      have e7_ : X 7 = _ := hD 7 (by decide) rfl
      refine tv rfl (by simp only [e2_, e7_]; rfl) ?_ (by exact h _ w7 rfl (Below.refl _ _))
      simp only [e2_, e7_]; go_simp <;> first | rfl | (simp only [IntWalk.i64_left]; rfl) | (simp only [IntWalk.i64_left, *]; done) | (simp only [IntWalk.i64_left, *]; rfl)
    · have e8_ : X 8 = _ := hD 8 (by decide) rfl
      refine tv rfl (by simp only [e8_]; rfl) ?_ (by exact h _ w7 rfl (Below.refl _ _))
      simp only [e8_]; go_simp <;> first | rfl | (simp only [IntWalk.i64_left]; rfl) | (simp only [IntWalk.i64_left, *]; done) | (simp only [IntWalk.i64_left, *]; rfl)
    · have e9_ : X 9 = _ := hD 9 (by decide) rfl
      have hv := v2.below (show Keep [] _ _ from hb).nil
      have c0_ := hv.at 0 rfl
      have c1_ := hv.at 1 rfl
      have c2_ := hv.at 2 rfl
      refine tv rfl (by simp only [e9_]; rfl) ?_ (by exact h _ w7 rfl (Below.refl _ _))
      simp only [e9_]; go_simp <;> first | rfl | (simp only [IntWalk.i64_left]; rfl) | (simp only [IntWalk.i64_left, *]; done) | (simp only [IntWalk.i64_left, *]; rfl)
    · have e9_ : X 9 = _ := hD 9 (by decide) rfl
      have hv := v1.below (show Keep [] _ _ from hb).nil
      have c0_ := hv.at 0 rfl
      have c1_ := hv.at 1 rfl
      have c2_ := hv.at 2 rfl
      refine tv rfl (by simp only [e9_]; rfl) ?_ (by exact h _ w7 rfl (Below.refl _ _))
      simp only [e9_]; go_simp <;> first | rfl | (simp only [IntWalk.i64_left]; rfl) | (simp only [IntWalk.i64_left, *]; done) | (simp only [IntWalk.i64_left, *]; rfl)
    · have e9_ : X 9 = _ := hD 9 (by decide) rfl
      have e10_ : X 10 = _ := hD 10 (by decide) rfl
      have e11_ : X 11 = _ := hD 11 (by decide) rfl
      refine tv rfl (by simp only [e9_, e10_, e11_]; rfl) ?_ (by exact h _ w7 rfl (Below.refl _ _))
      simp only [e9_, e10_, e11_]; go_simp <;> first | rfl | (simp only [IntWalk.i64_left]; rfl) | (simp only [IntWalk.i64_left, *]; done) | (simp only [IntWalk.i64_left, *]; rfl)
    · have e9_ : X 9 = _ := hD 9 (by decide) rfl
      have e12_ : X 12 = _ := hD 12 (by decide) rfl
      refine tv rfl (by simp only [e9_, e12_]; rfl) ?_ (by exact h _ w7 rfl (Below.refl _ _))
      simp only [e9_, e12_]; go_simp <;> first | rfl | (simp only [IntWalk.i64_left]; rfl) | (simp only [IntWalk.i64_left, *]; done) | (simp only [IntWalk.i64_left, *]; rfl)
    · have e13_ : X 13 = _ := hD 13 (by decide) rfl
      refine tv rfl (by simp only [e13_]; rfl) ?_ (by exact h _ w7 rfl (Below.refl _ _))
      simp only [e13_]; go_simp <;> first | rfl | (simp only [IntWalk.i64_left]; rfl) | (simp only [IntWalk.i64_left, *]; done) | (simp only [IntWalk.i64_left, *]; rfl)
    · have e14_ : X 14 = _ := hD 14 (by decide) rfl
      refine tv rfl (by simp only [e14_]; rfl) ?_ (by exact h _ w7 rfl (Below.refl _ _))
      simp only [e14_]; go_simp <;> first | rfl | (simp only [IntWalk.i64_left]; rfl) | (simp only [IntWalk.i64_left, *]; done) | (simp only [IntWalk.i64_left, *]; rfl)
    · have e14_ : X 14 = _ := hD 14 (by decide) rfl
      have e15_ : X 15 = _ := hD 15 (by decide) rfl
      have hv := v1.below (show Keep [] _ _ from hb).nil
      have c0_ := hv.at 0 rfl
      refine tv rfl (by simp only [e14_, e15_]; rfl) ?_ (by exact h _ w7 rfl (Below.refl _ _))
      simp only [e14_, e15_]; go_simp <;> first | rfl | (simp only [IntWalk.i64_left]; rfl) | (simp only [IntWalk.i64_left, *]; done) | (simp only [IntWalk.i64_left, *]; rfl)
    · have e14_ : X 14 = _ := hD 14 (by decide) rfl
      refine tv rfl (by simp only [e14_]; rfl) ?_ (by exact h _ w7 rfl (Below.refl _ _))
      simp only [e14_]; go_simp <;> first | rfl | (simp only [IntWalk.i64_left]; rfl) | (simp only [IntWalk.i64_left, *]; done) | (simp only [IntWalk.i64_left, *]; rfl)
    · have e14_ : X 14 = _ := hD 14 (by decide) rfl
      have e16_ : X 16 = _ := hD 16 (by decide) rfl
      have e17_ : X 17 = _ := hD 17 (by decide) rfl
      refine tv rfl (by simp only [e14_, e16_, e17_]; rfl) ?_ (by exact h _ w7 rfl (Below.refl _ _))
      simp only [e14_, e16_, e17_]; go_simp <;> first | rfl | (simp only [IntWalk.i64_left]; rfl) | (simp only [IntWalk.i64_left, *]; done) | (simp only [IntWalk.i64_left, *]; rfl)
    · have e14_ : X 14 = _ := hD 14 (by decide) rfl
      refine tv rfl (by simp only [e14_]; rfl) ?_ (by exact h _ w7 rfl (Below.refl _ _))
      simp only [e14_]; go_simp <;> first | rfl | (simp only [IntWalk.i64_left]; rfl) | (simp only [IntWalk.i64_left, *]; done) | (simp only [IntWalk.i64_left, *]; rfl)
    · have e14_ : X 14 = _ := hD 14 (by decide) rfl
      have e19_ : X 19 = _ := hD 19 (by decide) rfl
      have hv := v1.below (show Keep [] _ _ from hb).nil
      have c0_ := hv.at 1 rfl
      refine tv rfl (by simp only [e14_, e19_]; rfl) ?_ (by exact h _ w7 rfl (Below.refl _ _))
      simp only [e14_, e19_]; go_simp <;> first | rfl | (simp only [IntWalk.i64_left]; rfl) | (simp only [IntWalk.i64_left, *]; done) | (simp only [IntWalk.i64_left, *]; rfl)
    · have e14_ : X 14 = _ := hD 14 (by decide) rfl
      refine tv rfl (by simp only [e14_]; rfl) ?_ (by exact h _ w7 rfl (Below.refl _ _))
      simp only [e14_]; go_simp <;> first | rfl | (simp only [IntWalk.i64_left]; rfl) | (simp only [IntWalk.i64_left, *]; done) | (simp only [IntWalk.i64_left, *]; rfl)
    · have e14_ : X 14 = _ := hD 14 (by decide) rfl
      have e20_ : X 20 = _ := hD 20 (by decide) rfl
      have e21_ : X 21 = _ := hD 21 (by decide) rfl
      refine tv rfl (by simp only [e14_, e20_, e21_]; rfl) ?_ (by exact h _ w7 rfl (Below.refl _ _))
      simp only [e14_, e20_, e21_]; go_simp <;> first | rfl | (simp only [IntWalk.i64_left]; rfl) | (simp only [IntWalk.i64_left, *]; done) | (simp only [IntWalk.i64_left, *]; rfl)
    · have e14_ : X 14 = _ := hD 14 (by decide) rfl
      refine tv rfl (by simp only [e14_]; rfl) ?_ (by exact h _ w7 rfl (Below.refl _ _))
      simp only [e14_]; go_simp <;> first | rfl | (simp only [IntWalk.i64_left]; rfl) | (simp only [IntWalk.i64_left, *]; done) | (simp only [IntWalk.i64_left, *]; rfl)
    · have e14_ : X 14 = _ := hD 14 (by decide) rfl
      have e23_ : X 23 = _ := hD 23 (by decide) rfl
      have hv := v1.below (show Keep [] _ _ from hb).nil
      have c0_ := hv.at 2 rfl
      refine tv rfl (by simp only [e14_, e23_]; rfl) ?_ (by exact h _ w7 rfl (Below.refl _ _))
      simp only [e14_, e23_]; go_simp <;> first | rfl | (simp only [IntWalk.i64_left]; rfl) | (simp only [IntWalk.i64_left, *]; done) | (simp only [IntWalk.i64_left, *]; rfl)
    · have e14_ : X 14 = _ := hD 14 (by decide) rfl
      refine tv rfl (by simp only [e14_]; rfl) ?_ (by exact h _ w7 rfl (Below.refl _ _))
      simp only [e14_]; go_simp <;> first | rfl | (simp only [IntWalk.i64_left]; rfl) | (simp only [IntWalk.i64_left, *]; done) | (simp only [IntWalk.i64_left, *]; rfl)
    · have e14_ : X 14 = _ := hD 14 (by decide) rfl
      have e24_ : X 24 = _ := hD 24 (by decide) rfl
      have e25_ : X 25 = _ := hD 25 (by decide) rfl
      refine tv rfl (by simp only [e14_, e24_, e25_]; rfl) ?_ (by exact h _ w7 rfl (Below.refl _ _))
      simp only [e14_, e24_, e25_]; go_simp <;> first | rfl | (simp only [IntWalk.i64_left]; rfl) | (simp only [IntWalk.i64_left, *]; done) | (simp only [IntWalk.i64_left, *]; rfl)
    · have e14_ : X 14 = _ := hD 14 (by decide) rfl
      have e18_ : X 18 = _ := hD 18 (by decide) rfl
      have e22_ : X 22 = _ := hD 22 (by decide) rfl
      have e26_ : X 26 = _ := hD 26 (by decide) rfl
      refine wpOp_call (i := 27) (f := 12) (args := #[.int .i64 0, .int .i64 q, .int .i64 r]) 90 rfl rfl (by simp only [e14_, e18_, e22_, e26_]; rfl) (by simp only [e14_, e18_, e22_, e26_]; go_simp) ?_
      refine (vec_l 0 q r _).mono ?_
      rintro e w8 ⟨rfl, hk⟩
      exact ⟨_, rfl, h _ w8 rfl hk⟩
    · have e14_ : X 14 = _ := hD 14 (by decide) rfl
      have hv := v0.below (show Keep [] _ _ from hb).nil
      have c0_ := hv.at 0 rfl
      have c1_ := hv.at 1 rfl
      have c2_ := hv.at 2 rfl
      refine tv rfl (by simp only [e14_]; rfl) ?_ (by exact h _ w7 rfl (Below.refl _ _))
      simp only [e14_]; go_simp <;> first | rfl | (simp only [IntWalk.i64_left]; rfl) | (simp only [IntWalk.i64_left, *]; done) | (simp only [IntWalk.i64_left, *]; rfl)
    · have e14_ : X 14 = _ := hD 14 (by decide) rfl
      have e27_ : X 27 = _ := hD 27 (by decide) rfl
      have e28_ : X 28 = _ := hD 28 (by decide) rfl
      refine tv rfl (by simp only [e14_, e27_, e28_]; rfl) ?_ (by exact h _ w7 rfl (Below.refl _ _))
      simp only [e14_, e27_, e28_]; go_simp <;> first | rfl | (simp only [IntWalk.i64_left]; rfl) | (simp only [IntWalk.i64_left, *]; done) | (simp only [IntWalk.i64_left, *]; rfl)
    · have e14_ : X 14 = _ := hD 14 (by decide) rfl
      have e29_ : X 29 = _ := hD 29 (by decide) rfl
      refine tv rfl (by simp only [e14_, e29_]; rfl) ?_ (by exact h _ w7 rfl (Below.refl _ _))
      simp only [e14_, e29_]; go_simp <;> first | rfl | (simp only [IntWalk.i64_left]; rfl) | (simp only [IntWalk.i64_left, *]; done) | (simp only [IntWalk.i64_left, *]; rfl)
  case al => exact Each.nil
  case st => exact Each.nil
  case into => exact Each.nil
  case fin =>
    intro X8_ W7 hI
    have hE : Keep [] W6 W7 := hI.keep
    have e30_ : X8_ 30 = _ := hI.fact 30 (by decide) rfl rfl
    have v0 := v0.below hE.nil
    have v1 := v1.below hE.nil
    have v2 := v2.below hE.nil
    have hB := hB.trans (hE.nil.mono hB.size)
    simp only [e30_]
    clear e30_ hI hE
    go_wp2_with fail
    obtain ⟨W8, hW_⟩ : ∃ W, W7.alloc (.cells #[.int .i64 2, .int .i64 3, .int .i64 5, .int .i64 7, .int .i64 11, .int .i64 13] 3) = W := ⟨_, rfl⟩
    have hk : Below (W7.alloc (.cells #[.int .i64 2, .int .i64 3, .int .i64 5, .int .i64 7, .int .i64 11, .int .i64 13] 3)).heap.size (W7.alloc (.cells #[.int .i64 2, .int .i64 3, .int .i64 5, .int .i64 7, .int .i64 11, .int .i64 13] 3)) W8 := by rw [hW_]; exact Below.refl _ _
    try rw [hW_]
    clear hW_
    have hs : Below W7.heap.size W7 W8 := Below.trans (by repeat (first | exact Below.refl _ _ | refine Below.alloc ?_ (by first | omega | (simp; try omega)) _ | refine Below.setCell ?_ (by first | omega | (simp; try omega)) _)) (hk.mono (by first | omega | (simp; try omega)))
    have v0 := v0.below hs
    have v1 := v1.below hs
    have v2 := v2.below hs
    have v3 : Var W8 (W7.heap.size) [.int .i64 2, .int .i64 3, .int .i64 5, .int .i64 7, .int .i64 11, .int .i64 13] := Var.low ⟨by first | omega | (simp; try omega), by simp [Cel, go_sem]⟩ hk (by first | omega | (simp; try omega))
    obtain ⟨b3, hb3⟩ : ∃ b, W7.heap.size = b := ⟨_, rfl⟩
    have lob3 : w.heap.size ≤ b3 := by have := hB.size; omega
    rw [hb3] at v3
    try rw [hb3]
    have hB := hB.trans (hs.mono hB.size)
    clear hb3 hs hk
    clear v0
    clear v2
    clear hG he1 he2 he3
    go_loopw [96] (fun i wr => ∃ k : Nat, k ≤ 6 ∧ i = .int .i64 (k : Int) ∧ Below w.heap.size w wr ∧ Var wr b1 [.int .i64 0, .int .i64 u2, .int .i64 u3] ∧ Var wr b3 [.int .i64 2, .int .i64 3, .int .i64 5, .int .i64 7, .int .i64 11, .int .i64 13]) (fun i _ => 6 - (intOf i).toNat)
    case atStart => exact ⟨0, by omega, rfl, hB, v1, v3⟩
    case round =>
      clear hB v1 v3
      obtain ⟨k, hk, rfl, hB, v1, v3⟩ := hrel
      have c0 := v1.at 0 rfl
      have c1 := v1.at 1 rfl
      have c2 := v1.at 2 rfl
      by_cases hlt : k < 6
      · obtain ⟨m, hm, hm2⟩ : ∃ m : Int, ([.int .i64 2, .int .i64 3, .int .i64 5, .int .i64 7, .int .i64 11, .int .i64 13] : List Value)[k]? = some (.int .i64 m) ∧ (2 ≤ m ∧ m ≤ 13) := by
          match k, hlt with
          | 0, _ => exact ⟨2, rfl, by decide, by decide⟩
          | 1, _ => exact ⟨3, rfl, by decide, by decide⟩
          | 2, _ => exact ⟨5, rfl, by decide, by decide⟩
          | 3, _ => exact ⟨7, rfl, by decide, by decide⟩
          | 4, _ => exact ⟨11, rfl, by decide, by decide⟩
          | 5, _ => exact ⟨13, rfl, by decide, by decide⟩
        have hq := v3.at k hm
        have hk6 : (k : Int) < 6 := by omega
        have hm0 : ¬ m = 0 := by omega
        have t1 := (IntWalk.i64_in _ (i64_tmod 0 m hm2.1 hm2.2))
        have t2 := (IntWalk.i64_in _ (i64_tmod u2 m hm2.1 hm2.2))
        have t3 := (IntWalk.i64_in _ (i64_tmod u3 m hm2.1 hm2.2))
        have HD := hideV (not_all hone.out m hm2.1)
        have HM := hideV hm2
        clear hm hm2
        have d1 : (0 : Int).tmod m = 0 := Int.zero_tmod m
        by_cases d2 : (u2 : Int).tmod m = 0
        · have d3 : ¬ (u3 : Int).tmod m = 0 := fun d3 => HD.out d1 d2 d3
          clear HD
          go_wp2_with fail
          go_roundw
          case rel => exact ⟨k + 1, by omega, by simp, hB, v1, v3⟩
          case measure => simp [intOf]; omega
        · clear HD
          go_wp2_with fail
          go_roundw
          case rel => exact ⟨k + 1, by omega, by simp, hB, v1, v3⟩
          case measure => simp [intOf]; omega
      · obtain rfl : k = 6 := by omega
        have cb1_0 := v1.at 0 rfl
        have cb1_1 := v1.at 1 rfl
        have cb1_2 := v1.at 2 rfl
        go_wp2_with fail
        refine (prim_yes 0 u2 u3 0 u2 u3 1 j1.out j2.out j3.out hy1 hy2 hy3 hy4 _).mono ?_
        rintro e W9 ⟨rfl, hk⟩
        have hs := hk
        have v1 := v1.below hs
        have v3 := v3.below hs
        have hB := hB.trans (hs.mono hB.size)
        clear cb1_0 cb1_1 cb1_2 hs hk
        go_wp2_with fail
        have hBs := hB.size
        go_ret
        exact ⟨rfl, by repeat (first | exact hB | refine Below.alloc ?_ (by first | omega | (simp; try omega)) _ | refine Below.setCell ?_ (by first | omega | (simp; try omega)) _)⟩


set_option maxRecDepth 100000 in
set_option maxHeartbeats 8000000 in
theorem prims_go01 (x y z : Int) (n : Nat) (hn : n < 65536) (f : Int) (hf : 1 + (n : Int) % 1000 = f) (r P3 u3 G : Int) (g : Nat) (hp0 : x.tmod 1099511627776 = 0) (hq0 : y.tmod 1099511627776 = 0) (hr0 : z.tmod 1099511627776 = r) (hp : Hid (I64 0)) (hq : Hid (I64 0)) (hr : Hid (I64 r))
    (hu1 : Hid ((0 : Int).tdiv (dv3 0 0 r : Int) = 0)) (_hu2 : Hid ((0 : Int).tdiv (dv3 0 0 r : Int) = 0)) (hu3 : Hid (r.tdiv (dv3 0 0 r : Int) = u3)) (hg : Hid (dv3 0 0 r = g)) (hne : ¬ r = 0) (hg1 : decide ((g : Int) < 1) = false)
    (_hP1 : Hid (wrap64 (0 * f) = 0)) (_hP2 : Hid (wrap64 (0 * f) = 0)) (hP3 : Hid (wrap64 (r * f) = P3)) (i1 : Hid (I64 0)) (i2 : Hid (I64 0)) (i3 : Hid (I64 P3))
    (ht1 : Hid ((0 : Int).tdiv (dv3 0 0 P3 : Int) = 0)) (_ht2 : Hid ((0 : Int).tdiv (dv3 0 0 P3 : Int) = 0)) (ht3 : Hid (P3.tdiv (dv3 0 0 P3 : Int) = u3)) (ht4 : Hid ((dv3 0 0 P3 : Int) = G)) (hG : Hid (wrap64 ((g : Int) * f) = G))
    (he1 : Hid (wrap64 (0 * (g : Int)) = 0)) (he2 : Hid (wrap64 (0 * (g : Int)) = 0)) (he3 : Hid (wrap64 (u3 * (g : Int)) = r))
    (j1 : Hid (I64 0)) (j2 : Hid (I64 0)) (j3 : Hid (I64 u3)) (hone : Hid (g3 0 0 u3 = 1)) (hy1 : Hid ((0 : Int).tdiv (dv3 0 0 u3 : Int) = 0)) (hy2 : Hid ((0 : Int).tdiv (dv3 0 0 u3 : Int) = 0)) (hy3 : Hid (u3.tdiv (dv3 0 0 u3 : Int) = u3)) (hy4 : Hid ((dv3 0 0 u3 : Int) = 1)) (w : World) : Calls Try.prog 7 #[V x y z, .int .u16 (n : Int)] w (Gives w (.bool true)) := by
  unfold V
  go_enter Try.func7, Try.ntmps7
  have hB := Below.refl w.heap.size w
  have hn1 : (n : Int) < 65536 := by omega
  go_wp2_with fail
  refine (sanity_true _).mono ?_
  rintro e W1 ⟨rfl, hk⟩
  have hs : Below w.heap.size w W1 := Below.trans (by repeat (first | exact Below.refl _ _ | refine Below.alloc ?_ (by first | omega | (simp; try omega)) _ | refine Below.setCell ?_ (by first | omega | (simp; try omega)) _)) (hk.mono (by first | omega | (simp; try omega)))
  have v0 : Var W1 (w.heap.size) [.int .i64 x, .int .i64 y, .int .i64 z] := Var.low ⟨by first | omega | (simp; try omega), by simp [Cel, go_sem]⟩ hk (by first | omega | (simp; try omega))
  obtain ⟨b0, hb0⟩ : ∃ b, w.heap.size = b := ⟨_, rfl⟩
  have lob0 : w.heap.size ≤ b0 := by have := hB.size; omega
  rw [hb0] at v0
  try rw [hb0]
  have hB := hB.trans (hs.mono hB.size)
  clear hb0 hs hk
  have cb0_0 := v0.at 0 rfl
  have cb0_1 := v0.at 1 rfl
  have cb0_2 := v0.at 2 rfl
  go_wp2_with fail
  refine (vec_l 0 0 r _).mono ?_
  rintro e W2 ⟨rfl, hk⟩
  try simp only [V]
  have hs := hk
  have v0 := v0.below hs
  have hB := hB.trans (hs.mono hB.size)
  clear cb0_0 cb0_1 cb0_2 hs hk
  clear hn1 hf hp0 hq0 hr0 hn
  have cb0_0 := v0.at 0 rfl
  have zb0_0 := v0.fr 0 (by simp)
  have cb0_1 := v0.at 1 rfl
  have zb0_1 := v0.fr 1 (by simp)
  have cb0_2 := v0.at 2 rfl
  have zb0_2 := v0.fr 2 (by simp)
  go_wp2_with fail
  refine (prim_p 0 0 r hp.out hq.out hr.out _).mono ?_
  rintro e W3 ⟨rfl, hk⟩
  try rw [hu1.out]
  try rw [hu2.out]
  rw [hu3.out, hg.out]
  try simp only [V]
  have lb0 := v0.1
  have v0 : Var W3 b0 [.int .i64 0, .int .i64 0, .int .i64 r] := Var.low ⟨by first | omega | (simp; try omega), by simp [Cel, go_sem, cb0_0, cb0_1, cb0_2, zb0_0, zb0_1, zb0_2]⟩ hk (by first | omega | (simp; try omega))
  have hB : Below w.heap.size w W3 := Below.trans (by repeat (first | exact hB | refine Below.alloc ?_ (by first | omega | (simp; try omega)) _ | refine Below.setCell ?_ (by first | omega | (simp; try omega)) _)) (hk.mono (by have := hB.size; first | omega | (simp; try omega)))
  clear cb0_0 cb0_1 cb0_2 zb0_0 zb0_1 zb0_2 lb0 hk
  have cb0_0 := v0.at 0 rfl
  have ab0_0_1 : ∀ o0, (W3.alloc o0).cell? ⟨b0, 0, none⟩ = some (.int .i64 0) := fun o0 => (v0.allocs1 o0).at 0 rfl
  have cb0_1 := v0.at 1 rfl
  have ab0_1_1 : ∀ o0, (W3.alloc o0).cell? ⟨b0, 1, none⟩ = some (.int .i64 0) := fun o0 => (v0.allocs1 o0).at 1 rfl
  have cb0_2 := v0.at 2 rfl
  have ab0_2_1 : ∀ o0, (W3.alloc o0).cell? ⟨b0, 2, none⟩ = some (.int .i64 r) := fun o0 => (v0.allocs1 o0).at 2 rfl
  go_wp2_with fail
  refine (vec_l 0 0 (wrap64 (r * f)) _).mono ?_
  rintro e W4 ⟨rfl, hk⟩
  try rw [hP1.out]
  try rw [hP2.out]
  try rw [hP3.out]
  try simp only [V]
  have hs : Below W3.heap.size W3 W4 := Below.trans (by repeat (first | exact Below.refl _ _ | refine Below.alloc ?_ (by first | omega | (simp; try omega)) _ | refine Below.setCell ?_ (by first | omega | (simp; try omega)) _)) (hk.mono (by first | omega | (simp; try omega)))
  have v0 := v0.below hs
  have v1 : Var W4 (W3.heap.size) [.int .i64 0, .int .i64 0, .int .i64 u3] := Var.low ⟨by first | omega | (simp; try omega), by simp [Cel, go_sem]⟩ hk (by first | omega | (simp; try omega))
  obtain ⟨b1, hb1⟩ : ∃ b, W3.heap.size = b := ⟨_, rfl⟩
  have lob1 : w.heap.size ≤ b1 := by have := hB.size; omega
  rw [hb1] at v1
  try rw [hb1]
  have hB := hB.trans (hs.mono hB.size)
  clear cb0_0 cb0_1 cb0_2 hb1 hs hk ab0_0_1 ab0_1_1 ab0_2_1
  go_wp2_with fail
  refine (prim_p 0 0 P3 i1.out i2.out i3.out _).mono ?_
  rintro e W5 ⟨rfl, hk⟩
  try rw [ht1.out]
  try rw [ht2.out]
  rw [ht3.out, ht4.out]
  try simp only [V]
  have hs := hk
  have v0 := v0.below hs
  have v1 := v1.below hs
  have hB := hB.trans (hs.mono hB.size)
  clear hs hk
  have hG := hG.out
  have he1 := he1.out
  have he2 := he2.out
  have he3 := he3.out
  go_wp2_with fail
  refine wp_region_dag (by kernel_rfl) ?_
  intro W6 hk
  have hs : Below W5.heap.size W5 W6 := Below.trans (by repeat (first | exact Below.refl _ _ | refine Below.alloc ?_ (by first | omega | (simp; try omega)) _ | refine Below.setCell ?_ (by first | omega | (simp; try omega)) _)) (hk.mono (by first | omega | (simp; try omega)))
  have v0 := v0.below hs
  have v1 := v1.below hs
  have v2 : Var W6 (W5.heap.size) [.int .i64 0, .int .i64 0, .int .i64 u3] := Var.low ⟨by first | omega | (simp; try omega), by simp [Cel, go_sem]⟩ hk (by first | omega | (simp; try omega))
  obtain ⟨b2, hb2⟩ : ∃ b, W5.heap.size = b := ⟨_, rfl⟩
  have lob2 : w.heap.size ≤ b2 := by have := hB.size; omega
  rw [hb2] at v2
  try rw [hb2]
  have hB := hB.trans (hs.mono hB.size)
  clear hb2 hs hk
  refine dagV (fun _ => trivial) 31 ?hn (fun X => ⟨#[.agg #[.int .i64 x, .int .i64 y, .int .i64 z], .int .u16 (n : Int), .pointer (some ⟨b0, 0, none⟩), undef, .bool false, .bool true, .int .i64 f, .pointer (some ⟨b1, 0, none⟩), .int .i64 (g : Int), .pointer (some ⟨b2, 0, none⟩), .int .i64 G, undef, undef, .bool true, .int .u16 (n : Int), .int .i64 (n : Int), .int .i64 ((n : Int) % 1000), .int .i64 f, .pointer (some ⟨b0, 0, none⟩), .int .i64 x, .int .i64 0, .pointer (some ⟨b0, 1, none⟩), .int .i64 y, .int .i64 0, .pointer (some ⟨b0, 2, none⟩), .int .i64 z, .int .i64 r, .agg #[.int .i64 0, .int .i64 0, .int .i64 r], .tuple #[.agg #[.int .i64 0, .int .i64 0, .int .i64 u3], .int .i64 (g : Int)], .agg #[.int .i64 0, .int .i64 0, .int .i64 r], .tuple #[.agg #[.int .i64 0, .int .i64 0, .int .i64 u3], .int .i64 (g : Int)], .agg #[.int .i64 0, .int .i64 0, .int .i64 u3], .int .i64 (g : Int), .agg #[.int .i64 0, .int .i64 0, .int .i64 r], .agg #[.int .i64 0, .int .i64 0, .int .i64 0], .bool false, undef, undef, undef, undef, undef, undef, undef, undef, undef, undef, .tuple #[.agg #[.int .i64 0, .int .i64 0, .int .i64 u3], .int .i64 G], .pointer (some ⟨b0, 0, none⟩), .int .i64 0, .int .i64 f, .int .i64 0, .pointer (some ⟨b0, 1, none⟩), .int .i64 0, .int .i64 f, .int .i64 0, .pointer (some ⟨b0, 2, none⟩), .int .i64 r, .int .i64 f, .int .i64 P3, .agg #[.int .i64 0, .int .i64 0, .int .i64 P3], .tuple #[.agg #[.int .i64 0, .int .i64 0, .int .i64 u3], .int .i64 G], .agg #[.int .i64 0, .int .i64 0, .int .i64 u3], .int .i64 G, X 0, X 1, X 2, X 3, X 4, X 5, X 6, X 7, X 8, X 9, X 10, X 11, X 12, X 13, X 14, X 15, X 16, X 17, X 18, X 19, X 20, X 21, X 22, X 23, X 24, X 25, X 26, X 27, X 28, X 29, X 30, undef, undef, undef, undef, undef, undef, undef, undef, undef, undef, undef, undef, undef, undef, undef, undef, undef, undef, undef, undef, undef, undef, undef, undef, undef, undef, undef, undef, undef, undef, undef, undef], []⟩) [(0, 0, 0), (0, 0, 0), (0, 0, 0), (0, 0, 0), (0, 0, 0), (0, 0, 0), (0, 0, 0), (0, 0, 0), (0, 0, 0), (0, 0, 0), (0, 0, 0), (0, 0, 0), (0, 0, 0), (0, 0, 0), (0, 0, 0), (0, 0, 0), (0, 0, 0), (0, 0, 0), (0, 0, 0), (0, 0, 0), (0, 0, 0), (0, 0, 0), (0, 0, 0), (0, 0, 0), (0, 0, 0), (0, 0, 0), (0, 0, 0), (0, 0, 0), (0, 0, 0), (0, 0, 0), (0, 0, 0)] (fun _ => []) [.val (.int .i64 (g : Int)), .val (.bool false), .val (.bool false), .val (.int .i64 G), .val (.int .i64 (g : Int)), .val (.int .i64 f), .val (.int .i64 G), .val (.bool false), .val (.bool false), .val (.bool false), .val (.agg #[.int .i64 0, .int .i64 0, .int .i64 u3]), .val (.agg #[.int .i64 0, .int .i64 0, .int .i64 u3]), .val (.bool false), .val (.bool false), .val (.bool false), .val (.pointer (some ⟨b1, 0, none⟩)), .val (.int .i64 0), .val (.int .i64 (g : Int)), .val (.int .i64 0), .val (.pointer (some ⟨b1, 1, none⟩)), .val (.int .i64 0), .val (.int .i64 (g : Int)), .val (.int .i64 0), .val (.pointer (some ⟨b1, 2, none⟩)), .val (.int .i64 u3), .val (.int .i64 (g : Int)), .val (.int .i64 r), .val (.agg #[.int .i64 0, .int .i64 0, .int .i64 r]), .val (.agg #[.int .i64 0, .int .i64 0, .int .i64 r]), .val (.bool false), .val (.bool false)] [[], [0], [1], [2], [2], [2], [2, 4, 5], [2, 3, 6], [2, 7], [8], [9], [9], [9, 10, 11], [9, 12], [13], [14], [14, 15], [14], [14, 16, 17], [14], [14, 19], [14], [14, 20, 21], [14], [14, 23], [14], [14, 24, 25], [14, 18, 22, 26], [14], [14, 27, 28], [14, 29]] [0, 1, 2, 3, 4, 5, 6, 7, 8, 9, 10, 11, 12, 13, 14, 15, 16, 17, 18, 19, 20, 21, 22, 23, 24, 25, 26, 27, 28, 29, 30] [] [] [] (fun _ => 0) W6 (by kernel_rfl) (by kernel_rfl) (by kernel_rfl) (by kernel_rfl) (by kernel_rfl) ?dist ?olds ?op ?al ?st ?into ?fin (fun _ => undef) _ _ (by kernel_rfl) (of_decide_eq_true (by kernel_rfl)) (of_decide_eq_true (by kernel_rfl))
  case hn => rfl
  case dist => intro i hi j hj; simp at hi hj; try omega
  case olds => exact nofun
  case op =>
    repeat' first | exact Each.nil | refine Each.cons ?_ ?_
    all_goals intro X w7 H hb hD h
    · refine tv rfl (by rfl) ?_ (by exact h _ w7 rfl (Below.refl _ _))
      go_simp <;> first | rfl | (simp only [IntWalk.i64_left]; rfl) | (simp only [IntWalk.i64_left, *]; done) | (simp only [IntWalk.i64_left, *]; rfl)
    · have e0_ : X 0 = _ := hD 0 (by decide) rfl
      refine tv rfl (by simp only [e0_]; rfl) ?_ (by exact h _ w7 rfl (Below.refl _ _))
      simp only [e0_]; go_simp <;> first | rfl | (simp only [IntWalk.i64_left]; rfl) | (simp only [IntWalk.i64_left, *]; done) | (simp only [IntWalk.i64_left, *]; rfl)
    · have e1_ : X 1 = _ := hD 1 (by decide) rfl
      refine tv rfl (by simp only [e1_]; rfl) ?_ (by exact h _ w7 rfl (Below.refl _ _))
      simp only [e1_]; go_simp <;> first | rfl | (simp only [IntWalk.i64_left]; rfl) | (simp only [IntWalk.i64_left, *]; done) | (simp only [IntWalk.i64_left, *]; rfl)
    · have e2_ : X 2 = _ := hD 2 (by decide) rfl
      refine tv rfl (by simp only [e2_]; rfl) ?_ (by exact h _ w7 rfl (Below.refl _ _))
      simp only [e2_]; go_simp <;> first | rfl | (simp only [IntWalk.i64_left]; rfl) | (simp only [IntWalk.i64_left, *]; done) | (simp only [IntWalk.i64_left, *]; rfl)
    · have e2_ : X 2 = _ := hD 2 (by decide) rfl
      refine tv rfl (by simp only [e2_]; rfl) ?_ (by exact h _ w7 rfl (Below.refl _ _))
      simp only [e2_]; go_simp <;> first | rfl | (simp only [IntWalk.i64_left]; rfl) | (simp only [IntWalk.i64_left, *]; done) | (simp only [IntWalk.i64_left, *]; rfl)
    · have e2_ : X 2 = _ := hD 2 (by decide) rfl
      refine tv rfl (by simp only [e2_]; rfl) ?_ (by exact h _ w7 rfl (Below.refl _ _))
      simp only [e2_]; go_simp <;> first | rfl | (simp only [IntWalk.i64_left]; rfl) | (simp only [IntWalk.i64_left, *]; done) | (simp only [IntWalk.i64_left, *]; rfl)
    · have e2_ : X 2 = _ := hD 2 (by decide) rfl
      have e4_ : X 4 = _ := hD 4 (by decide) rfl
      have e5_ : X 5 = _ := hD 5 (by decide) rfl
      refine tv rfl (by simp only [e2_, e4_, e5_]; rfl) ?_ (by exact h _ w7 rfl (Below.refl _ _))
      simp only [e2_, e4_, e5_]; go_simp <;> first | rfl | (simp only [IntWalk.i64_left]; rfl) | (simp only [IntWalk.i64_left, *]; done) | (simp only [IntWalk.i64_left, *]; rfl)
    · have e2_ : X 2 = _ := hD 2 (by decide) rfl
      have e3_ : X 3 = _ := hD 3 (by decide) rfl
      have e6_ : X 6 = _ := hD 6 (by decide) rfl
      refine tv rfl (by simp only [e2_, e3_, e6_]; rfl) ?_ (by exact h _ w7 rfl (Below.refl _ _))
      simp only [e2_, e3_, e6_]; go_simp <;> first | rfl | (simp only [IntWalk.i64_left]; rfl) | (simp only [IntWalk.i64_left, *]; done) | (simp only [IntWalk.i64_left, *]; rfl)
    · have e2_ : X 2 = _ := hD 2 (by decide) rfl
      have e7_ : X 7 = _ := hD 7 (by decide) rfl
      refine tv rfl (by simp only [e2_, e7_]; rfl) ?_ (by exact h _ w7 rfl (Below.refl _ _))
      simp only [e2_, e7_]; go_simp <;> first | rfl | (simp only [IntWalk.i64_left]; rfl) | (simp only [IntWalk.i64_left, *]; done) | (simp only [IntWalk.i64_left, *]; rfl)
    · have e8_ : X 8 = _ := hD 8 (by decide) rfl
      refine tv rfl (by simp only [e8_]; rfl) ?_ (by exact h _ w7 rfl (Below.refl _ _))
      simp only [e8_]; go_simp <;> first | rfl | (simp only [IntWalk.i64_left]; rfl) | (simp only [IntWalk.i64_left, *]; done) | (simp only [IntWalk.i64_left, *]; rfl)
    · have e9_ : X 9 = _ := hD 9 (by decide) rfl
      have hv := v2.below (show Keep [] _ _ from hb).nil
      have c0_ := hv.at 0 rfl
      have c1_ := hv.at 1 rfl
      have c2_ := hv.at 2 rfl
      refine tv rfl (by simp only [e9_]; rfl) ?_ (by exact h _ w7 rfl (Below.refl _ _))
      simp only [e9_]; go_simp <;> first | rfl | (simp only [IntWalk.i64_left]; rfl) | (simp only [IntWalk.i64_left, *]; done) | (simp only [IntWalk.i64_left, *]; rfl)
    · have e9_ : X 9 = _ := hD 9 (by decide) rfl
      have hv := v1.below (show Keep [] _ _ from hb).nil
      have c0_ := hv.at 0 rfl
      have c1_ := hv.at 1 rfl
      have c2_ := hv.at 2 rfl
      refine tv rfl (by simp only [e9_]; rfl) ?_ (by exact h _ w7 rfl (Below.refl _ _))
      simp only [e9_]; go_simp <;> first | rfl | (simp only [IntWalk.i64_left]; rfl) | (simp only [IntWalk.i64_left, *]; done) | (simp only [IntWalk.i64_left, *]; rfl)
    · have e9_ : X 9 = _ := hD 9 (by decide) rfl
      have e10_ : X 10 = _ := hD 10 (by decide) rfl
      have e11_ : X 11 = _ := hD 11 (by decide) rfl
      refine tv rfl (by simp only [e9_, e10_, e11_]; rfl) ?_ (by exact h _ w7 rfl (Below.refl _ _))
      simp only [e9_, e10_, e11_]; go_simp <;> first | rfl | (simp only [IntWalk.i64_left]; rfl) | (simp only [IntWalk.i64_left, *]; done) | (simp only [IntWalk.i64_left, *]; rfl)
    · have e9_ : X 9 = _ := hD 9 (by decide) rfl
      have e12_ : X 12 = _ := hD 12 (by decide) rfl
      refine tv rfl (by simp only [e9_, e12_]; rfl) ?_ (by exact h _ w7 rfl (Below.refl _ _))
      simp only [e9_, e12_]; go_simp <;> first | rfl | (simp only [IntWalk.i64_left]; rfl) | (simp only [IntWalk.i64_left, *]; done) | (simp only [IntWalk.i64_left, *]; rfl)
    · have e13_ : X 13 = _ := hD 13 (by decide) rfl
      refine tv rfl (by simp only [e13_]; rfl) ?_ (by exact h _ w7 rfl (Below.refl _ _))
      simp only [e13_]; go_simp <;> first | rfl | (simp only [IntWalk.i64_left]; rfl) | (simp only [IntWalk.i64_left, *]; done) | (simp only [IntWalk.i64_left, *]; rfl)
    · have e14_ : X 14 = _ := hD 14 (by decide) rfl
      refine tv rfl (by simp only [e14_]; rfl) ?_ (by exact h _ w7 rfl (Below.refl _ _))
      simp only [e14_]; go_simp <;> first | rfl | (simp only [IntWalk.i64_left]; rfl) | (simp only [IntWalk.i64_left, *]; done) | (simp only [IntWalk.i64_left, *]; rfl)
    · have e14_ : X 14 = _ := hD 14 (by decide) rfl
      have e15_ : X 15 = _ := hD 15 (by decide) rfl
      have hv := v1.below (show Keep [] _ _ from hb).nil
      have c0_ := hv.at 0 rfl
      refine tv rfl (by simp only [e14_, e15_]; rfl) ?_ (by exact h _ w7 rfl (Below.refl _ _))
      simp only [e14_, e15_]; go_simp <;> first | rfl | (simp only [IntWalk.i64_left]; rfl) | (simp only [IntWalk.i64_left, *]; done) | (simp only [IntWalk.i64_left, *]; rfl)
    · have e14_ : X 14 = _ := hD 14 (by decide) rfl
      refine tv rfl (by simp only [e14_]; rfl) ?_ (by exact h _ w7 rfl (Below.refl _ _))
      simp only [e14_]; go_simp <;> first | rfl | (simp only [IntWalk.i64_left]; rfl) | (simp only [IntWalk.i64_left, *]; done) | (simp only [IntWalk.i64_left, *]; rfl)
    · have e14_ : X 14 = _ := hD 14 (by decide) rfl
      have e16_ : X 16 = _ := hD 16 (by decide) rfl
      have e17_ : X 17 = _ := hD 17 (by decide) rfl
      refine tv rfl (by simp only [e14_, e16_, e17_]; rfl) ?_ (by exact h _ w7 rfl (Below.refl _ _))
      simp only [e14_, e16_, e17_]; go_simp <;> first | rfl | (simp only [IntWalk.i64_left]; rfl) | (simp only [IntWalk.i64_left, *]; done) | (simp only [IntWalk.i64_left, *]; rfl)
    · have e14_ : X 14 = _ := hD 14 (by decide) rfl
      refine tv rfl (by simp only [e14_]; rfl) ?_ (by exact h _ w7 rfl (Below.refl _ _))
      simp only [e14_]; go_simp <;> first | rfl | (simp only [IntWalk.i64_left]; rfl) | (simp only [IntWalk.i64_left, *]; done) | (simp only [IntWalk.i64_left, *]; rfl)
    · have e14_ : X 14 = _ := hD 14 (by decide) rfl
      have e19_ : X 19 = _ := hD 19 (by decide) rfl
      have hv := v1.below (show Keep [] _ _ from hb).nil
      have c0_ := hv.at 1 rfl
      refine tv rfl (by simp only [e14_, e19_]; rfl) ?_ (by exact h _ w7 rfl (Below.refl _ _))
      simp only [e14_, e19_]; go_simp <;> first | rfl | (simp only [IntWalk.i64_left]; rfl) | (simp only [IntWalk.i64_left, *]; done) | (simp only [IntWalk.i64_left, *]; rfl)
    · have e14_ : X 14 = _ := hD 14 (by decide) rfl
      refine tv rfl (by simp only [e14_]; rfl) ?_ (by exact h _ w7 rfl (Below.refl _ _))
      simp only [e14_]; go_simp <;> first | rfl | (simp only [IntWalk.i64_left]; rfl) | (simp only [IntWalk.i64_left, *]; done) | (simp only [IntWalk.i64_left, *]; rfl)
    · have e14_ : X 14 = _ := hD 14 (by decide) rfl
      have e20_ : X 20 = _ := hD 20 (by decide) rfl
      have e21_ : X 21 = _ := hD 21 (by decide) rfl
      refine tv rfl (by simp only [e14_, e20_, e21_]; rfl) ?_ (by exact h _ w7 rfl (Below.refl _ _))
      simp only [e14_, e20_, e21_]; go_simp <;> first | rfl | (simp only [IntWalk.i64_left]; rfl) | (simp only [IntWalk.i64_left, *]; done) | (simp only [IntWalk.i64_left, *]; rfl)
    · have e14_ : X 14 = _ := hD 14 (by decide) rfl
      refine tv rfl (by simp only [e14_]; rfl) ?_ (by exact h _ w7 rfl (Below.refl _ _))
      simp only [e14_]; go_simp <;> first | rfl | (simp only [IntWalk.i64_left]; rfl) | (simp only [IntWalk.i64_left, *]; done) | (simp only [IntWalk.i64_left, *]; rfl)
    · have e14_ : X 14 = _ := hD 14 (by decide) rfl
      have e23_ : X 23 = _ := hD 23 (by decide) rfl
      have hv := v1.below (show Keep [] _ _ from hb).nil
      have c0_ := hv.at 2 rfl
      refine tv rfl (by simp only [e14_, e23_]; rfl) ?_ (by exact h _ w7 rfl (Below.refl _ _))
      simp only [e14_, e23_]; go_simp <;> first | rfl | (simp only [IntWalk.i64_left]; rfl) | (simp only [IntWalk.i64_left, *]; done) | (simp only [IntWalk.i64_left, *]; rfl)
    · have e14_ : X 14 = _ := hD 14 (by decide) rfl
      refine tv rfl (by simp only [e14_]; rfl) ?_ (by exact h _ w7 rfl (Below.refl _ _))
      simp only [e14_]; go_simp <;> first | rfl | (simp only [IntWalk.i64_left]; rfl) | (simp only [IntWalk.i64_left, *]; done) | (simp only [IntWalk.i64_left, *]; rfl)
    · have e14_ : X 14 = _ := hD 14 (by decide) rfl
      have e24_ : X 24 = _ := hD 24 (by decide) rfl
      have e25_ : X 25 = _ := hD 25 (by decide) rfl
      refine tv rfl (by simp only [e14_, e24_, e25_]; rfl) ?_ (by exact h _ w7 rfl (Below.refl _ _))
      simp only [e14_, e24_, e25_]; go_simp <;> first | rfl | (simp only [IntWalk.i64_left]; rfl) | (simp only [IntWalk.i64_left, *]; done) | (simp only [IntWalk.i64_left, *]; rfl)
    · have e14_ : X 14 = _ := hD 14 (by decide) rfl
      have e18_ : X 18 = _ := hD 18 (by decide) rfl
      have e22_ : X 22 = _ := hD 22 (by decide) rfl
      have e26_ : X 26 = _ := hD 26 (by decide) rfl
      refine wpOp_call (i := 27) (f := 12) (args := #[.int .i64 0, .int .i64 0, .int .i64 r]) 90 rfl rfl (by simp only [e14_, e18_, e22_, e26_]; rfl) (by simp only [e14_, e18_, e22_, e26_]; go_simp) ?_
      refine (vec_l 0 0 r _).mono ?_
      rintro e w8 ⟨rfl, hk⟩
      exact ⟨_, rfl, h _ w8 rfl hk⟩
    · have e14_ : X 14 = _ := hD 14 (by decide) rfl
      have hv := v0.below (show Keep [] _ _ from hb).nil
      have c0_ := hv.at 0 rfl
      have c1_ := hv.at 1 rfl
      have c2_ := hv.at 2 rfl
      refine tv rfl (by simp only [e14_]; rfl) ?_ (by exact h _ w7 rfl (Below.refl _ _))
      simp only [e14_]; go_simp <;> first | rfl | (simp only [IntWalk.i64_left]; rfl) | (simp only [IntWalk.i64_left, *]; done) | (simp only [IntWalk.i64_left, *]; rfl)
    · have e14_ : X 14 = _ := hD 14 (by decide) rfl
      have e27_ : X 27 = _ := hD 27 (by decide) rfl
      have e28_ : X 28 = _ := hD 28 (by decide) rfl
      refine tv rfl (by simp only [e14_, e27_, e28_]; rfl) ?_ (by exact h _ w7 rfl (Below.refl _ _))
      simp only [e14_, e27_, e28_]; go_simp <;> first | rfl | (simp only [IntWalk.i64_left]; rfl) | (simp only [IntWalk.i64_left, *]; done) | (simp only [IntWalk.i64_left, *]; rfl)
    · have e14_ : X 14 = _ := hD 14 (by decide) rfl
      have e29_ : X 29 = _ := hD 29 (by decide) rfl
      refine tv rfl (by simp only [e14_, e29_]; rfl) ?_ (by exact h _ w7 rfl (Below.refl _ _))
      simp only [e14_, e29_]; go_simp <;> first | rfl | (simp only [IntWalk.i64_left]; rfl) | (simp only [IntWalk.i64_left, *]; done) | (simp only [IntWalk.i64_left, *]; rfl)
  case al => exact Each.nil
  case st => exact Each.nil
  case into => exact Each.nil
  case fin =>
    intro X8_ W7 hI
    have hE : Keep [] W6 W7 := hI.keep
    have e30_ : X8_ 30 = _ := hI.fact 30 (by decide) rfl rfl
    have v0 := v0.below hE.nil
    have v1 := v1.below hE.nil
    have v2 := v2.below hE.nil
    have hB := hB.trans (hE.nil.mono hB.size)
    simp only [e30_]
    clear e30_ hI hE
    go_wp2_with fail
    obtain ⟨W8, hW_⟩ : ∃ W, W7.alloc (.cells #[.int .i64 2, .int .i64 3, .int .i64 5, .int .i64 7, .int .i64 11, .int .i64 13] 3) = W := ⟨_, rfl⟩
    have hk : Below (W7.alloc (.cells #[.int .i64 2, .int .i64 3, .int .i64 5, .int .i64 7, .int .i64 11, .int .i64 13] 3)).heap.size (W7.alloc (.cells #[.int .i64 2, .int .i64 3, .int .i64 5, .int .i64 7, .int .i64 11, .int .i64 13] 3)) W8 := by rw [hW_]; exact Below.refl _ _
    try rw [hW_]
    clear hW_
    have hs : Below W7.heap.size W7 W8 := Below.trans (by repeat (first | exact Below.refl _ _ | refine Below.alloc ?_ (by first | omega | (simp; try omega)) _ | refine Below.setCell ?_ (by first | omega | (simp; try omega)) _)) (hk.mono (by first | omega | (simp; try omega)))
    have v0 := v0.below hs
    have v1 := v1.below hs
    have v2 := v2.below hs
    have v3 : Var W8 (W7.heap.size) [.int .i64 2, .int .i64 3, .int .i64 5, .int .i64 7, .int .i64 11, .int .i64 13] := Var.low ⟨by first | omega | (simp; try omega), by simp [Cel, go_sem]⟩ hk (by first | omega | (simp; try omega))
    obtain ⟨b3, hb3⟩ : ∃ b, W7.heap.size = b := ⟨_, rfl⟩
    have lob3 : w.heap.size ≤ b3 := by have := hB.size; omega
    rw [hb3] at v3
    try rw [hb3]
    have hB := hB.trans (hs.mono hB.size)
    clear hb3 hs hk
    clear v0
    clear v2
    clear hG he1 he2 he3
    go_loopw [96] (fun i wr => ∃ k : Nat, k ≤ 6 ∧ i = .int .i64 (k : Int) ∧ Below w.heap.size w wr ∧ Var wr b1 [.int .i64 0, .int .i64 0, .int .i64 u3] ∧ Var wr b3 [.int .i64 2, .int .i64 3, .int .i64 5, .int .i64 7, .int .i64 11, .int .i64 13]) (fun i _ => 6 - (intOf i).toNat)
    case atStart => exact ⟨0, by omega, rfl, hB, v1, v3⟩
    case round =>
      clear hB v1 v3
      obtain ⟨k, hk, rfl, hB, v1, v3⟩ := hrel
      have c0 := v1.at 0 rfl
      have c1 := v1.at 1 rfl
      have c2 := v1.at 2 rfl
      by_cases hlt : k < 6
      · obtain ⟨m, hm, hm2⟩ : ∃ m : Int, ([.int .i64 2, .int .i64 3, .int .i64 5, .int .i64 7, .int .i64 11, .int .i64 13] : List Value)[k]? = some (.int .i64 m) ∧ (2 ≤ m ∧ m ≤ 13) := by
          match k, hlt with
          | 0, _ => exact ⟨2, rfl, by decide, by decide⟩
          | 1, _ => exact ⟨3, rfl, by decide, by decide⟩
          | 2, _ => exact ⟨5, rfl, by decide, by decide⟩
          | 3, _ => exact ⟨7, rfl, by decide, by decide⟩
          | 4, _ => exact ⟨11, rfl, by decide, by decide⟩
          | 5, _ => exact ⟨13, rfl, by decide, by decide⟩
        have hq := v3.at k hm
        have hk6 : (k : Int) < 6 := by omega
        have hm0 : ¬ m = 0 := by omega
        have t1 := (IntWalk.i64_in _ (i64_tmod 0 m hm2.1 hm2.2))
        have t2 := (IntWalk.i64_in _ (i64_tmod 0 m hm2.1 hm2.2))
        have t3 := (IntWalk.i64_in _ (i64_tmod u3 m hm2.1 hm2.2))
        have HD := hideV (not_all hone.out m hm2.1)
        have HM := hideV hm2
        clear hm hm2
        have d1 : (0 : Int).tmod m = 0 := Int.zero_tmod m
        have d2 : (0 : Int).tmod m = 0 := Int.zero_tmod m
        have d3 : ¬ (u3 : Int).tmod m = 0 := fun d3 => HD.out d1 d2 d3
        clear HD
        go_wp2_with fail
        go_roundw
        case rel => exact ⟨k + 1, by omega, by simp, hB, v1, v3⟩
        case measure => simp [intOf]; omega
      · obtain rfl : k = 6 := by omega
        have cb1_0 := v1.at 0 rfl
        have cb1_1 := v1.at 1 rfl
        have cb1_2 := v1.at 2 rfl
        go_wp2_with fail
        refine (prim_yes 0 0 u3 0 0 u3 1 j1.out j2.out j3.out hy1 hy2 hy3 hy4 _).mono ?_
        rintro e W9 ⟨rfl, hk⟩
        have hs := hk
        have v1 := v1.below hs
        have v3 := v3.below hs
        have hB := hB.trans (hs.mono hB.size)
        clear cb1_0 cb1_1 cb1_2 hs hk
        go_wp2_with fail
        have hBs := hB.size
        go_ret
        exact ⟨rfl, by repeat (first | exact hB | refine Below.alloc ?_ (by first | omega | (simp; try omega)) _ | refine Below.setCell ?_ (by first | omega | (simp; try omega)) _)⟩


theorem w_in {x : Int} (h : x.natAbs ≤ 4611686018427387904) : wrap64 x = x := IntWalk.wrap64_in _ (by omega)
theorem i64_small {x : Int} (h : x.natAbs ≤ 4611686018427387904) : I64 x := by unfold I64; omega
theorem prims_true (x y z : Int) (n : Nat) (hn : n < 65536) (w : World) : Calls Try.prog 7 #[V x y z, .int .u16 (n : Int)] w (Gives w (.bool true)) := by
  obtain ⟨p, hp⟩ : ∃ p, x.tmod 1099511627776 = p := ⟨_, rfl⟩
  obtain ⟨q, hq⟩ : ∃ q, y.tmod 1099511627776 = q := ⟨_, rfl⟩
  obtain ⟨r, hr⟩ : ∃ r, z.tmod 1099511627776 = r := ⟨_, rfl⟩
  obtain ⟨f, hf⟩ : ∃ f : Nat, f = 1 + n % 1000 := ⟨_, rfl⟩
  have hfe : (1 : Int) + (n : Int) % 1000 = (f : Int) := by omega
  have hf1 : 1 ≤ f ∧ f ≤ 1000 := by omega
  by_cases h0 : p = 0 ∧ q = 0 ∧ r = 0
  · obtain ⟨rfl, rfl, rfl⟩ := h0
    exact prims_0 x y z n hn _ hfe hp hq hr w
  · have bnd : ∀ a b : Int, a.tmod 1099511627776 = b → b.natAbs ≤ 1099511627776 := fun a b h => by
      have := Int.natAbs_tmod a 1099511627776
      rw [h] at this
      have h2 := Nat.mod_lt a.natAbs (show (1099511627776 : Int).natAbs > 0 by decide)
      have h3 : (1099511627776 : Int).natAbs = 1099511627776 := rfl
      omega
    have bp := bnd _ _ hp
    have bq := bnd _ _ hq
    have br := bnd _ _ hr
    have hd : dv3 p q r = g3 p q r := dv3_g3 (by omega) (by omega) (by omega)
    have hgz : g3 p q r ≠ 0 := fun h => h0 (g3_zero.1 h)
    have hgl : g3 p q r ≤ 1099511627776 := g3_le bp bq br
    have mul : ∀ {a : Int} {b c d : Nat}, a.natAbs ≤ b → c ≤ d → (a * (c : Int)).natAbs ≤ b * d := fun ha hc => by rw [Int.natAbs_mul, Int.natAbs_natCast]; exact Nat.mul_le_mul ha hc
    have e1 := mul bp hf1.2
    have e2 := mul bq hf1.2
    have e3 := mul br hf1.2
    have hs : 1099511627776 * 1000 ≤ 4611686018427387904 := by decide
    have t1 := tdiv_nat p (g3 p q r)
    have t2 := tdiv_nat q (g3 p q r)
    have t3 := tdiv_nat r (g3 p q r)
    have hd2 : dv3 (p * f) (q * f) (r * f) = g3 p q r * f := (dv3_g3 (by omega) (by omega) (by omega)).trans (g3_mul p q r f)
    have hone := g3_prim hgz
    have c1 := Int.tdiv_mul_cancel (g3_x p q r)
    have c2 := Int.tdiv_mul_cancel (g3_y p q r)
    have c3 := Int.tdiv_mul_cancel (g3_z p q r)
    have hd3 : dv3 (p.tdiv (g3 p q r)) (q.tdiv (g3 p q r)) (r.tdiv (g3 p q r)) = 1 := (dv3_g3 (by omega) (by omega) (by omega)).trans hone
    have hgf : g3 p q r * f ≤ 1099511627776 * 1000 := Nat.mul_le_mul hgl hf1.2
    have a1 : Hid (I64 p) := i64_small (by omega)
    have a2 : Hid (I64 q) := i64_small (by omega)
    have a3 : Hid (I64 r) := i64_small (by omega)
    obtain ⟨G, hGe⟩ : ∃ G : Int, ((g3 p q r * f : Nat) : Int) = G := ⟨_, rfl⟩
    have m1 : Hid (p.tdiv (dv3 p q r : Int) = p.tdiv (g3 p q r)) := by show _ = _; rw [hd]
    have m2 : Hid (q.tdiv (dv3 p q r : Int) = q.tdiv (g3 p q r)) := by show _ = _; rw [hd]
    have m3 : Hid (r.tdiv (dv3 p q r : Int) = r.tdiv (g3 p q r)) := by show _ = _; rw [hd]
    have n1 : Hid (wrap64 (p * (f : Int)) = p * f) := w_in (by omega)
    have n2 : Hid (wrap64 (q * (f : Int)) = q * f) := w_in (by omega)
    have n3 : Hid (wrap64 (r * (f : Int)) = r * f) := w_in (by omega)
    have o1 : Hid (I64 (p * f)) := i64_small (by omega)
    have o2 : Hid (I64 (q * f)) := i64_small (by omega)
    have o3 : Hid (I64 (r * f)) := i64_small (by omega)
    have s1 : Hid ((p * f).tdiv (dv3 (p * f) (q * f) (r * f) : Int) = p.tdiv (g3 p q r)) := by
      show _ = _
      rw [hd2, ← g3_mul]; exact g3_scale p q r f (by omega)
    have s2 : Hid ((q * f).tdiv (dv3 (p * f) (q * f) (r * f) : Int) = q.tdiv (g3 p q r)) := by
      show _ = _
      rw [hd2, Int.natCast_mul]; exact Int.mul_tdiv_mul_of_pos_left q _ (by omega)
    have s3 : Hid ((r * f).tdiv (dv3 (p * f) (q * f) (r * f) : Int) = r.tdiv (g3 p q r)) := by
      show _ = _
      rw [hd2, Int.natCast_mul]; exact Int.mul_tdiv_mul_of_pos_left r _ (by omega)
    have s4 : Hid ((dv3 (p * f) (q * f) (r * f) : Int) = G) := by show _ = _; rw [hd2, hGe]
    have s5 : Hid (wrap64 ((g3 p q r : Int) * (f : Int)) = G) := by
      show _ = _
      rw [← hGe, ← Int.natCast_mul]; exact w_in (by rw [Int.natAbs_natCast]; omega)
    have r1 : Hid (wrap64 (p.tdiv (g3 p q r) * (g3 p q r : Int)) = p) := by show _ = _; rw [c1]; exact w_in (by omega)
    have r2 : Hid (wrap64 (q.tdiv (g3 p q r) * (g3 p q r : Int)) = q) := by show _ = _; rw [c2]; exact w_in (by omega)
    have r3 : Hid (wrap64 (r.tdiv (g3 p q r) * (g3 p q r : Int)) = r) := by show _ = _; rw [c3]; exact w_in (by omega)
    have j1 : Hid (I64 (p.tdiv (g3 p q r))) := i64_small (by omega)
    have j2 : Hid (I64 (q.tdiv (g3 p q r))) := i64_small (by omega)
    have j3 : Hid (I64 (r.tdiv (g3 p q r))) := i64_small (by omega)
    have y1 : Hid ((p.tdiv (g3 p q r)).tdiv (dv3 (p.tdiv (g3 p q r)) (q.tdiv (g3 p q r)) (r.tdiv (g3 p q r)) : Int) = p.tdiv (g3 p q r)) := by show _ = _; rw [hd3]; exact Int.tdiv_one _
    have y2 : Hid ((q.tdiv (g3 p q r)).tdiv (dv3 (p.tdiv (g3 p q r)) (q.tdiv (g3 p q r)) (r.tdiv (g3 p q r)) : Int) = q.tdiv (g3 p q r)) := by show _ = _; rw [hd3]; exact Int.tdiv_one _
    have y3 : Hid ((r.tdiv (g3 p q r)).tdiv (dv3 (p.tdiv (g3 p q r)) (q.tdiv (g3 p q r)) (r.tdiv (g3 p q r)) : Int) = r.tdiv (g3 p q r)) := by show _ = _; rw [hd3]; exact Int.tdiv_one _
    have y4 : Hid ((dv3 (p.tdiv (g3 p q r)) (q.tdiv (g3 p q r)) (r.tdiv (g3 p q r)) : Int) = 1) := by show _ = _; rw [hd3]; rfl
    have hl : decide (((g3 p q r : Nat) : Int) < 1) = false := decide_eq_false (by omega)
    have ho : Hid (g3 (p.tdiv (g3 p q r)) (q.tdiv (g3 p q r)) (r.tdiv (g3 p q r)) = 1) := hone
    clear hd2 hd3 hone c1 c2 c3 e1 e2 e3 hGe t1 t2 t3 bp bq br hgf
    have hd := hideV hd
    by_cases z0 : p = 0
    · subst z0
      simp only [Int.zero_mul, Int.zero_tdiv] at s2 s3 s4 y2 y3 y4 ho
      by_cases z1 : q = 0
      · subst z1
        simp only [Int.zero_mul, Int.zero_tdiv] at s3 s4 y3 y4 ho
        have z2 : ¬ r = 0 := fun e => h0 ⟨rfl, rfl, e⟩
        exact prims_go01 x y z n hn (f : Int) hfe r _ _ G _ hp hq hr (hideV ⟨by decide, by decide⟩) (hideV ⟨by decide, by decide⟩) a3 (hideV (Int.zero_tdiv _)) (hideV (Int.zero_tdiv _)) m3 hd z2 hl (hideV (by rw [Int.zero_mul]; kernel_rfl)) (hideV (by rw [Int.zero_mul]; kernel_rfl)) n3 (hideV ⟨by decide, by decide⟩) (hideV ⟨by decide, by decide⟩) o3 (hideV (Int.zero_tdiv _)) (hideV (Int.zero_tdiv _)) s3 s4 s5 (hideV (by rw [Int.zero_mul]; kernel_rfl)) (hideV (by rw [Int.zero_mul]; kernel_rfl)) r3 (hideV ⟨by decide, by decide⟩) (hideV ⟨by decide, by decide⟩) j3 ho (hideV (Int.zero_tdiv _)) (hideV (Int.zero_tdiv _)) y3 y4 w
      · exact prims_go0 x y z n hn (f : Int) hfe q r _ _ _ _ G _ hp hq hr (hideV ⟨by decide, by decide⟩) a2 a3 (hideV (Int.zero_tdiv _)) m2 m3 hd z1 hl (hideV (by rw [Int.zero_mul]; kernel_rfl)) n2 n3 (hideV ⟨by decide, by decide⟩) o2 o3 (hideV (Int.zero_tdiv _)) s2 s3 s4 s5 (hideV (by rw [Int.zero_mul]; kernel_rfl)) r2 r3 (hideV ⟨by decide, by decide⟩) j2 j3 ho (hideV (Int.zero_tdiv _)) y2 y3 y4 w
    · exact prims_go x y z n hn (f : Int) hfe p q r _ _ _ _ _ _ G _ hp hq hr a1 a2 a3 m1 m2 m3 hd z0 hl n1 n2 n3 o1 o2 o3 s1 s2 s3 s4 s5 r1 r2 r3 j1 j2 j3 ho y1 y2 y3 y4 w
end Go.Proofs.Ytcgdedcgncjplaa
