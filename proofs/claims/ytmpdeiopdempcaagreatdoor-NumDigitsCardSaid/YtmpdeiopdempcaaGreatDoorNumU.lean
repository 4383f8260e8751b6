/- the law's Same and is; num's Div by a digit, by 0; divides. -/
import Derived.Test.YtmpdeiopdempcaaGreatDoorNumT
namespace Go.Proofs.YtmpdeiopdempcaaGreatDoor
open Go.RowKit Go.Shelf

set_option maxRecDepth 100000 in
set_option maxHeartbeats 2000000 in
theorem same_yes (s : Bool) (aa ab : Option Addr) (n ca cb : Nat) (f : Nat → Nat) (hn : n ≤ 1099511627776) (w : World) (ha : Dig w aa n f) (hb : Dig w ab n f) :
    Calls Tryz.prog 18 #[.agg #[.bool s, .slice aa n ca], .agg #[.bool s, .slice ab n cb]] w fun e w' => e = .returned (.bool true) ∧ Below w.heap.size w w' := by
  go_enter Tryz.func18, Tryz.ntmps18
  go_wp2_with fail
  obtain ⟨W0, hW0⟩ : ∃ W0, (w.alloc (Obj.cells #[Value.bool s, Value.slice aa n ca] 27)).alloc (Obj.cells #[Value.bool s, Value.slice ab n cb] 27) = W0 := ⟨_, rfl⟩
  have bA : Box2 W0 w.heap.size (.bool s) (.slice aa n ca) := by rw [← hW0]; exact (Box2.new w _ _ _).alloc _
  have bB : Box2 W0 (w.heap.size + 1) (.bool s) (.slice ab n cb) := by
    have := (Box2.new (w.alloc (Obj.cells #[Value.bool s, Value.slice aa n ca] 27)) (.bool s) (.slice ab n cb) 27)
    rw [World.size_alloc] at this; rw [← hW0]; exact this
  have hB0 : Below w.heap.size w W0 := by rw [← hW0]; exact ((Below.refl _ w).alloc (Nat.le_refl _) _).alloc (by simp) _
  have hW0s : w.heap.size + 2 ≤ W0.heap.size := by rw [← hW0]; simp
  try rw [hW0]
  clear hW0
  go_loopw [5] (fun i wr => ∃ k : Nat, k ≤ n ∧ i = .int .i64 (k : Int) ∧ Below W0.heap.size W0 wr) (fun i _ => n - (intOf i).toNat)
  case atStart => exact ⟨0, Nat.zero_le _, rfl, Below.refl _ _⟩
  case round =>
    obtain ⟨k, hk, rfl, hr⟩ := hrel
    obtain ⟨a0, a1, -, -⟩ := bA.below hr bA.lt
    obtain ⟨b0, b1, -, -⟩ := bB.below hr bB.lt
    by_cases hlt : k < n
    · have hBr := hB0.trans (hr.mono hB0.size)
      obtain ⟨p1, o1, rfl, hc1⟩ := (ha.below hBr).at (by omega)
      obtain ⟨p2, o2, rfl, hc2⟩ := (hb.below hBr).at (by omega)
      have hx1 := hc1 k hlt
      have hx2 := hc2 k hlt
      have hi0 : (0 : Int) ≤ (k : Int) := by omega
      have hi1 : (k : Int) < (n : Int) := by omega
      clear hc1 hc2
      go_wp2
      go_region
      go_wp2
      go_roundw
      case rel => exact ⟨k + 1, by omega, by go_num, hr.drew⟩
      case measure => simp [intOf]; omega
    · obtain rfl : k = n := by omega
      go_wp2
      go_ret
      exact ⟨rfl, hB0.trans (hr.mono hB0.size)⟩

set_option maxRecDepth 100000 in
set_option maxHeartbeats 1000000 in
theorem is_yes (s : Bool) (aa ab : Option Addr) (n ca cb : Nat) (f : Nat → Nat) (hn : n ≤ 1099511627776) (w : World) (ha : Dig w aa n f) (hb : Dig w ab n f) :
    Calls Tryz.prog 29 #[.agg #[.bool s, .slice aa n ca], .bool true, .bool s, .slice ab n cb] w fun e w' => e = .returned (.bool true) ∧ Below w.heap.size w w' := by
  go_enter Tryz.func29, Tryz.ntmps29
  go_wp2_with fail
  have hB0 : Below w.heap.size w (w.alloc (Obj.cells #[Value.bool s, Value.slice aa n ca] 27)) := (Below.refl _ w).alloc (Nat.le_refl _) _
  refine (same_yes s aa ab n ca cb f hn _ (ha.below hB0) (hb.below hB0)).mono ?_
  rintro e w1 ⟨rfl, hb1⟩
  go_wp2
  go_ret
  exact ⟨rfl, hB0.trans (hb1.mono hB0.size)⟩

theorem div_of (sa sb : Bool) (aa ab : Option Addr) (na nb ca cb : Nat) (za zb : Int) (hna : na ≤ 64) (hnb : nb ≤ 64) (w : World) (ha : IsN w sa aa na za) (hb : IsN w sb ab nb zb) (hb0 : 0 < nb)
    (hdiv : ∀ w1, Below w.heap.size w w1 → Calls Tryz.prog 39 #[.slice aa na ca, .slice ab nb cb] w1 (DivPost w1 za.natAbs zb.natAbs)) :
    Calls Tryz.prog 14 #[.agg #[.bool sa, .slice aa na ca], .agg #[.bool sb, .slice ab nb cb]] w (DivsPost w za zb) := by
  cases sa
  · exact div_pos sb aa ab na nb ca cb za zb hna hnb w ha hb hb0 hdiv
  · by_cases h : za.natAbs % zb.natAbs = 0
    · exact div_exact sb aa ab na nb ca cb za zb hna hnb w ha hb hb0 h hdiv
    · exact div_adj sb aa ab na nb ca cb za zb hna hnb w ha hb hb0 h hdiv

/-- Div by a number of one digit -/
theorem div_digit (sa sb : Bool) (aa ab : Option Addr) (na ca cb : Nat) (za zb : Int) (hna : na ≤ 64) (w : World) (ha : IsN w sa aa na za) (hb : IsN w sb ab 1 zb) :
    Calls Tryz.prog 14 #[.agg #[.bool sa, .slice aa na ca], .agg #[.bool sb, .slice ab 1 cb]] w (DivsPost w za zb) :=
  div_of sa sb aa ab na 1 ca cb za zb hna (by decide) w ha hb (by decide) fun w1 hw => by
    rcases Nat.lt_or_ge za.natAbs zb.natAbs with h | h
    · exact divide_lt aa ab _ _ na 1 ca cb (by omega) w1 (ha.dig.below hw) (hb.dig.below hw) h
    · exact divide_digit aa ab _ _ na ca cb (by omega) w1 (ha.dig.below hw) (hb.dig.below hw) h

set_option maxRecDepth 100000 in
set_option maxHeartbeats 2000000 in
theorem div_zero (sa sb : Bool) (aa ab : Option Addr) (na ca cb : Nat) (za : Int) (hna : na ≤ 64) (w : World) (ha : IsN w sa aa na za) (hb : IsN w sb ab 0 0) :
    Calls Tryz.prog 14 #[.agg #[.bool sa, .slice aa na ca], .agg #[.bool sb, .slice ab 0 cb]] w fun e w' =>
      e = .returned (.tuple #[.agg #[.bool false, .slice none 0 0], .agg #[.bool false, .slice none 0 0], .bool false]) ∧ Below w.heap.size w w' := by
  go_enter Tryz.func14, Tryz.ntmps14
  go_wp2_with fail
  obtain ⟨W0, hW0⟩ : ∃ W0, (((w.alloc (Obj.cells #[Value.bool sa, Value.slice aa na ca] 27)).alloc (Obj.cells #[Value.bool sb, Value.slice ab 0 cb] 27)).alloc (Obj.cells #[Value.bool false, Value.slice none 0 0] 27)).alloc (Obj.cells #[Value.bool false, Value.slice none 0 0] 27) = W0 := ⟨_, rfl⟩
  have bB : Box2 W0 (w.heap.size + 1) (.bool sb) (.slice ab 0 cb) := by
    have := ((Box2.new (w.alloc (Obj.cells #[Value.bool sa, Value.slice aa na ca] 27)) (.bool sb) (.slice ab 0 cb) 27).alloc (Obj.cells #[Value.bool false, Value.slice none 0 0] 27)).alloc (Obj.cells #[Value.bool false, Value.slice none 0 0] 27)
    rw [World.size_alloc] at this; rw [← hW0]; exact this
  have bC : Box2 W0 (w.heap.size + 1 + 1) (.bool false) (.slice none 0 0) := by
    have := (Box2.new ((w.alloc (Obj.cells #[Value.bool sa, Value.slice aa na ca] 27)).alloc (Obj.cells #[Value.bool sb, Value.slice ab 0 cb] 27)) (.bool false) (.slice none 0 0) 27).alloc (Obj.cells #[Value.bool false, Value.slice none 0 0] 27)
    rw [World.size_alloc, World.size_alloc] at this; rw [← hW0]; exact this
  have bD : Box2 W0 (w.heap.size + 1 + 1 + 1) (.bool false) (.slice none 0 0) := by
    have := Box2.new (((w.alloc (Obj.cells #[Value.bool sa, Value.slice aa na ca] 27)).alloc (Obj.cells #[Value.bool sb, Value.slice ab 0 cb] 27)).alloc (Obj.cells #[Value.bool false, Value.slice none 0 0] 27)) (.bool false) (.slice none 0 0) 27
    rw [World.size_alloc, World.size_alloc, World.size_alloc] at this; rw [← hW0]; exact this
  have hsz : W0.heap.size = w.heap.size + 4 := by rw [← hW0]; simp
  have hB0 : Below w.heap.size w W0 := by rw [← hW0]; exact ((((Below.refl _ w).alloc (Nat.le_refl _) _).alloc (by simp) _).alloc (by simp; omega) _).alloc (by simp; omega) _
  rw [hW0]
  clear hW0
  refine (right_yes sa aa na ca za hna _ (ha.below hB0)).mono ?_
  rintro e w1 ⟨rfl, hb1⟩
  have hB1 : Below w.heap.size w w1 := hB0.trans (hb1.mono (by omega))
  have bB1 := bB.below hb1 (by omega)
  have bC1 := bC.below hb1 (by omega)
  have bD1 := bD.below hb1 (by omega)
  obtain ⟨b0, b1, -, -⟩ := bB1
  go_wp2_with fail
  refine (right_yes sb ab 0 cb 0 (by decide) _ (hb.below hB1)).mono ?_
  rintro e w2 ⟨rfl, hb2⟩
  have hB2 : Below w.heap.size w w2 := hB1.trans (hb2.mono hB1.size)
  have hs1 := hb1.size
  have bB2 := bB.below (hb1.trans (hb2.mono hb1.size)) (by omega)
  have bC2 := bC1.below hb2 (by omega)
  have bD2 := bD1.below hb2 (by omega)
  clear b0 b1 hs1
  have kD := bD2.other (.bool false) (.slice none 0 0) (C := w.heap.size + 1 + 1 + 1) (B := w.heap.size + 1 + 1) (by omega)
  obtain ⟨q0, q1, -, -⟩ := (bC2.set (.bool false) (.slice none 0 0)).other (.bool false) (.slice none 0 0) (C := w.heap.size + 1 + 1) (B := w.heap.size + 1 + 1 + 1) (by omega)
  obtain ⟨r0, r1, -, -⟩ := kD.set (.bool false) (.slice none 0 0)
  have kB := below_set2 (below_set2 hB2 (B := w.heap.size + 1 + 1) (by omega) (.bool false) (.slice none 0 0)) (B := w.heap.size + 1 + 1 + 1) (by omega) (.bool false) (.slice none 0 0)
  have Q := hide (And.intro q0 (And.intro q1 (And.intro r0 r1)))
  clear q0 q1 r0 r1 kD
  obtain ⟨b0, b1, -, -⟩ := bB2
  obtain ⟨c0, c1, cf0, cf1⟩ := bC2
  obtain ⟨d0, d1, df0, df1⟩ := bD2
  go_wp2
  obtain ⟨q0, q1, r0, r1⟩ := Q.out
  exact bodyPost_ret (v := .tuple #[.agg #[.bool false, .slice none 0 0], .agg #[.bool false, .slice none 0 0], .bool false]) (by simp [results, Tryz.results14, go_sem, q0, q1, r0, r1]) rfl ⟨rfl, kB⟩

set_option maxRecDepth 100000 in
set_option maxHeartbeats 2000000 in
theorem divides_yes (a b q r : Int) (ha0 : -9223372036854775808 ≤ a) (ha1 : a ≤ 9223372036854775807) (hb0 : -4294967296 < b) (hb1 : b < 4294967296) (hbz : b ≠ 0)
    (hq0 : -9223372036854775808 ≤ q) (hq1 : q ≤ 9223372036854775807) (hr0 : -9223372036854775808 ≤ r) (hr1 : r ≤ 9223372036854775807)
    (huniq : ∀ q' r' : Int, a = q' * b + r' → 0 ≤ r' → r' < b.natAbs → q' = q ∧ r' = r) (w : World) :
    Calls Tryz.prog 30 #[.int .i64 a, .int .i64 b, .int .i64 q, .int .i64 r] w fun e w' => e = .returned (.bool true) ∧ Below w.heap.size w w' := by
  have HU := hide huniq
  clear huniq
  go_enter Tryz.func30, Tryz.ntmps30
  go_wp2_with fail
  refine (of_any a ha0 ha1 w).mono ?_
  rintro e w1 ⟨sa, aa, na, ca, rfl, hna, hw1⟩
  go_wp2_with fail
  refine (of_any b (by omega) (by omega) w1).mono ?_
  rintro e w2 ⟨sb, ab, nb, cb, rfl, hnb, hw2⟩
  have hB2 := hw1.trans (hw2.mono hw1.size)
  have hn64 : na ≤ 64 := by rw [hna.dig.len]; exact Nat.le_trans (dlen_le_two (by omega)) (by decide)
  have hnb1 : nb = 1 := by rw [hnb.dig.len]; exact dlen_one (by omega) (by omega)
  subst hnb1
  go_wp2_with fail
  refine (div_digit sa sb aa ab na ca cb a b hn64 w2 (hna.below hw2) hnb).mono ?_
  rintro e w3 ⟨q', r', s3, a3, n3, c3, s4, a4, n4, c4, rfl, he, hr0', hr1', hN3, hN4, -, -, -, -, hw3⟩
  obtain ⟨e1, e2⟩ := HU.out q' r' he hr0' hr1'
  rw [e1] at hN3
  rw [e2] at hN4
  clear e1 e2 he hr0' hr1'
  have hB3 := hB2.trans (hw3.mono hB2.size)
  go_wp2_with fail
  obtain ⟨W4, hW4⟩ : ∃ W4, (w3.alloc (Obj.cells #[Value.bool s3, Value.slice a3 n3 c3] 27)).alloc (Obj.cells #[Value.bool s4, Value.slice a4 n4 c4] 27) = W4 := ⟨_, rfl⟩
  have bQ : Box2 W4 w3.heap.size (.bool s3) (.slice a3 n3 c3) := by rw [← hW4]; exact (Box2.new w3 _ _ _).alloc _
  have bR : Box2 W4 (w3.heap.size + 1) (.bool s4) (.slice a4 n4 c4) := by
    have := (Box2.new (w3.alloc (Obj.cells #[Value.bool s3, Value.slice a3 n3 c3] 27)) (.bool s4) (.slice a4 n4 c4) 27)
    rw [World.size_alloc] at this; rw [← hW4]; exact this
  have hw4 : Below w3.heap.size w3 W4 := by rw [← hW4]; exact ((Below.refl _ w3).alloc (Nat.le_refl _) _).alloc (by simp) _
  have hB4 := hB3.trans (hw4.mono hB3.size)
  rw [hW4]
  clear hW4
  refine (int_fit s3 a3 n3 c3 q hq0 hq1 W4 (hN3.below hw4)).mono ?_
  rintro e w5 ⟨rfl, hw5⟩
  have hB5 := hB4.trans (hw5.mono hB4.size)
  obtain ⟨r0, r1, -, -⟩ := bR.below hw5 bR.lt
  clear bQ
  go_wp2_with fail
  refine (int_fit s4 a4 n4 c4 r hr0 hr1 w5 ((hN4.below hw4).below hw5)).mono ?_
  rintro e w6 ⟨rfl, hw6⟩
  have hB6 := hB5.trans (hw6.mono hB5.size)
  go_wp2
  go_ret
  exact ⟨rfl, hB6⟩
end Go.Proofs.YtmpdeiopdempcaaGreatDoor
