/- num's Gcd of words. -/
import Derived.Test.YtmpdeiopdempcaaGreatDoorNumS
import Derived.Test.YtmpdeiopdempcaaGreatDoorNumE
namespace Go.Proofs.YtmpdeiopdempcaaGreatDoor
open Go.RowKit Go.Shelf

set_option maxRecDepth 100000 in
set_option maxHeartbeats 1000000 in
theorem commonWord_any (x y : Nat) (hx : x < 18446744073709551616) (hy : y < 18446744073709551616) (w : World) :
    Calls Tryz.prog 79 #[.int .u64 (x : Int), .int .u64 (y : Int)] w fun e w' => e = .returned (.int .u64 ((Nat.gcd x y : Nat) : Int)) ∧ Below w.heap.size w w' := by
  go_enter Tryz.func79, Tryz.ntmps79
  go_wp2
  go_loopw [0, 1] (fun p q wr => ∃ (a b : Nat), p = .int .u64 (a : Int) ∧ q = .int .u64 (b : Int) ∧ a < 18446744073709551616 ∧ b < 18446744073709551616 ∧ Nat.gcd a b = Nat.gcd x y ∧ Below w.heap.size w wr)
    (fun _ q _ => (intOf q).toNat)
  case atStart => exact ⟨x, y, rfl, rfl, hx, hy, rfl, Below.refl _ _⟩
  case round =>
    obtain ⟨a, b, rfl, rfl, ha, hb, hg, hB⟩ := hrel
    have HG := hide hg
    clear hg
    by_cases h0 : 0 < b
    · have hne : ¬ b = 0 := by omega
      have hne' : ¬ (b : Int) = 0 := by omega
      have hlt := Nat.mod_lt a h0
      have hmod : IntKind.u64.wrap ((a : Int) % (b : Int)) = ((a % b : Nat) : Int) := by
        rw [← Int.natCast_emod]; exact IntWalk.u64_in _ ⟨Int.natCast_nonneg _, by omega⟩
      have hwb : IntKind.u64.wrap (b : Int) = (b : Int) := IntWalk.u64_in _ (by omega)
      have hwa : IntKind.u64.wrap (a : Int) = (a : Int) := IntWalk.u64_in _ (by omega)
      go_wp2
      go_region
      go_wp2
      go_roundw
      case rel => exact ⟨b, a % b, rfl, by rw [Int.natCast_emod], hb, Nat.lt_trans hlt hb, by rw [← HG.out, Nat.gcd_comm a b, Nat.gcd_rec b a, Nat.gcd_comm], hB.drew⟩
      case measure => simp [intOf]; omega
    · obtain rfl : b = 0 := by omega
      go_wp2
      go_ret
      refine ⟨?_, hB⟩
      rw [← HG.out, Nat.gcd_zero_right]; rfl

theorem dgt_zero {y j : Nat} (h : dlen y ≤ j) : dgt y j = 0 := by
  unfold dgt; rw [Nat.div_eq_of_lt (Nat.lt_of_lt_of_le (lt_bp_dlen y) (bp_le h))]
theorem mixF_dgt {y m j : Nat} (h : dlen y ≤ m) : mixF (dgt y) (fun _ => 0) m j = dgt y j := by
  unfold mixF; split
  · rfl
  · exact (dgt_zero (by omega)).symm

set_option maxRecDepth 100000 in
set_option maxHeartbeats 2000000 in
theorem common_ge (ax ay : Option Addr) (x y nx ny cx cy : Nat) (hnx : nx ≤ 2) (hny : ny ≤ 2) (hxy : y ≤ x) (w : World) (hx : IsD w ax nx x) (hy : IsD w ay ny y) :
    Calls Tryz.prog 46 #[.slice ax nx cx, .slice ay ny cy] w fun e w' => ∃ (a : Option Addr) (n cap : Nat), e = .returned (.slice a n cap) ∧ IsD w' a n (Nat.gcd x y) ∧ n ≤ cap ∧ (n = 0 ∨ Fresh w a) ∧ Below w.heap.size w w' := by
  have hcall := compare_any ax ay x y cx cy (by rw [← hx.len]; omega) w (by rw [← hx.len]; exact hx.dig) (by rw [← hy.len]; exact hy.dig)
  rw [← hx.len, ← hy.len] at hcall
  have hcmp : 0 ≤ cmpN x y := by
    rcases Nat.lt_or_eq_of_le hxy with h | h
    · rw [cmpN_gt h]; decide
    · rw [h, cmpN_eq]; decide
  have hle : ny ≤ nx := by rw [hx.len, hy.len]; exact dlen_mono (by omega)
  have hux : x < 18446744073709551616 := by have := lt_bp_dlen x; rw [← hx.len] at this; exact Nat.lt_of_lt_of_le this (by rw [← bp_two]; exact bp_le hnx)
  have huy : y < 18446744073709551616 := by have := lt_bp_dlen y; rw [← hy.len] at this; exact Nat.lt_of_lt_of_le this (by rw [← bp_two]; exact bp_le hny)
  have hgl : Nat.gcd x y < 18446744073709551616 := by
    rcases Nat.eq_zero_or_pos x with h | h
    · rw [h, Nat.gcd_zero_left]; exact huy
    · exact Nat.lt_of_le_of_lt (Nat.le_of_dvd h (Nat.gcd_dvd_left x y)) hux
  have HC := hide hcall
  have HXY := hide (And.intro hux (And.intro huy hgl))
  clear hcall hux huy hgl
  go_enter Tryz.func46, Tryz.ntmps46
  go_wp2_with fail
  refine HC.out.mono ?_
  rintro e w1 ⟨rfl, hb1⟩
  go_wp2_with fail
  refine (resize_any ax nx cx nx _ rfl (dgt x) (Nat.le_refl _) (by omega) _ (hx.dig.below hb1)).mono ?_
  rintro e w2 ⟨g1, rfl, hg1, hc1, hf1, hb2⟩
  have hB2 := hb1.trans (hb2.mono hb1.size)
  go_wp2_with fail
  refine (resize_any ay ny cy nx _ rfl (dgt y) hle (by omega) _ (hy.dig.below hB2)).mono ?_
  rintro e w3 ⟨g2, rfl, hg2, hc2, hf2, hb3⟩
  have hB3 := hB2.trans (hb3.mono hB2.size)
  have d1 : Dig w3 (some ⟨g1, 0, none⟩) nx (dgt x) := Dig.below (.inr ⟨g1, 0, rfl, hc1.congr fun j _ => mixF_dgt (Nat.le_of_eq hx.len.symm)⟩) hb3
  have d2 : Dig w3 (some ⟨g2, 0, none⟩) nx (dgt y) := .inr ⟨g2, 0, rfl, hc2.congr fun j _ => mixF_dgt (Nat.le_of_eq hy.len.symm)⟩
  have v1 : valF (dgt x) nx = x := by rw [hx.len, valF_dlen]
  have v2 : valF (dgt y) nx = y := by rw [valF_dgt]; exact Nat.mod_eq_of_lt (Nat.lt_of_lt_of_le (lt_bp_dlen y) (bp_le (by rw [← hy.len]; exact hle)))
  have hno : (nx : Int) ≤ 2 := by omega
  have V1 := hide v1
  have V2 := hide v2
  clear v1 v2 hc1 hc2 hf1 hf2
  go_wp2_with fail
  go_loopw [5, 6] (fun p q wr => p = .slice (some ⟨g1, 0, none⟩) nx nx ∧ q = .slice (some ⟨g2, 0, none⟩) nx nx ∧ wr = w3) (fun _ _ _ => 0)
  case atStart => exact ⟨rfl, rfl, rfl⟩
  obtain ⟨rfl, rfl, hwr⟩ := hrel
  rw [hwr]
  clear hwr
  go_wp2_with fail
  have hj := join_any (some ⟨g1, 0, none⟩) nx nx (dgt x) (by omega) (fun _ _ => dgt_lt _ _) w3 d1
  rw [V1.out] at hj
  refine hj.mono ?_
  rintro e w4 ⟨rfl, hb4⟩
  have hB4 := hB3.trans (hb4.mono hB3.size)
  clear hj
  go_wp2_with fail
  have hj := join_any (some ⟨g2, 0, none⟩) nx nx (dgt y) (by omega) (fun _ _ => dgt_lt _ _) w4 (d2.below hb4)
  rw [V2.out] at hj
  refine hj.mono ?_
  rintro e w5 ⟨rfl, hb5⟩
  have hB5 := hB4.trans (hb5.mono hB4.size)
  clear hj
  go_wp2_with fail
  refine (commonWord_any x y (by first | exact HXY.out.1 | exact HXY.out.2.1) (by first | exact HXY.out.2.1 | exact HXY.out.1) w5).mono ?_
  rintro e w6 ⟨rfl, hb6⟩
  have hB6 := hB5.trans (hb6.mono hB5.size)
  go_wp2_with fail
  refine (split_any (Nat.gcd x y) (HXY.out.2.2) w6).mono ?_
  rintro e w7 ⟨a7, n7, c7, rfl, hd7, hc7, hf7, hb7⟩
  go_wp2
  go_ret
  exact ⟨a7, n7, c7, rfl, by first | exact hd7 | (rw [Nat.gcd_comm]; exact hd7), hc7, hf7.imp id fun h ad e => Nat.le_trans hB6.size (h ad e), hB6.trans (hb7.mono hB6.size)⟩

set_option maxRecDepth 100000 in
set_option maxHeartbeats 2000000 in
theorem common_lt (ax ay : Option Addr) (x y nx ny cx cy : Nat) (hnx : nx ≤ 2) (hny : ny ≤ 2) (hxy : x < y) (w : World) (hx : IsD w ax nx x) (hy : IsD w ay ny y) :
    Calls Tryz.prog 46 #[.slice ax nx cx, .slice ay ny cy] w fun e w' => ∃ (a : Option Addr) (n cap : Nat), e = .returned (.slice a n cap) ∧ IsD w' a n (Nat.gcd x y) ∧ n ≤ cap ∧ (n = 0 ∨ Fresh w a) ∧ Below w.heap.size w w' := by
  have hcall := compare_any ax ay x y cx cy (by rw [← hx.len]; omega) w (by rw [← hx.len]; exact hx.dig) (by rw [← hy.len]; exact hy.dig)
  rw [← hx.len, ← hy.len] at hcall
  have hcmp : cmpN x y < 0 := by
    rw [cmpN_lt hxy]; decide
  have hle : nx ≤ ny := by rw [hy.len, hx.len]; exact dlen_mono (by omega)
  have hux : x < 18446744073709551616 := by have := lt_bp_dlen x; rw [← hx.len] at this; exact Nat.lt_of_lt_of_le this (by rw [← bp_two]; exact bp_le hnx)
  have huy : y < 18446744073709551616 := by have := lt_bp_dlen y; rw [← hy.len] at this; exact Nat.lt_of_lt_of_le this (by rw [← bp_two]; exact bp_le hny)
  have hgl : Nat.gcd x y < 18446744073709551616 := by
    rcases Nat.eq_zero_or_pos x with h | h
    · rw [h, Nat.gcd_zero_left]; exact huy
    · exact Nat.lt_of_le_of_lt (Nat.le_of_dvd h (Nat.gcd_dvd_left x y)) hux
  have HC := hide hcall
  have HXY := hide (And.intro hux (And.intro huy hgl))
  clear hcall hux huy hgl
  go_enter Tryz.func46, Tryz.ntmps46
  go_wp2_with fail
  refine HC.out.mono ?_
  rintro e w1 ⟨rfl, hb1⟩
  go_wp2_with fail
  refine (resize_any ay ny cy ny _ rfl (dgt y) (Nat.le_refl _) (by omega) _ (hy.dig.below hb1)).mono ?_
  rintro e w2 ⟨g1, rfl, hg1, hc1, hf1, hb2⟩
  have hB2 := hb1.trans (hb2.mono hb1.size)
  go_wp2_with fail
  refine (resize_any ax nx cx ny _ rfl (dgt x) hle (by omega) _ (hx.dig.below hB2)).mono ?_
  rintro e w3 ⟨g2, rfl, hg2, hc2, hf2, hb3⟩
  have hB3 := hB2.trans (hb3.mono hB2.size)
  have d1 : Dig w3 (some ⟨g1, 0, none⟩) ny (dgt y) := Dig.below (.inr ⟨g1, 0, rfl, hc1.congr fun j _ => mixF_dgt (Nat.le_of_eq hy.len.symm)⟩) hb3
  have d2 : Dig w3 (some ⟨g2, 0, none⟩) ny (dgt x) := .inr ⟨g2, 0, rfl, hc2.congr fun j _ => mixF_dgt (Nat.le_of_eq hx.len.symm)⟩
  have v1 : valF (dgt y) ny = y := by rw [hy.len, valF_dlen]
  have v2 : valF (dgt x) ny = x := by rw [valF_dgt]; exact Nat.mod_eq_of_lt (Nat.lt_of_lt_of_le (lt_bp_dlen x) (bp_le (by rw [← hx.len]; exact hle)))
  have hno : (ny : Int) ≤ 2 := by omega
  have V1 := hide v1
  have V2 := hide v2
  clear v1 v2 hc1 hc2 hf1 hf2
  go_wp2_with fail
  go_loopw [5, 6] (fun p q wr => p = .slice (some ⟨g1, 0, none⟩) ny ny ∧ q = .slice (some ⟨g2, 0, none⟩) ny ny ∧ wr = w3) (fun _ _ _ => 0)
  case atStart => exact ⟨rfl, rfl, rfl⟩
  obtain ⟨rfl, rfl, hwr⟩ := hrel
  rw [hwr]
  clear hwr
  go_wp2_with fail
  have hj := join_any (some ⟨g1, 0, none⟩) ny ny (dgt y) (by omega) (fun _ _ => dgt_lt _ _) w3 d1
  rw [V1.out] at hj
  refine hj.mono ?_
  rintro e w4 ⟨rfl, hb4⟩
  have hB4 := hB3.trans (hb4.mono hB3.size)
  clear hj
  go_wp2_with fail
  have hj := join_any (some ⟨g2, 0, none⟩) ny ny (dgt x) (by omega) (fun _ _ => dgt_lt _ _) w4 (d2.below hb4)
  rw [V2.out] at hj
  refine hj.mono ?_
  rintro e w5 ⟨rfl, hb5⟩
  have hB5 := hB4.trans (hb5.mono hB4.size)
  clear hj
  go_wp2_with fail
  refine (commonWord_any y x (by first | exact HXY.out.1 | exact HXY.out.2.1) (by first | exact HXY.out.2.1 | exact HXY.out.1) w5).mono ?_
  rintro e w6 ⟨rfl, hb6⟩
  have hB6 := hB5.trans (hb6.mono hB5.size)
  go_wp2_with fail
  refine (split_any (Nat.gcd y x) (by rw [Nat.gcd_comm]; exact HXY.out.2.2) w6).mono ?_
  rintro e w7 ⟨a7, n7, c7, rfl, hd7, hc7, hf7, hb7⟩
  go_wp2
  go_ret
  exact ⟨a7, n7, c7, rfl, by first | exact hd7 | (rw [Nat.gcd_comm]; exact hd7), hc7, hf7.imp id fun h ad e => Nat.le_trans hB6.size (h ad e), hB6.trans (hb7.mono hB6.size)⟩

theorem common_any (ax ay : Option Addr) (x y nx ny cx cy : Nat) (hnx : nx ≤ 2) (hny : ny ≤ 2) (w : World) (hx : IsD w ax nx x) (hy : IsD w ay ny y) :
    Calls Tryz.prog 46 #[.slice ax nx cx, .slice ay ny cy] w fun e w' => ∃ (a : Option Addr) (n cap : Nat), e = .returned (.slice a n cap) ∧ IsD w' a n (Nat.gcd x y) ∧ n ≤ cap ∧ (n = 0 ∨ Fresh w a) ∧ Below w.heap.size w w' := by
  rcases Nat.lt_or_ge x y with h | h
  · exact common_lt ax ay x y nx ny cx cy hnx hny h w hx hy
  · exact common_ge ax ay x y nx ny cx cy hnx hny h w hx hy

set_option maxRecDepth 100000 in
set_option maxHeartbeats 2000000 in
/-- Gcd, of whatever common returns -/
theorem gcd_of (sa sb : Bool) (aa ab : Option Addr) (na nb ca cb : Nat) (za zb : Int) (hna : na ≤ 64) (hnb : nb ≤ 64) (w : World) (ha : IsN w sa aa na za) (hb : IsN w sb ab nb zb)
    (hcom : ∀ w1, Below w.heap.size w w1 → Calls Tryz.prog 46 #[.slice aa na ca, .slice ab nb cb] w1 fun e w' => ∃ (a : Option Addr) (n cap : Nat), e = .returned (.slice a n cap) ∧ IsD w' a n (Nat.gcd za.natAbs zb.natAbs) ∧ n ≤ cap ∧ (n = 0 ∨ Fresh w1 a) ∧ Below w1.heap.size w1 w') :
    Calls Tryz.prog 16 #[.agg #[.bool sa, .slice aa na ca], .agg #[.bool sb, .slice ab nb cb]] w (NumPost w (Int.gcd za zb)) := by
  have hfit : dlen (Nat.gcd za.natAbs zb.natAbs) ≤ 64 := by
    rcases Nat.eq_zero_or_pos za.natAbs with h | h
    · rw [h, Nat.gcd_zero_left, ← hb.dig.len]; exact hnb
    · exact Nat.le_trans (dlen_mono (Nat.le_of_dvd h (Nat.gcd_dvd_left _ _))) (by rw [← ha.dig.len]; exact hna)
  have HF := hide hfit
  have HCM := hide hcom
  clear hfit hcom
  go_enter Tryz.func16, Tryz.ntmps16
  go_wp2_with fail
  obtain ⟨W0, hW0⟩ : ∃ W0, ((w.alloc (Obj.cells #[Value.bool sa, Value.slice aa na ca] 27)).alloc (Obj.cells #[Value.bool sb, Value.slice ab nb cb] 27)).alloc (Obj.cells #[Value.bool false, Value.slice none 0 0] 27) = W0 := ⟨_, rfl⟩
  have bA : Box2 W0 w.heap.size (.bool sa) (.slice aa na ca) := by rw [← hW0]; exact ((Box2.new w _ _ _).alloc _).alloc _
  have bB : Box2 W0 (w.heap.size + 1) (.bool sb) (.slice ab nb cb) := by
    have := (Box2.new (w.alloc (Obj.cells #[Value.bool sa, Value.slice aa na ca] 27)) (.bool sb) (.slice ab nb cb) 27).alloc (Obj.cells #[Value.bool false, Value.slice none 0 0] 27)
    rw [World.size_alloc] at this; rw [← hW0]; exact this
  have bC : Box2 W0 (w.heap.size + 1 + 1) (.bool false) (.slice none 0 0) := by
    have := Box2.new ((w.alloc (Obj.cells #[Value.bool sa, Value.slice aa na ca] 27)).alloc (Obj.cells #[Value.bool sb, Value.slice ab nb cb] 27)) (.bool false) (.slice none 0 0) 27
    rw [World.size_alloc, World.size_alloc] at this; rw [← hW0]; exact this
  have hsz : W0.heap.size = w.heap.size + 3 := by rw [← hW0]; simp
  have hB0 : Below w.heap.size w W0 := by rw [← hW0]; exact (((Below.refl _ w).alloc (Nat.le_refl _) _).alloc (by simp) _).alloc (by simp; omega) _
  rw [hW0]
  clear hW0
  refine (right_yes sa aa na ca za hna _ (ha.below hB0)).mono ?_
  rintro e w1 ⟨rfl, hb1⟩
  have hB1 : Below w.heap.size w w1 := hB0.trans (hb1.mono (by omega))
  have bA1 := bA.below hb1 (by omega)
  have bB1 := bB.below hb1 (by omega)
  have bC1 := bC.below hb1 (by omega)
  obtain ⟨b0, b1, -, -⟩ := bB1
  go_wp2_with fail
  refine (right_yes sb ab nb cb zb hnb _ (hb.below hB1)).mono ?_
  rintro e w2 ⟨rfl, hb2⟩
  have hB2 : Below w.heap.size w w2 := hB1.trans (hb2.mono hB1.size)
  have hs1 := hb1.size
  have bA2 := bA1.below hb2 (by omega)
  have bB2 := bB.below (hb1.trans (hb2.mono hb1.size)) (by omega)
  have bC2 := bC1.below hb2 (by omega)
  clear b0 b1 hs1
  obtain ⟨a0, a1, -, -⟩ := bA2
  obtain ⟨b0, b1, -, -⟩ := bB2
  go_wp2_with fail
  refine (HCM.out w2 hB2).mono ?_
  rintro e w3 ⟨a3, n3, cap3, rfl, hd3, hcap3, hfr3, hb3⟩
  have hB3 : Below w.heap.size w w3 := hB2.trans (hb3.mono hB2.size)
  have bC3 := bC2.below hb3 bC2.lt
  clear a0 a1 b0 b1
  go_wp2_with fail
  refine (number_of false a3 n3 cap3 _ hcap3 (by rw [hd3.len]; exact HF.out) _ hd3).mono ?_
  rintro e w4 ⟨s4, a4, n4, cap4, rfl, hn4, ha4, hb4⟩
  have bC4 := bC3.below hb4 bC3.lt
  have hBw4 := hB3.trans (hb4.mono hB3.size)
  have hlt2 : w.heap.size + 1 + 1 < w2.heap.size := bC2.lt
  have hfq : n4 = 0 ∨ ∀ ad, a4 = some ad → w2.heap.size ≤ ad.block := by
    have hn43 : n4 = n3 := by rw [hn4.dig.len, hd3.len, signed_abs]
    rcases ha4 with h | h
    · exact .inl h
    · rcases hfr3 with h' | h'
      · exact .inl (hn43.trans h')
      · exact .inr fun ad e => h' ad (h ▸ e)
  obtain ⟨hbx, hN, hBB⟩ := num_store (cap := cap4) bC4 (by omega) hBw4 hn4 (hfq.imp id fun h ad e => by have := h ad e; omega)
  have hN' := hide hN
  clear hN
  obtain ⟨q0, q1, -, -⟩ := hbx
  have bC4k := bC4
  obtain ⟨r0, r1, z0, z1⟩ := bC4
  go_wp2
  refine bodyPost_ret (v := .tuple #[.agg #[.bool s4, .slice a4 n4 cap4], .bool true]) (by simp [results, Tryz.results16, go_sem, q0, q1]) rfl ⟨_, _, _, _, rfl, ?_, hfq.imp id fun h ad e => Nat.le_trans hB2.size (h ad e), hBB⟩
  have := hN'.out
  simpa [signed, Int.gcd] using this

theorem gcd_small (sa sb : Bool) (aa ab : Option Addr) (na nb ca cb : Nat) (za zb : Int) (hna : na ≤ 2) (hnb : nb ≤ 2) (w : World) (ha : IsN w sa aa na za) (hb : IsN w sb ab nb zb) :
    Calls Tryz.prog 16 #[.agg #[.bool sa, .slice aa na ca], .agg #[.bool sb, .slice ab nb cb]] w (NumPost w (Int.gcd za zb)) :=
  gcd_of sa sb aa ab na nb ca cb za zb (by omega) (by omega) w ha hb fun w1 hw => common_any aa ab _ _ na nb ca cb hna hnb w1 (ha.dig.below hw) (hb.dig.below hw)
end Go.Proofs.YtmpdeiopdempcaaGreatDoor
