/- bits.Div64 where the divisor's highest bit is set: the quotient. -/
import Derived.Test.YtgenaicmjddjcaaGreatDoorPMem
import Derived.Test.YtgenaicmjddjcaaGreatDoorShelf
import Derived.Test.YtgenaicmjddjcaaGreatDoorPMath
import Derived.BigQuiet
import Derived.Deep.DeepCutAuto
import Derived.Deep.CutBlock
import Derived.Laws.Bits64b
namespace Go.Proofs.YtgenaicmjddjcaaGreatDoor
open Go.RowKit Go.Shelf

theorem bitLen_64 {y : Nat} (h : 9223372036854775808 ≤ y) (h' : y < 18446744073709551616) : Lib.bitLen y = 64 := by
 obtain ⟨h1, h2, h3⟩ := Lib.bitLenAux_bounds 64 y (by omega) (by omega)
 have h4 : Lib.bitLen y ≤ 64 := Lib.bitLen_le y 64 (by decide) (by omega)
 have e : Lib.bitLen y = Lib.bitLenAux 64 y := rfl
 rw [← e] at h1 h2 h3
 rcases Nat.lt_or_ge (Lib.bitLen y) 64 with h5 | h5
 · exfalso
   have : 2 ^ Lib.bitLen y ≤ 2 ^ 63 := Nat.pow_le_pow_right (by decide) (by omega)
   omega
 · omega
theorem lz64_top (y : Nat) (h : 9223372036854775808 ≤ y) (h' : y < 18446744073709551616) (w : World) :
 Calls Tryz.prog 188 #[.int .u64 (y : Int)] w fun e w' => e = .returned (.int .i64 0) ∧ w = w' := by
 refine (Tryz.bits_LeadingZeros64 (y : Int) w (by omega) (by omega)).mono ?_
 rintro e w' ⟨rfl, rfl⟩
 rw [Int.toNat_natCast, bitLen_64 h h']
 exact ⟨rfl, rfl⟩

def QuoPost (q : Nat) (w : World) (e : Ending) (w' : World) : Prop := ∃ r : Int, e = .returned (.tuple #[.int .u64 (q : Int), .int .u64 r]) ∧ Below w.heap.size w w'

set_option maxRecDepth 100000 in
set_option maxHeartbeats 4000000 in
theorem div64_zero (lo y : Nat) (hlo : lo < 18446744073709551616) (hy : 9223372036854775808 ≤ y) (hy' : y < 18446744073709551616) (w : World) :
 Calls Tryz.prog 180 #[.int .u64 0, .int .u64 (lo : Int), .int .u64 (y : Int)] w (QuoPost (lo / y) w) := by
 have hq : IntKind.u64.wrap ((lo : Int) / (y : Int)) = ((lo / y : Nat) : Int) := by
  rw [← Int.natCast_ediv]; exact IntWalk.u64_in _ ⟨Int.natCast_nonneg _, by have := Nat.div_le_self lo y; omega⟩
 have hy0 : ¬ y = 0 := by omega
 have hy1 : ¬ (y : Int) = 0 := by omega
 have hy2 : (0 : Int) < (y : Int) := by omega
 have hwl : IntKind.u64.wrap (lo : Int) = (lo : Int) := IntWalk.u64_in _ (by omega)
 have hwy : IntKind.u64.wrap (y : Int) = (y : Int) := IntWalk.u64_in _ (by omega)
 have HY := hide (And.intro hy hy')
 clear hy hy'
 go_enter Tryz.func180, Tryz.ntmps180
 go_wp2
 go_quiet (fail)
 go_wp2
 go_ret2
 exact ⟨(lo : Int) % (y : Int), by rw [Int.natCast_ediv]; rfl, ⟨rfl, rfl, rfl, Nat.le_refl _, fun _ _ => rfl⟩⟩

theorem est_step {u u1 y n1 n0 q r : Nat} (hy : y = n1 * 4294967296 + n0) (hn1 : 2147483648 ≤ n1) (hn0 : n0 < 4294967296) (hu : u = q * n1 + r) (_hr : r < 4294967296) (hu1 : u1 < 4294967296) (hge : (u * 4294967296 + u1) / y ≤ q) (hq : q ≤ 4294967297) (hlt : (u * 4294967296 + u1) / y < 4294967296)
 (hc : 4294967296 ≤ q ∨ 4294967296 * r + u1 < q * n0) : 0 < q ∧ u = (q - 1) * n1 + (r + n1) ∧ (u * 4294967296 + u1) / y ≤ q - 1 ∧ (4294967296 ≤ r + n1 → (u * 4294967296 + u1) / y = q - 1) := by
 have h1 : (u * 4294967296 + u1) / y < q := by
  rcases hc with h | h
  · omega
  · exact step_gt hy hu (by omega)
 obtain ⟨Q, hQ⟩ : ∃ Q, (u * 4294967296 + u1) / y = Q := ⟨_, rfl⟩
 rw [hQ] at h1 hge hlt ⊢
 have h2 := step_down hu (by omega)
 refine ⟨by omega, h2, by omega, fun hb => ?_⟩
 rw [← hQ]
 refine quot_eq (by omega) (by omega) (step_le hy h2 ?_)
 have h3 : (q - 1) * n0 ≤ 4294967296 * 4294967295 := Nat.mul_le_mul (by omega) (by omega)
 have h4 : 4294967296 * 4294967296 ≤ (r + n1) * 4294967296 := Nat.mul_le_mul_right _ hb
 omega
theorem est_stop {u u1 y n1 n0 q r : Nat} (hy : y = n1 * 4294967296 + n0) (hn1 : 2147483648 ≤ n1) (hu : u = q * n1 + r) (hge : (u * 4294967296 + u1) / y ≤ q) (hc : q * n0 ≤ 4294967296 * r + u1) : (u * 4294967296 + u1) / y = q :=
 quot_eq (by omega) hge (step_le hy hu (by omega))
theorem est_start {u y n1 n0 : Nat} (u1 : Nat) (hy : y = n1 * 4294967296 + n0) (hn1 : 2147483648 ≤ n1) (hn0 : n0 < 4294967296) (huy : u < y) (hu1 : u1 < 4294967296) :
 u = u / n1 * n1 + (u - u / n1 * n1) ∧ u / n1 * n1 ≤ u ∧ u - u / n1 * n1 < n1 ∧ (u * 4294967296 + u1) / y ≤ u / n1 ∧ u / n1 ≤ 4294967297 ∧ (u * 4294967296 + u1) / y < 4294967296 := by
 have h1 : u / n1 * n1 ≤ u := Nat.div_mul_le_self _ _
 have h2 : u < n1 * (u / n1 + 1) := Nat.lt_mul_div_succ u (by omega)
 rw [Nat.mul_add, Nat.mul_comm n1] at h2
 have h0 : 0 < y := by omega
 have h3 : (u * 4294967296 + u1) / y < 4294967296 := by rw [Nat.div_lt_iff_lt_mul h0]; omega
 refine ⟨by omega, h1, by omega, ?_, ?_, h3⟩
 · rw [Nat.le_div_iff_mul_le (by omega)]
   have h4 : (u * 4294967296 + u1) / y * y ≤ u * 4294967296 + u1 := Nat.div_mul_le_self _ _
   obtain ⟨t, ht⟩ : ∃ t, (u * 4294967296 + u1) / y = t := ⟨_, rfl⟩
   rw [ht] at h4 ⊢
   have h5 : t * (n1 * 4294967296) ≤ t * y := Nat.mul_le_mul_left t (by omega)
   rw [← Nat.mul_assoc] at h5
   omega
 · have : u / n1 < 4294967298 := by rw [Nat.div_lt_iff_lt_mul (by omega)]; omega
   omega

set_option maxRecDepth 100000 in
set_option maxHeartbeats 4000000 in
theorem div64_top (hi lo y : Nat) (hhi : hi < y) (hh0 : 0 < hi) (hlo : lo < 18446744073709551616) (hy : 9223372036854775808 ≤ y) (hy' : y < 18446744073709551616) (w : World) :
 Calls Tryz.prog 180 #[.int .u64 (hi : Int), .int .u64 (lo : Int), .int .u64 (y : Int)] w (QuoPost ((hi * 18446744073709551616 + lo) / y) w) := by
 obtain ⟨n1, hn1⟩ : ∃ n1, y / 4294967296 = n1 := ⟨_, rfl⟩
 obtain ⟨n0, hn0⟩ : ∃ n0, y % 4294967296 = n0 := ⟨_, rfl⟩
 obtain ⟨u1, hu1⟩ : ∃ u1, lo / 4294967296 = u1 := ⟨_, rfl⟩
 obtain ⟨u0, hu0⟩ : ∃ u0, lo % 4294967296 = u0 := ⟨_, rfl⟩
 have E1 : (y : Int) / 4294967296 = (n1 : Int) := by omega
 have E2 : bits BinOp.and IntKind.u64 (y : Int) 4294967295 = (n0 : Int) := by
  have := bits_and_u64_nat y 4294967295 (by omega) (by decide)
  rw [show ((4294967295 : Nat) : Int) = 4294967295 from rfl] at this
  rw [this, show (4294967295 : Nat) = 2 ^ 32 - 1 from by decide, Nat.and_two_pow_sub_one_eq_mod]; omega
 have E3 : (lo : Int) / 4294967296 = (u1 : Int) := by omega
 have E4 : bits BinOp.and IntKind.u64 (lo : Int) 4294967295 = (u0 : Int) := by
  have := bits_and_u64_nat lo 4294967295 (by omega) (by decide)
  rw [show ((4294967295 : Nat) : Int) = 4294967295 from rfl] at this
  rw [this, show (4294967295 : Nat) = 2 ^ 32 - 1 from by decide, Nat.and_two_pow_sub_one_eq_mod]; omega
 have E5 : bits BinOp.or IntKind.u64 (hi : Int) ((lo : Int) / 18446744073709551616) = (hi : Int) := by
  rw [show (lo : Int) / 18446744073709551616 = ((0 : Nat) : Int) from by omega, bits_or_u64_nat hi 0 (by omega) (by decide), Nat.or_zero]
 have hyA : (0 : Int) < (y : Int) := by omega
 have hhA : (0 : Int) < (hi : Int) := by omega
 have hA : (hi : Int) < (y : Int) := by omega
 have hz : ((hi : Int) == 0) = false := by simp; omega
 have hn1A : (0 : Int) < (n1 : Int) := by omega
 obtain ⟨g1, g2, g3, g4, g5, g6⟩ := est_start u1 (u := hi) (y := y) (n1 := n1) (n0 := n0) (by omega) (by omega) (by omega) hhi (by omega)
 obtain ⟨q1, hq1⟩ : ∃ q1, hi / n1 = q1 := ⟨_, rfl⟩
 rw [hq1] at g1 g2 g3 g4 g5
 have E6 : (hi : Int) / (n1 : Int) = (q1 : Int) := by rw [← hq1]; exact (Int.natCast_ediv _ _).symm
 obtain ⟨p1, hp1⟩ : ∃ p1, q1 * n1 = p1 := ⟨_, rfl⟩
 have E7 : (q1 : Int) * (n1 : Int) = (p1 : Int) := by rw [← hp1, Int.natCast_mul]
 obtain ⟨r1, hr1⟩ : ∃ r1, hi - p1 = r1 := ⟨_, rfl⟩
 rw [hp1, hr1] at g1 g3
 rw [hp1] at g2
 have W1 : IntKind.u64.wrap (p1 : Int) = (p1 : Int) := IntWalk.u64_in _ (by omega)
 have W2 : IntKind.u64.wrap (q1 : Int) = (q1 : Int) := IntWalk.u64_in _ (by omega)
 have W3 : IntKind.u64.wrap ((hi : Int) - (p1 : Int)) = (r1 : Int) := by rw [show (hi : Int) - (p1 : Int) = (r1 : Int) from by omega]; exact IntWalk.u64_in _ (by omega)
 have HL := hide (lz64_top y hy hy')
 have HY := hide (And.intro hy (And.intro hy' (And.intro hhi (And.intro hlo (And.intro hn1 (And.intro hn0 (And.intro hu1 hu0)))))))
 have HG := hide (And.intro g1 (And.intro g3 (And.intro g4 (And.intro g5 (And.intro g6 (And.intro hp1 (And.intro hr1 g2)))))))
 have HB := hide (show n1 < 4294967296 ∧ u1 < 4294967296 ∧ u0 < 4294967296 by omega)
 have HN := hide (And.intro (show 2147483648 ≤ n1 by omega) (And.intro (show n0 < 4294967296 by omega) (show y = n1 * 4294967296 + n0 by omega)))
 obtain ⟨Q1, hQ1⟩ : ∃ Q1, (hi * 4294967296 + u1) / y = Q1 := ⟨_, rfl⟩
 have HQ1 := hide hQ1
 have HLT1 := hide g6
 clear hn1 hn0 hu1 hu0 g1 g2 g3 g4 g5 g6 hp1 hq1 hr1 hQ1
 go_enter Tryz.func180, Tryz.ntmps180
 go_upto_block 0 with (go_at_call 188; refine (HL.out _).mono ?_; rintro e w' ⟨rfl, rfl⟩)
 go_cut [15] (fun q w' => q = .int .u64 (Q1 : Int) ∧ w = w')
 case first =>
  go_wp2_with fail
  go_loop [15, 16] (fun qv rv => ∃ q r : Nat, qv = .int .u64 (q : Int) ∧ rv = .int .u64 (r : Int) ∧ Hid (hi = q * n1 + r ∧ Q1 ≤ q ∧ q ≤ 4294967297) ∧ r < 4294967296) (fun qv _ => (intOf qv).toNat)
  case atStart => exact ⟨q1, r1, rfl, rfl, by have := HG.out; have := HQ1.out; exact ⟨by omega, by omega, by omega⟩, by have := HG.out; have := HB.out; omega⟩
  case round =>
   obtain ⟨q, r, rfl, rfl, HE, hr⟩ := hrel
   have hQ1 := HQ1.out
   obtain ⟨hu, hge, hq4⟩ := HE.out
   obtain ⟨hn1, hn0, hyy⟩ := HN.out
   have hlt : (hi * 4294967296 + u1) / y < 4294967296 := HLT1.out
   obtain ⟨b1, b2, b3⟩ := HB.out
   obtain ⟨m, hm⟩ : ∃ m, q * n0 = m := ⟨_, rfl⟩
   have M1 : (q : Int) * (n0 : Int) = (m : Int) := by rw [← hm, Int.natCast_mul]
   obtain ⟨ss, hss⟩ : ∃ ss, 4294967296 * r + u1 = ss := ⟨_, rfl⟩
   obtain ⟨rr, hrr⟩ : ∃ rr, 4294967296 * r = rr := ⟨_, rfl⟩
   have Z1 : IntKind.u64.wrap (4294967296 * (r : Int)) = (rr : Int) := by rw [show 4294967296 * (r : Int) = (rr : Int) from by omega]; exact IntWalk.u64_in _ (by omega)
   have Z2 : IntKind.u64.wrap ((rr : Int) + (u1 : Int)) = (ss : Int) := by rw [show (rr : Int) + (u1 : Int) = (ss : Int) from by omega]; exact IntWalk.u64_in _ (by omega)
   by_cases hc : 4294967296 ≤ q ∨ 4294967296 * r + u1 < q * n0
   · obtain ⟨k1, k2, k3, k4⟩ := est_step hyy hn1 hn0 hu hr (by omega) (by rw [hQ1]; exact hge) hq4 hlt hc
     rw [hQ1] at k3 k4
     obtain ⟨q', hq'⟩ : ∃ q', q - 1 = q' := ⟨_, rfl⟩
     obtain ⟨r', hr'⟩ : ∃ r', r + n1 = r' := ⟨_, rfl⟩
     rw [hq'] at k2 k3 k4
     rw [hr'] at k2 k4
     have V1 : IntKind.u64.wrap ((q : Int) - 1) = (q' : Int) := by rw [show (q : Int) - 1 = (q' : Int) from by omega]; exact IntWalk.u64_in _ (by omega)
     have V2 : IntKind.u64.wrap ((r : Int) + (n1 : Int)) = (r' : Int) := by rw [show (r : Int) + (n1 : Int) = (r' : Int) from by omega]; exact IntWalk.u64_in _ (by omega)
     have hq0 : (1 : Int) ≤ (q : Int) := by omega
     have HK := hide (And.intro k1 (And.intro k2 (And.intro k3 k4)))
     have HEE := hide (And.intro hge (And.intro hq4 hq'))
     by_cases hq : 4294967296 ≤ q
     · have hqA : decide ((4294967296 : Int) ≤ (q : Int)) = true := by simp; omega
       by_cases hb : 4294967296 ≤ r'
       · have hbA : decide ((4294967296 : Int) ≤ (r' : Int)) = true := by simp; omega
         clear hss hrr hr hc k1 k2 k3 k4 hQ1 hu hge hq4 hn1 hn0 hyy hlt hm hq' hr' b1 b2 b3 M1
         go_wp2_with fail
         go_meet
         exact ⟨by rw [HK.out.2.2.2 hb], rfl⟩
       · have hbA : decide ((4294967296 : Int) ≤ (r' : Int)) = false := by simp; omega
         have HBB := hide hb
         clear hss hrr hr hc k1 k2 k3 k4 hQ1 hu hge hq4 hn1 hn0 hyy hlt hm hq' hr' b1 b2 b3 M1 hb
         go_wp2_with fail
         go_round
         case rel => exact ⟨q', r', rfl, rfl, ⟨HK.out.2.1, HK.out.2.2.1, by have := HEE.out.2; omega⟩, by have := HBB.out; omega⟩
         case measure => simp [intOf]; have := HK.out.1; have := HEE.out.2.2; omega
     · have hqA : decide ((4294967296 : Int) ≤ (q : Int)) = false := by simp; omega
       have hmb : m ≤ 4294967295 * 4294967295 := by rw [← hm]; exact Nat.mul_le_mul (by omega) (by omega)
       have W9 : IntKind.u64.wrap (m : Int) = (m : Int) := IntWalk.u64_in _ (by omega)
       have hcA : decide (ss < m) = true := by simp; rcases hc with h | h <;> omega
       by_cases hb : 4294967296 ≤ r'
       · have hbA : decide ((4294967296 : Int) ≤ (r' : Int)) = true := by simp; omega
         clear hss hrr hr hc k1 k2 k3 k4 hQ1 hu hge hq4 hn1 hn0 hyy hlt hm hq' hr' b1 b2 b3 hmb
         go_wp2_with fail
         go_meet
         exact ⟨by rw [HK.out.2.2.2 hb], rfl⟩
       · have hbA : decide ((4294967296 : Int) ≤ (r' : Int)) = false := by simp; omega
         have HBB := hide hb
         clear hss hrr hr hc k1 k2 k3 k4 hQ1 hu hge hq4 hn1 hn0 hyy hlt hm hq' hr' b1 b2 b3 hmb hb
         go_wp2_with fail
         go_round
         case rel => exact ⟨q', r', rfl, rfl, ⟨HK.out.2.1, HK.out.2.2.1, by have := HEE.out.2; omega⟩, by have := HBB.out; omega⟩
         case measure => simp [intOf]; have := HK.out.1; have := HEE.out.2.2; omega
   · have hq : q < 4294967296 := by omega
     have hqA : decide ((4294967296 : Int) ≤ (q : Int)) = false := by simp; omega
     have hmb : m ≤ 4294967295 * 4294967295 := by rw [← hm]; exact Nat.mul_le_mul (by omega) (by omega)
     have W9 : IntKind.u64.wrap (m : Int) = (m : Int) := IntWalk.u64_in _ (by omega)
     have hcA : decide (ss < m) = false := by simp; omega
     have hstop := est_stop hyy hn1 hu (by rw [hQ1]; exact hge) (by omega)
     rw [hQ1] at hstop
     have HS := hide hstop
     clear hss hrr hr hc hQ1 hu hge hq4 hn1 hn0 hyy hlt hm b1 b2 b3 hmb hstop hq
     go_wp2_with fail
     go_meet
     exact ⟨by rw [HS.out], rfl⟩
 case rest =>
  obtain ⟨rfl, rfl⟩ := hcut
  obtain ⟨b1, b2, b3⟩ := HB.out
  obtain ⟨hn1, hn0, hyy⟩ := HN.out
  have hQ1 := HQ1.out
  obtain ⟨v, hv⟩ : ∃ v, (hi * 4294967296 + u1) % y = v := ⟨_, rfl⟩
  have hdm := Nat.div_add_mod (hi * 4294967296 + u1) y
  have hvy : v < y := by rw [← hv]; exact Nat.mod_lt _ (by omega)
  rw [hQ1, hv, Nat.mul_comm] at hdm
  obtain ⟨m2, hm2⟩ : ∃ m2, Q1 * y = m2 := ⟨_, rfl⟩
  rw [hm2] at hdm
  have M2 : (Q1 : Int) * (y : Int) = (m2 : Int) := by rw [← hm2, Int.natCast_mul]
  have wr : ∀ z : Int, IntKind.u64.wrap z = z % 18446744073709551616 := fun z => rfl
  have X1 : IntKind.u64.wrap ((hi : Int) * 4294967296) = ((hi * 4294967296 % 18446744073709551616 : Nat) : Int) := by rw [wr]; omega
  obtain ⟨a1, ha1⟩ : ∃ a1, hi * 4294967296 % 18446744073709551616 = a1 := ⟨_, rfl⟩
  rw [ha1] at X1
  have X2 : IntKind.u64.wrap ((a1 : Int) + (u1 : Int)) = (((a1 + u1) % 18446744073709551616 : Nat) : Int) := by rw [wr]; omega
  obtain ⟨a2, ha2⟩ : ∃ a2, (a1 + u1) % 18446744073709551616 = a2 := ⟨_, rfl⟩
  rw [ha2] at X2
  have X3 : IntKind.u64.wrap (m2 : Int) = ((m2 % 18446744073709551616 : Nat) : Int) := by rw [wr]; omega
  obtain ⟨a3, ha3⟩ : ∃ a3, m2 % 18446744073709551616 = a3 := ⟨_, rfl⟩
  rw [ha3] at X3
  have X4 : IntKind.u64.wrap ((a2 : Int) - (a3 : Int)) = (v : Int) := by rw [wr]; omega
  obtain ⟨g1, g2, g3, g4, g5, g6⟩ := est_start u0 (u := v) hyy hn1 hn0 hvy b3
  obtain ⟨q2, hq2⟩ : ∃ q2, v / n1 = q2 := ⟨_, rfl⟩
  rw [hq2] at g1 g2 g3 g4 g5
  have Y6 : (v : Int) / (n1 : Int) = (q2 : Int) := by rw [← hq2]; exact (Int.natCast_ediv _ _).symm
  obtain ⟨p2, hp2⟩ : ∃ p2, q2 * n1 = p2 := ⟨_, rfl⟩
  have Y7 : (q2 : Int) * (n1 : Int) = (p2 : Int) := by rw [← hp2, Int.natCast_mul]
  obtain ⟨r2, hr2⟩ : ∃ r2, v - p2 = r2 := ⟨_, rfl⟩
  rw [hp2, hr2] at g1 g3
  rw [hp2] at g2
  have Y1 : IntKind.u64.wrap (p2 : Int) = (p2 : Int) := IntWalk.u64_in _ (by omega)
  have Y2 : IntKind.u64.wrap (q2 : Int) = (q2 : Int) := IntWalk.u64_in _ (by omega)
  have Y3 : IntKind.u64.wrap ((v : Int) - (p2 : Int)) = (r2 : Int) := by rw [show (v : Int) - (p2 : Int) = (r2 : Int) from by omega]; exact IntWalk.u64_in _ (by omega)
  obtain ⟨Q2, hQ2⟩ : ∃ Q2, (v * 4294967296 + u0) / y = Q2 := ⟨_, rfl⟩
  have HQ2 := hide hQ2
  have HLT2 := hide g6
  have HG2 := hide (And.intro g1 (And.intro g3 (And.intro g4 (And.intro g5 (And.intro hp2 g2)))))
  have hfin : (hi * 18446744073709551616 + lo) / y = Q1 * 4294967296 + Q2 := by
   have hl : lo = u1 * 4294967296 + u0 := by have := HY.out; omega
   have e : hi * 18446744073709551616 + lo = v * 4294967296 + u0 + y * (Q1 * 4294967296) := by
    rw [← Nat.mul_assoc, Nat.mul_comm y, hm2, hl]; omega
   rw [e, Nat.add_mul_div_left _ _ (by omega), hQ2]; omega
  have hQ12 : Q1 < 4294967296 ∧ Q2 < 4294967296 := ⟨by rw [← hQ1]; exact HLT1.out, by rw [← hQ2]; exact g6⟩
  have HFIN := hide (And.intro hfin hQ12)
  have hvA : (v : Int) < (y : Int) := by omega
  clear b1 b2 b3 hn1 hn0 hyy hQ1 hv hdm hvy hm2 wr ha1 ha2 ha3 g1 g2 g3 g4 g5 g6 hq2 hp2 hr2 hQ2 hfin hQ12
  go_upto_block 2 with (fail)
  go_cut [18] (fun q w' => q = .int .u64 (Q2 : Int) ∧ w = w')
  case first =>
   go_wp2_with fail
   go_loop [18, 16] (fun qv rv => ∃ q r : Nat, qv = .int .u64 (q : Int) ∧ rv = .int .u64 (r : Int) ∧ Hid (v = q * n1 + r ∧ Q2 ≤ q ∧ q ≤ 4294967297) ∧ r < 4294967296) (fun qv _ => (intOf qv).toNat)
   case atStart => exact ⟨q2, r2, rfl, rfl, by have := HG2.out; have := HQ2.out; exact ⟨by omega, by omega, by omega⟩, by have := HG2.out; have := HB.out; omega⟩
   case round =>
    obtain ⟨q, r, rfl, rfl, HE, hr⟩ := hrel
    have hQ1 := HQ2.out
    obtain ⟨hu, hge, hq4⟩ := HE.out
    obtain ⟨hn1, hn0, hyy⟩ := HN.out
    have hlt : (v * 4294967296 + u0) / y < 4294967296 := HLT2.out
    obtain ⟨b1, b2, b3⟩ := HB.out
    obtain ⟨m, hm⟩ : ∃ m, q * n0 = m := ⟨_, rfl⟩
    have M1 : (q : Int) * (n0 : Int) = (m : Int) := by rw [← hm, Int.natCast_mul]
    obtain ⟨ss, hss⟩ : ∃ ss, 4294967296 * r + u0 = ss := ⟨_, rfl⟩
    obtain ⟨rr, hrr⟩ : ∃ rr, 4294967296 * r = rr := ⟨_, rfl⟩
    have Z1 : IntKind.u64.wrap (4294967296 * (r : Int)) = (rr : Int) := by rw [show 4294967296 * (r : Int) = (rr : Int) from by omega]; exact IntWalk.u64_in _ (by omega)
    have Z2 : IntKind.u64.wrap ((rr : Int) + (u0 : Int)) = (ss : Int) := by rw [show (rr : Int) + (u0 : Int) = (ss : Int) from by omega]; exact IntWalk.u64_in _ (by omega)
    by_cases hc : 4294967296 ≤ q ∨ 4294967296 * r + u0 < q * n0
    · obtain ⟨k1, k2, k3, k4⟩ := est_step hyy hn1 hn0 hu hr (by omega) (by rw [hQ1]; exact hge) hq4 hlt hc
      rw [hQ1] at k3 k4
      obtain ⟨q', hq'⟩ : ∃ q', q - 1 = q' := ⟨_, rfl⟩
      obtain ⟨r', hr'⟩ : ∃ r', r + n1 = r' := ⟨_, rfl⟩
      rw [hq'] at k2 k3 k4
      rw [hr'] at k2 k4
      have V1 : IntKind.u64.wrap ((q : Int) - 1) = (q' : Int) := by rw [show (q : Int) - 1 = (q' : Int) from by omega]; exact IntWalk.u64_in _ (by omega)
      have V2 : IntKind.u64.wrap ((r : Int) + (n1 : Int)) = (r' : Int) := by rw [show (r : Int) + (n1 : Int) = (r' : Int) from by omega]; exact IntWalk.u64_in _ (by omega)
      have hq0 : (1 : Int) ≤ (q : Int) := by omega
      have HK := hide (And.intro k1 (And.intro k2 (And.intro k3 k4)))
      have HEE := hide (And.intro hge (And.intro hq4 hq'))
      by_cases hq : 4294967296 ≤ q
      · have hqA : decide ((4294967296 : Int) ≤ (q : Int)) = true := by simp; omega
        by_cases hb : 4294967296 ≤ r'
        · have hbA : decide ((4294967296 : Int) ≤ (r' : Int)) = true := by simp; omega
          clear hss hrr hr hc k1 k2 k3 k4 hQ1 hu hge hq4 hn1 hn0 hyy hlt hm hq' hr' b1 b2 b3 M1
          go_wp2_with fail
          go_meet
          exact ⟨by rw [HK.out.2.2.2 hb], rfl⟩
        · have hbA : decide ((4294967296 : Int) ≤ (r' : Int)) = false := by simp; omega
          have HBB := hide hb
          clear hss hrr hr hc k1 k2 k3 k4 hQ1 hu hge hq4 hn1 hn0 hyy hlt hm hq' hr' b1 b2 b3 M1 hb
          go_wp2_with fail
          go_round
          case rel => exact ⟨q', r', rfl, rfl, ⟨HK.out.2.1, HK.out.2.2.1, by have := HEE.out.2; omega⟩, by have := HBB.out; omega⟩
          case measure => simp [intOf]; have := HK.out.1; have := HEE.out.2.2; omega
      · have hqA : decide ((4294967296 : Int) ≤ (q : Int)) = false := by simp; omega
        have hmb : m ≤ 4294967295 * 4294967295 := by rw [← hm]; exact Nat.mul_le_mul (by omega) (by omega)
        have W9 : IntKind.u64.wrap (m : Int) = (m : Int) := IntWalk.u64_in _ (by omega)
        have hcA : decide (ss < m) = true := by simp; rcases hc with h | h <;> omega
        by_cases hb : 4294967296 ≤ r'
        · have hbA : decide ((4294967296 : Int) ≤ (r' : Int)) = true := by simp; omega
          clear hss hrr hr hc k1 k2 k3 k4 hQ1 hu hge hq4 hn1 hn0 hyy hlt hm hq' hr' b1 b2 b3 hmb
          go_wp2_with fail
          go_meet
          exact ⟨by rw [HK.out.2.2.2 hb], rfl⟩
        · have hbA : decide ((4294967296 : Int) ≤ (r' : Int)) = false := by simp; omega
          have HBB := hide hb
          clear hss hrr hr hc k1 k2 k3 k4 hQ1 hu hge hq4 hn1 hn0 hyy hlt hm hq' hr' b1 b2 b3 hmb hb
          go_wp2_with fail
          go_round
          case rel => exact ⟨q', r', rfl, rfl, ⟨HK.out.2.1, HK.out.2.2.1, by have := HEE.out.2; omega⟩, by have := HBB.out; omega⟩
          case measure => simp [intOf]; have := HK.out.1; have := HEE.out.2.2; omega
    · have hq : q < 4294967296 := by omega
      have hqA : decide ((4294967296 : Int) ≤ (q : Int)) = false := by simp; omega
      have hmb : m ≤ 4294967295 * 4294967295 := by rw [← hm]; exact Nat.mul_le_mul (by omega) (by omega)
      have W9 : IntKind.u64.wrap (m : Int) = (m : Int) := IntWalk.u64_in _ (by omega)
      have hcA : decide (ss < m) = false := by simp; omega
      have hstop := est_stop hyy hn1 hu (by rw [hQ1]; exact hge) (by omega)
      rw [hQ1] at hstop
      have HS := hide hstop
      clear hss hrr hr hc hQ1 hu hge hq4 hn1 hn0 hyy hlt hm b1 b2 b3 hmb hstop hq
      go_wp2_with fail
      go_meet
      exact ⟨by rw [HS.out], rfl⟩
  case rest =>
   obtain ⟨rfl, rfl⟩ := hcut
   have hFA : (Q1 : Int) < 4294967296 := by have := HFIN.out; omega
   have hFB : (Q2 : Int) < 4294967296 := by have := HFIN.out; omega
   go_wp2
   go_ret2
   exact ⟨_, by rw [HFIN.out.1, Int.natCast_add, Int.natCast_mul]; rfl, Below.refl _ _⟩
end Go.Proofs.YtgenaicmjddjcaaGreatDoor
