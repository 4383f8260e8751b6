/- The reference's twice and without. -/
import Derived.Test.YtgenaicmjddjcaaGreatDoorRdA
namespace Go.Proofs.YtgenaicmjddjcaaGreatDoor
open Go.RowKit Go.Shelf

theorem twice_step {V r X P v d e b : Nat} (h : V + r * P = 2 * X + b) (hs : v + 4294967296 * e = 2 * d + r) : V + v * P + e * (4294967296 * P) = 2 * (X + d * P) + b := by
 have h3 := congrArg (· * P) hs
 simp only [Nat.add_mul] at h3
 have h4 : 4294967296 * e * P = e * (4294967296 * P) := by rw [Nat.mul_comm 4294967296 e, Nat.mul_assoc]
 have h5 : 2 * d * P = 2 * (d * P) := Nat.mul_assoc _ _ _
 omega

set_option maxRecDepth 100000 in
set_option maxHeartbeats 4000000 in
theorem rtwice_any (a : Option Addr) (x n c b : Nat) (hn : n ≤ 100000000000) (hb1 : b ≤ 1) (w : World) (hx : IsD w a n x) :
 Calls Tryz.prog 152 #[.slice a n c, .int .u32 (b : Int)] w (DigPost w (2 * x + b)) := by
 obtain ⟨i0, hi, hz0, hz1, hz2⟩ := info_parts info_u32
 have HI := hide hi
 have HZ := hide (And.intro hz0 (And.intro hz1 hz2))
 have HX := hide hx
 have HLX := hide hx.len
 clear hi hz0 hz1 hz2 hx
 go_enter Tryz.func152, Tryz.ntmps152
 go_wp2_with fail
 go_loopw [1, 5, 6] (fun bv ov i wr => ∃ (k r : Nat) (h : Nat → Nat), k ≤ n ∧ r ≤ 1 ∧ i = .int .i64 (k : Int) ∧ bv = .int .u32 (r : Int) ∧ (∀ j, h j < 4294967296) ∧ valF h k + r * bp k = 2 * valF (dgt x) k + b ∧
  wr.ownsRow w.heap.size 68 1 ov k (digVals h k) ∧ Below w.heap.size w wr)
  (fun _ _ i _ => n - (intOf i).toNat)
 case atStart => exact ⟨0, b, fun _ => 0, Nat.zero_le _, hb1, rfl, rfl, fun _ => by show (0 : Nat) < _; decide, by simp [valF_zero, bp_zero], World.ownsRow_nil _ _ _ _, Below.refl _ _⟩
 case round =>
  obtain ⟨k, r, h, hk, hr1, rfl, rfl, hlt, hval, ho, hr⟩ := hrel
  have HO := hide ho
  have HV := hide hval
  have HL := hide hlt
  have HSZ := hide hr.size
  clear ho hval hlt
  by_cases hgo : k < n
  · obtain ⟨b0, off, rfl, hc⟩ := HX.out.dig.at (by omega)
    have hcw := hc k hgo
    have hdl := dgt_lt x k
    obtain ⟨d, hd⟩ : ∃ d, dgt x k = d := ⟨_, rfl⟩
    rw [hd] at hcw hdl
    have HD := hide hd
    have HCW := hide hcw
    have hcl := (hr.cell (p := ⟨b0, off + k, none⟩) (lt_of_cell hcw)).trans hcw
    have hgo' : (k : Int) < n := by omega
    obtain ⟨t, ht⟩ : ∃ t, 2 * d % 4294967296 = t := ⟨_, rfl⟩
    obtain ⟨e, he⟩ : ∃ e, d / 2147483648 = e := ⟨_, rfl⟩
    have z1 : (d : Int) * 2 % 4294967296 = (t : Int) := by omega
    have z2 : (d : Int) / 2147483648 = (e : Int) := by omega
    have hor : t ||| r = t + r := or_parts (s := 1) (by omega) (by omega)
    have z3 : bits BinOp.or IntKind.u32 (t : Int) (r : Int) = ((t + r : Nat) : Int) := by rw [or_u32_nat t r (by omega) (by omega), hor]
    obtain ⟨v, hv⟩ : ∃ v, t + r = v := ⟨_, rfl⟩
    rw [hv] at z3
    have hstep : v + 4294967296 * e = 2 * d + r := by omega
    have HST := hide hstep
    have HVL : Hid (v < 4294967296) := hide (by omega)
    have HE1 : Hid (e ≤ 1) := hide (by omega)
    clear hd hc hcw ht he hor hv hstep
    go_wp2_with (at_builtin; refine wpList_append_own _ rfl _ _ 23 rfl w.heap.size 68 i0 (.int .u32 0) 1 4 Tryz.underlying23 HI.out HZ.out.1 HZ.out.2.1 HZ.out.2.2 rfl (by decide) _ _ _ rfl (HO.out.alloc _) ⟨wr.heap.size, 0, none⟩ 1 1 [.int .u32 (v : Int)] rfl rfl (fun j u hj => by match j, hj with | 0, hj => simp at hj; subst hj; simp [Addr.add]) (fun u hu => by simp at hu; subst hu; rfl) (by unfold maxLen; omega) (by omega) (by have := HSZ.out; simp; omega) ?_; intro v' w2 hown hgrow _; have hb2 : Below w.heap.size w w2 := (hr.alloc HSZ.out _).grown hgrow (by rw [World.size_alloc]; have := HSZ.out; omega) (fun k' hk' => (HO.out.lt k' hk').1); have hcl2 := (hb2.cell (p := ⟨b0, off + k, none⟩) (lt_of_cell HCW.out)).trans HCW.out)
    go_roundw
    case rel => exact ⟨k + 1, e, putF h k v, by omega, HE1.out, by go_num, rfl, fun j => by unfold putF; split; exact HVL.out; exact HL.out j,
     by rw [valF_succ, valF_succ, bp_succ, putF_same, valF_putF_ge _ _ (Nat.le_refl _), HD.out]; exact twice_step HV.out HST.out, by rw [digVals_put]; exact hown, hb2⟩
    case measure => simp [intOf]; omega
  · have hkn : n ≤ k := by omega
    have h1 : ¬ (k : Int) < n := by omega
    have hvx : valF (dgt x) k = x := val_full (by rw [← HLX.out]; exact hkn)
    have HVX := hide hvx
    clear hvx
    go_wp2_with (at_builtin; refine wpList_append_own _ rfl _ _ 23 rfl w.heap.size 68 i0 (.int .u32 0) 1 4 Tryz.underlying23 HI.out HZ.out.1 HZ.out.2.1 HZ.out.2.2 rfl (by decide) _ _ _ rfl (HO.out.alloc _) ⟨wr.heap.size, 0, none⟩ 1 1 [.int .u32 (r : Int)] rfl rfl (fun j u hj => by match j, hj with | 0, hj => simp at hj; subst hj; simp [Addr.add]) (fun u hu => by simp at hu; subst hu; rfl) (by unfold maxLen; omega) (by omega) (by have := HSZ.out; simp; omega) ?_; intro v' w2 hown hgrow _)
    have hb2 : Below w.heap.size w w2 := (hr.alloc HSZ.out _).grown hgrow (by rw [World.size_alloc]; have := HSZ.out; omega) (fun k' hk' => (HO.out.lt k' hk').1)
    have hown' : w2.ownsRow w.heap.size 68 1 v' (k + 1) (digVals (putF h k r) (k + 1)) := by rw [digVals_put]; exact hown
    have hval : valF (putF h k r) (k + 1) = 2 * x + b := by rw [valF_succ, putF_same, valF_putF_ge _ _ (Nat.le_refl _), HV.out, HVX.out]
    obtain ⟨a3, c3, rfl, hcall⟩ := trim_own (by omega) (Nat.le_refl _) (fun j _ => by unfold putF; split; omega; exact HL.out j) hown' hb2
    rw [hval] at hcall
    refine hcall.mono ?_
    rintro e w3 ⟨a4, n4, c4, rfl, h4⟩
    go_wp2
    go_ret
    exact ⟨a4, n4, c4, rfl, h4⟩

set_option maxRecDepth 100000 in
set_option maxHeartbeats 4000000 in
theorem rwithout_any (a : Option Addr) (x n c m : Nat) (hn : n ≤ 100000000000) (hm : m ≤ 100000000000000) (w : World) (hx : IsD w a n x) :
 Calls Tryz.prog 151 #[.slice a n c, .int .i64 (m : Int)] w (DigPost w (x / 2 ^ m)) := by
 obtain ⟨i0, hi, hz0, hz1, hz2⟩ := info_parts info_u32
 have HI := hide hi
 have HZ := hide (And.intro hz0 (And.intro hz1 hz2))
 have HX := hide hx
 have HLX := hide hx.len
 have HE := hide (dgt_without x m)
 obtain ⟨q, hq⟩ : ∃ q, m / 32 = q := ⟨_, rfl⟩
 obtain ⟨r, hr⟩ : ∃ r, m % 32 = r := ⟨_, rfl⟩
 rw [hq, hr] at HE
 have hr32 : r < 32 := by omega
 have y1 : (m : Int) / 32 = (q : Int) := by omega
 have y2 : (m : Int) % 32 = (r : Int) := by omega
 have hql : q ≤ 100000000000000 := by omega
 have hQ : Hid (m = 32 * q + r) := hide (by omega)
 clear hi hz0 hz1 hz2 hx hq hr
 obtain ⟨Y, hY⟩ : ∃ Y, x / 2 ^ m = Y := ⟨_, rfl⟩
 rw [hY] at HE ⊢
 have HY := hide hY
 clear hY
 go_enter Tryz.func151, Tryz.ntmps151
 go_wp2_with fail
 go_loopw [5, 6] (fun ov i wr => ∃ j : Nat, (q + j ≤ n ∨ j = 0) ∧ i = .int .i64 ((q + j : Nat) : Int) ∧
  wr.ownsRow w.heap.size 68 1 ov j (digVals (dgt Y) j) ∧ Below w.heap.size w wr)
  (fun _ i _ => n - (intOf i).toNat)
 case atStart => exact ⟨0, .inr rfl, rfl, World.ownsRow_nil _ _ _ _, Below.refl _ _⟩
 case round =>
  obtain ⟨j, hj, rfl, ho, hr⟩ := hrel
  have HO := hide ho
  have HSZ := hide hr.size
  clear ho
  obtain ⟨k, hk⟩ : ∃ k, q + j = k := ⟨_, rfl⟩
  have HK := hide hk
  rw [hk] at hj ⊢
  clear hk
  by_cases hgo : k < n
  · have hE := HE.out j
    rw [HK.out] at hE
    have h0 : dgt x k < 4294967296 := dgt_lt _ _
    have h1 : dgt x (k + 1) < 4294967296 := dgt_lt _ _
    have CA : Hid (∀ W, Below w.heap.size w W → Calls Tryz.prog 121 #[.slice a n c, .int .i64 (k : Int)] W fun e w' => e = .returned (.int .u64 ((dgt x k : Nat) : Int)) ∧ W = w') := fun W hW => rat_num a n c k x (by omega) (by omega) W (HX.out.below hW)
    have CB : Hid (∀ W, Below w.heap.size w W → Calls Tryz.prog 121 #[.slice a n c, .int .i64 (((k + 1 : Nat) : Nat) : Int)] W fun e w' => e = .returned (.int .u64 ((dgt x (k + 1) : Nat) : Int)) ∧ W = w') := fun W hW => rat_num a n c (k + 1) x (by omega) (by omega) W (HX.out.below hW)
    rw [show ((k + 1 : Nat) : Int) = (k : Int) + 1 from by omega] at CB
    obtain ⟨d0, hd0⟩ : ∃ d, dgt x k = d := ⟨_, rfl⟩
    obtain ⟨d1, hd1⟩ : ∃ d, dgt x (k + 1) = d := ⟨_, rfl⟩
    rw [hd0] at hE h0 CA
    rw [hd1] at hE h1 CB
    obtain ⟨p, hp⟩ : ∃ p, d1 * 4294967296 + d0 = p := ⟨_, rfl⟩
    rw [hp] at hE
    have hpl : p < 18446744073709551616 := by omega
    obtain ⟨T, hT⟩ : ∃ T, p / 2 ^ r = T := ⟨_, rfl⟩
    rw [hT] at hE
    obtain ⟨v, hv⟩ : ∃ v, dgt Y j = v := ⟨_, rfl⟩
    have HV := hide hv
    rw [hv] at hE
    have z1 : (d0 : Int) + (d1 : Int) * 4294967296 = (p : Int) := by omega
    have z2 : (p : Int) / 2 ^ r = (T : Int) := by rw [← hT]; simp
    have z3 : (T : Int) % 4294967296 = (v : Int) := by omega
    have hTl : T ≤ p := by rw [← hT]; exact Nat.div_le_self _ _
    have hgo' : (k : Int) < n := by omega
    have hjl : j ≤ k := by have := HK.out; omega
    clear hd0 hd1 hp hT hv hE
    go_wp2_with fail
    refine (CA.out _ hr).mono ?_
    rintro e w' ⟨rfl, rfl⟩
    go_wp2_with fail
    refine (CB.out _ hr).mono ?_
    rintro e w' ⟨rfl, rfl⟩
    go_wp2_with (at_builtin; refine wpList_append_own _ rfl _ _ 23 rfl w.heap.size 68 i0 (.int .u32 0) 1 4 Tryz.underlying23 HI.out HZ.out.1 HZ.out.2.1 HZ.out.2.2 rfl (by decide) _ _ _ rfl (HO.out.alloc _) ⟨wr.heap.size, 0, none⟩ 1 1 [.int .u32 (v : Int)] rfl rfl (fun j u hj => by match j, hj with | 0, hj => simp at hj; subst hj; simp [Addr.add]) (fun u hu => by simp at hu; subst hu; rfl) (by unfold maxLen; omega) (by omega) (by have := HSZ.out; simp; omega) ?_; intro v' w2 hown hgrow _)
    have hb2 : Below w.heap.size w w2 := (hr.alloc HSZ.out _).grown hgrow (by rw [World.size_alloc]; have := HSZ.out; omega) (fun k' hk' => (HO.out.lt k' hk').1)
    go_roundw
    case rel => exact ⟨j + 1, by have := HK.out; omega, by have := HK.out; go_num, by rw [digVals_succ, HV.out]; exact hown, hb2⟩
    case measure => simp [intOf]; omega
  · have h1 : ¬ (k : Int) < n := by omega
    have hYj : Y < bp j := by
     rw [← HY.out]
     have hx : x < bp n := by rw [HLX.out]; exact lt_bp_dlen x
     have e1 : bp n ≤ 2 ^ m * bp j := by
      rw [bp_pow, bp_pow, ← Nat.pow_add]
      exact Nat.pow_le_pow_right (by decide) (by have := HK.out; have := hQ.out; omega)
     exact Nat.div_lt_of_lt_mul (by omega)
    have hval : valF (dgt Y) j = Y := by rw [valF_dgt]; exact Nat.mod_eq_of_lt hYj
    have hjl : j ≤ 1099511627776 := by have := HK.out; omega
    clear hYj
    obtain ⟨a3, c3, rfl, hcall⟩ := trim_own hjl (Nat.le_refl _) (fun i _ => dgt_lt Y i) HO.out hr
    rw [hval] at hcall
    clear hval
    go_wp2_with fail
    refine hcall.mono ?_
    rintro e w3 ⟨a4, n4, c4, rfl, h4⟩
    go_wp2
    go_ret
    exact ⟨a4, n4, c4, rfl, h4⟩
end Go.Proofs.YtgenaicmjddjcaaGreatDoor
