/- The reference's length, bit and digits. -/
import Derived.Test.YtgenaicmjddjcaaGreatDoorPRf
import Derived.Test.YtgenaicmjddjcaaGreatDoorPShift
namespace Go.Proofs.YtgenaicmjddjcaaGreatDoor
open Go.RowKit Go.Shelf

theorem dgt_lead {x n : Nat} (hn : n = dlen x) (h0 : 0 < n) : dgt x (n - 1) = x / bp (n - 1) ∧ 0 < x / bp (n - 1) := by
 have h1 : x < bp n := by rw [hn]; exact lt_bp_dlen x
 have h2 : bp n = bp (n - 1) * 4294967296 := by
  obtain ⟨m, rfl⟩ : ∃ m, n = m + 1 := ⟨n - 1, by omega⟩
  rw [bp_succ, Nat.add_sub_cancel]; omega
 have h3 : ¬ x < bp (n - 1) := fun h => by have := dlen_le_iff.2 h; omega
 refine ⟨?_, Nat.div_pos (by omega) (bp_pos _)⟩
 unfold dgt
 exact Nat.mod_eq_of_lt (Nat.div_lt_of_lt_mul (by omega))
theorem len_facts {x n j : Nat} (hn : n = dlen x) (h0 : 0 < n) (hj : dgt x (n - 1) / 2 ^ j = 0) (hj1 : j = 0 ∨ 2 ^ (j - 1) ≤ dgt x (n - 1)) : x < 2 ^ (32 * (n - 1) + j) ∧ 2 ^ (32 * (n - 1) + j) ≤ 2 * x := by
 obtain ⟨ht, hp⟩ := dgt_lead hn h0
 rw [ht] at hj hj1
 obtain ⟨t, htt⟩ : ∃ t, x / bp (n - 1) = t := ⟨_, rfl⟩
 rw [htt] at hj hj1 hp
 have hlt : t < 2 ^ j := Nat.lt_of_div_eq_zero (pow_pos' _) hj
 rw [Nat.pow_add, ← bp_pow]
 have h1 := Nat.div_add_mod x (bp (n - 1))
 have h2 := Nat.mod_lt x (bp_pos (n - 1))
 rw [htt] at h1
 rcases hj1 with h | h
 · subst h
   rw [Nat.pow_zero] at hlt
   omega
 · have hj0 : j ≠ 0 := fun h => by subst h; rw [Nat.pow_zero] at hlt; omega
   have e : 2 ^ j = 2 * 2 ^ (j - 1) := by rw [show j = j - 1 + 1 from by omega, Nat.pow_succ]; simp; omega
   constructor
   · have : bp (n - 1) * (t + 1) ≤ bp (n - 1) * 2 ^ j := Nat.mul_le_mul_left _ hlt
     rw [Nat.mul_add] at this
     omega
   · rw [e]
     have : bp (n - 1) * 2 ^ (j - 1) ≤ bp (n - 1) * t := Nat.mul_le_mul_left _ h
     rw [Nat.mul_left_comm]
     omega
theorem half_pow (t j : Nat) : t / 2 ^ (j + 1) = t / 2 ^ j / 2 := by rw [Nat.pow_succ, Nat.div_div_eq_div_mul]

set_option maxRecDepth 100000 in
set_option maxHeartbeats 2000000 in
theorem rlength_any (a : Option Addr) (n c x : Nat) (hn : n ≤ 100000000000) (w : World) (hx : IsD w a n x) :
 Calls Tryz.prog 150 #[.slice a n c] w fun e w' => ∃ L : Nat, e = .returned (.int .i64 (L : Int)) ∧ x < 2 ^ L ∧ (0 < x → 2 ^ L ≤ 2 * x) ∧ L ≤ 32 * n ∧ w' = w := by
 rcases Nat.eq_zero_or_pos n with h | h
 · subst h
   have hx0 : x = 0 := dlen_eq_zero.1 hx.len.symm
   subst hx0
   clear hx
   go_enter Tryz.func150, Tryz.ntmps150
   go_wp2
   go_ret
   exact ⟨0, rfl, by decide, by omega, by omega, rfl⟩
 · obtain ⟨b, off, rfl, hc⟩ := hx.dig.at h
   have hcl := hc (n - 1) (by omega)
   have hb := hc.lt h
   have hz : ((n : Int) == 0) = false := by simp; omega
   have hz1 : ((n : Int) - 1).toNat = n - 1 := by omega
   have HF := hide (fun j => len_facts (j := j) hx.len h)
   have ht := dgt_lt x (n - 1)
   obtain ⟨t, htt⟩ : ∃ t, dgt x (n - 1) = t := ⟨_, rfl⟩
   rw [htt] at hcl ht HF
   obtain ⟨m, hm⟩ : ∃ m, 32 * (n - 1) = m := ⟨_, rfl⟩
   rw [hm] at HF
   have hm' : 32 * ((n : Int) - 1) = (m : Int) := by omega
   have hml : m + 32 ≤ 32 * n := by omega
   clear hc hx htt hm
   go_enter Tryz.func150, Tryz.ntmps150
   go_wp2_with fail
   clear hm'
   go_loopw [3, 4] (fun nv tv wr => ∃ j : Nat, j ≤ 32 ∧ nv = .int .i64 ((m + j : Nat) : Int) ∧ tv = .int .u32 ((t / 2 ^ j : Nat) : Int) ∧ (j = 0 ∨ 2 ^ (j - 1) ≤ t) ∧ wr = w) (fun _ tv _ => (intOf tv).toNat)
   case atStart => exact ⟨0, by omega, rfl, by simp, .inl rfl, rfl⟩
   case round =>
    obtain ⟨j, hj, rfl, rfl, hj1, rfl⟩ := hrel
    obtain ⟨u, hu⟩ : ∃ u, t / 2 ^ j = u := ⟨_, rfl⟩
    have hul : u ≤ t := by rw [← hu]; exact Nat.div_le_self _ _
    by_cases h0 : u = 0
    · rw [hu, h0]
      have HU := hide (hu.trans h0)
      have HJ := hide hj1
      clear hu hj1 h0 hul u
      go_wp2
      go_ret
      have := HF.out j HU.out HJ.out
      exact ⟨m + j, rfl, this.1, fun _ => this.2, by omega, rfl⟩
    · have h0' : 0 < u := by omega
      have hj2 : 2 ^ j ≤ t := by
       rcases Nat.lt_or_ge t (2 ^ j) with h | h
       · rw [Nat.div_eq_of_lt h] at hu; omega
       · exact h
      have hj3 : j < 32 := by
       rcases Nat.lt_or_ge j 32 with h | h
       · exact h
       · have : 2 ^ 32 ≤ 2 ^ j := Nat.pow_le_pow_right (by decide) h
         omega
      have hu2 : t / 2 ^ (j + 1) = u / 2 := by rw [half_pow, hu]
      have hd : decide (0 < u) = true := by simp; omega
      have hdz : (0 : Int) < (u : Int) := by omega
      have HU := hide hu2
      have HJ := hide hj2
      rw [hu]
      clear hu hj1 hj2 hu2
      go_wp2_with fail
      go_roundw
      case rel => exact ⟨j + 1, by omega, by go_num, by rw [HU.out]; go_num, .inr HJ.out, trivial⟩
      case measure => simp [intOf]; omega

theorem two_digits (w : World) (v : Nat) (_hv : v < 18446744073709551616) (u0 u1 : Value) (h0 : u0 = .int .u32 ((dgt v 0 : Nat) : Int)) (h1 : u1 = .int .u32 ((dgt v 1 : Nat) : Int)) (t : TypeId) :
 Dig (w.alloc (Obj.cells #[u0, u1] t)) (some ⟨w.heap.size, 0, none⟩) 2 (dgt v) := by
 subst h0 h1
 refine .inr ⟨w.heap.size, 0, rfl, fun j hj => ?_⟩
 match j, hj with
 | 0, _ => simp [go_sem]
 | 1, _ => simp [go_sem]
set_option maxRecDepth 100000 in
set_option maxHeartbeats 2000000 in
theorem rdigits_any (v : Nat) (hv : v < 18446744073709551616) (w : World) :
 Calls Tryz.prog 83 #[.int .u64 (v : Int)] w (DigPost w v) := by
 have e0 : dgt v 0 = v % 4294967296 := by unfold dgt; rw [bp_zero, Nat.div_one]
 have e1 : dgt v 1 = v / 4294967296 := by unfold dgt; rw [bp_one]; exact Nat.mod_eq_of_lt (by omega)
 have hd0 : (v : Int) % 4294967296 = ((dgt v 0 : Nat) : Int) := by rw [e0]; omega
 have hd1 : (v : Int) / 4294967296 = ((dgt v 1 : Nat) : Int) := by rw [e1]; omega
 have hl0 := dgt_lt v 0
 have hl1 := dgt_lt v 1
 have HV : Hid (valF (dgt v) 2 = v) := hide (by rw [valF_dgt]; exact Nat.mod_eq_of_lt (by rw [bp_succ, bp_one]; omega))
 have HD := hide (fun (u0 u1 : Value) h0 h1 t => two_digits w v hv u0 u1 h0 h1 t)
 clear e0 e1
 go_enter Tryz.func83, Tryz.ntmps83
 go_wp2_with fail
 have hB := below_alloc' w (Obj.cells #[.int .u32 ((dgt v 0 : Nat) : Int), .int .u32 ((dgt v 1 : Nat) : Int)] 68)
 have hD := HD.out _ _ rfl rfl 68
 obtain ⟨W, hW⟩ : ∃ W, w.alloc (Obj.cells #[.int .u32 ((dgt v 0 : Nat) : Int), .int .u32 ((dgt v 1 : Nat) : Int)] 68) = W := ⟨_, rfl⟩
 rw [hW] at hB hD ⊢
 refine (rtrim_any _ 2 2 (dgt v) (by decide) (by decide) (fun _ _ => dgt_lt _ _) W hD).mono ?_
 rintro e w' ⟨a', c', rfl, ha, hc, rfl⟩
 have hI := IsD.of hD (fun _ _ => dgt_lt _ _) ha
 rw [HV.out] at hI hc ha ⊢
 go_wp2
 go_ret
 refine ⟨a', _, c', rfl, hI, hc, ?_, hB⟩
 rcases ha with rfl | h
 · exact .inr fun ad e => by cases e; exact Nat.le_refl _
 · exact .inl h

theorem and_one_u32 (a : Nat) (ha : a < 4294967296) : bits BinOp.and IntKind.u32 (a : Int) 1 = ((a % 2 : Nat) : Int) := by
 have h1 : (BitVec.ofInt 32 (a : Int)).toNat = a := by
  rw [BitVec.ofInt_natCast, BitVec.toNat_ofNat]; exact Nat.mod_eq_of_lt (by omega)
 have h2 : (BitVec.ofInt 32 1).toNat = 1 := by decide
 show IntKind.u32.wrap ((BitVec.ofInt 32 (a : Int) &&& BitVec.ofInt 32 1).toNat : Int) = _
 rw [BitVec.toNat_and, h1, h2, Nat.and_one_is_mod, show IntKind.u32.wrap (((a % 2 : Nat) : Int)) = ((a % 2 : Nat) : Int) % 4294967296 from rfl]
 omega
set_option maxRecDepth 100000 in
set_option maxHeartbeats 2000000 in
theorem rbit_any (a : Option Addr) (n c x k : Nat) (hn : n ≤ 100000000000) (hk : k / 32 < n) (w : World) (hx : IsD w a n x) :
 Calls Tryz.prog 153 #[.slice a n c, .int .i64 (k : Int)] w fun e w' => e = .returned (.int .u32 ((x / 2 ^ k % 2 : Nat) : Int)) ∧ w' = w := by
 obtain ⟨b, off, rfl, hc⟩ := hx.dig.at (by omega)
 have hcl := hc (k / 32) hk
 have hlt := dgt_lt x (k / 32)
 have HE := hide (bit_of x k)
 obtain ⟨q, hq⟩ : ∃ q, k / 32 = q := ⟨_, rfl⟩
 obtain ⟨r, hr⟩ : ∃ r, k % 32 = r := ⟨_, rfl⟩
 rw [hq] at hk hcl hlt HE
 rw [hr] at HE
 have hr32 : r < 32 := by omega
 obtain ⟨d, hd⟩ : ∃ d, dgt x q = d := ⟨_, rfl⟩
 rw [hd] at hcl hlt HE
 obtain ⟨t, ht⟩ : ∃ t, d / 2 ^ r = t := ⟨_, rfl⟩
 rw [ht] at HE
 have htl : t ≤ d := by rw [← ht]; exact Nat.div_le_self _ _
 have z1 : (k : Int) / 32 = (q : Int) := by omega
 have z2 : (k : Int) % 32 = (r : Int) := by omega
 have z3 : (d : Int) / 2 ^ r = (t : Int) := by rw [← ht]; simp
 have z4 := and_one_u32 t (by omega)
 have hkl : k < 3200000000000 := by omega
 have hq0 : (0 : Int) ≤ (q : Int) := by omega
 have hr0 : (0 : Int) ≤ (r : Int) := by omega
 have hqn : (q : Int) < (n : Int) := by omega
 rw [← HE.out]
 clear hq hr hd ht hc hx
 go_enter Tryz.func153, Tryz.ntmps153
 go_wp2
 go_ret
 exact ⟨rfl, rfl⟩
end Go.Proofs.YtgenaicmjddjcaaGreatDoor
