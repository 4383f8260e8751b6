/- the law's power: 2^n as a Num. -/
import Derived.Test.YtikepnocefdmnaaGreatDoorLpM
namespace Go.Proofs.YtikepnocefdmnaaGreatDoor
open Go.RowKit Go.Shelf

def PowV (w : World) (n : Nat) (e : Ending) (w' : World) : Prop :=
 ∃ (s : Bool) (a : Option Addr) (m c : Nat), e = .returned (.agg #[.bool s, .slice a m c]) ∧ IsN w' s a m (powZ n) ∧ m ≤ 64 ∧ Below w.heap.size w w'
theorem powN_cells {w : World} {b q r P n : Nat} (hq : n / 32 = q) (hr : n % 32 = r) (hP : 2 ^ r = P) (h : Cells w b 0 (q + 1) (putF (fun _ => 0) q P)) : IsN w false (some ⟨b, 0, none⟩) (q + 1) (powZ n) := by
 subst hq; subst hr; subst hP
 have hl := powF_len n
 refine ⟨?_, ⟨by rw [powZ_abs, hl], .inr ⟨b, 0, rfl, h.congr fun j hj => ?_⟩⟩⟩
 · have := powZ_pos n
   rw [decide_eq_false (by omega)]
 · have e := dgt_valF (f := powF n) (k := n / 32 + 1) (j := j) (fun i _ => powF_lt n i) hj
   rw [powF_val] at e
   rw [powZ_abs, e]
   unfold powF
   by_cases hj2 : j = n / 32
   · subst hj2; rw [if_pos rfl, putF_same]
   · rw [if_neg hj2, putF_ne _ _ hj2]
set_option maxRecDepth 100000 in
set_option maxHeartbeats 4000000 in
theorem power_r (n : Nat) (h : n < 2048) (w : World) :
 Calls Tryz.prog 46 #[.int .i64 (n : Int)] w (PowV w n) := by
 obtain ⟨q, hq⟩ : ∃ q, n / 32 = q := ⟨_, rfl⟩
 obtain ⟨r, hr⟩ : ∃ r, n % 32 = r := ⟨_, rfl⟩
 obtain ⟨P, hP⟩ : ∃ P, 2 ^ r = P := ⟨_, rfl⟩
 have hq1 : q < 64 := by omega
 have hr1 : r < 32 := by omega
 have t1 : Int.tdiv (n : Int) 32 = (q : Int) := by rw [Int.tdiv_eq_ediv_of_nonneg (by omega)]; omega
 have t2 : Int.tmod (n : Int) 32 = (r : Int) := by rw [Int.tmod_eq_emod_of_nonneg (by omega)]; omega
 have t3 : (n : Int) / 32 = (q : Int) := by omega
 have t4 : (n : Int) % 32 = (r : Int) := by omega
 have hPl : P < 4294967296 := by rw [← hP]; exact Nat.lt_of_lt_of_le (Nat.pow_lt_pow_right (by decide) hr1) (by decide)
 have Z2 : (2 : Int) ^ r = (P : Int) := by rw [← hP]; simp
 have Z1 : IntKind.u32.wrap ((2 : Int) ^ r) = (P : Int) := by
  rw [Z2]; show (P : Int) % 4294967296 = _; omega
 have HN := hide (And.intro hq (And.intro hr hP))
 clear hq hr hP h
 go_enter Tryz.func46, Tryz.ntmps46
 have hqi : (q : Int) < (q : Int) + 1 := by omega
 have bR : Box2 (w.alloc (Obj.cells #[.bool false, .slice none 0 0] 25)) w.heap.size (.bool false) (.slice none 0 0) := Box2.new _ _ _ _
 have hB : Below w.heap.size w (w.alloc (Obj.cells #[.bool false, .slice none 0 0] 25)) := below_alloc _ _
 go_wp2_with (at_make; refine make_digs rfl _ _ rfl _ _ _ _ (q + 1) rfl rfl (by omega) (by omega) (by omega) ?_; intro w1 hc hf hk; have hB := hB.trans (hk.mono hB.size); have bR := bR.below hk bR.lt; rw [World.size_alloc] at hc hf hk ⊢; have hx := hc q (by omega); have hz := hf q (by omega); rw [Nat.zero_add] at hx hz; have HC := hide hc; have Hx := hide hx; have HbR := hide bR; obtain ⟨r0, r1, r2, r3⟩ := bR; clear hc hf hk)
 have bR := HbR.out
 have hx := Hx.out
 obtain ⟨b, hb⟩ : ∃ b, w.heap.size + 1 = b := ⟨_, rfl⟩
 have lb : w.heap.size < b := by omega
 have hc := HC.out
 rw [hb] at hc hx
 try rw [hb]
 obtain ⟨w2, hw2⟩ : ∃ W, w1.setCell ⟨b, q, none⟩ (.int .u32 (P : Int)) = W := ⟨_, rfl⟩
 have hc2 : Cells w2 b 0 (q + 1) (putF (fun _ => 0) q P) := by
  have := hc.set P (by omega : q < q + 1)
  rw [Nat.zero_add, hw2] at this; exact this
 have hT : Touch b 0 (q + 1) w1 w2 := by rw [← hw2]; exact Touch.setCell w1 _ (Nat.zero_le _) (by omega)
 have hk2 : Below b w1 w2 := hT.below (Nat.le_refl _) (Nat.le_of_lt (lt_of_cell hx))
 have hB := hB.trans (hk2.mono (Nat.le_of_lt lb))
 have bR := bR.below hk2 lb
 have N1 := powN_cells HN.out.1 HN.out.2.1 HN.out.2.2 hc2
 clear hc hc2 hT hk2
 try rw [hw2]
 obtain ⟨Wz, hWz⟩ : ∃ W, (w2.setCell ⟨w.heap.size, 0, none⟩ (.bool false)).setCell ⟨w.heap.size, 1, none⟩ (.slice (some ⟨b, 0, none⟩) (q + 1) (q + 1)) = W := ⟨_, rfl⟩
 have hQ := bR.set (.bool false) (.slice (some ⟨b, 0, none⟩) (q + 1) (q + 1))
 have hBz := below_set2 hB (B := w.heap.size) (by omega) (.bool false) (.slice (some ⟨b, 0, none⟩) (q + 1) (q + 1))
 have N1 := N1.put bR (.bool false) (.slice (some ⟨b, 0, none⟩) (q + 1) (q + 1))
 rw [hWz] at hQ hBz N1
 have K := hide (And.intro hQ (And.intro N1 hBz))
 have HWz := hide hWz
 clear hQ hBz hWz N1
 obtain ⟨x90, x91, z90, z91⟩ := id bR
 obtain ⟨⟨q0, q1, -, -⟩, P1, hBB⟩ := K.out
 rw [HWz.out]
 exact bodyPost_ret (v := .agg #[.bool false, .slice (some ⟨b, 0, none⟩) (q + 1) (q + 1)]) (by simp [results, Tryz.results46, go_sem, q0, q1]) rfl ⟨_, _, _, _, rfl, P1, by omega, hBB⟩
end Go.Proofs.YtikepnocefdmnaaGreatDoor
