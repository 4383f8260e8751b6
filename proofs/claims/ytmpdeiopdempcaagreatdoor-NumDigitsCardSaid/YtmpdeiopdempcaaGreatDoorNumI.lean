/- num's products of digits. -/
import Derived.Test.YtmpdeiopdempcaaGreatDoorNumH
namespace Go.Proofs.YtmpdeiopdempcaaGreatDoor
open Go.RowKit Go.Shelf

/-- the digits from k on replaced by g, of which the first m count, followed by r -/
def patchF (f g : Nat → Nat) (k m r : Nat) : Nat → Nat := mixF f (fun j => mixF g (fun i => if i = m then r else 0) m (j - k)) k
theorem patchF_low {f g : Nat → Nat} {k m r j : Nat} (h : j < k) : patchF f g k m r j = f j := by simp [patchF, mixF, h]
theorem patchF_mid {f g : Nat → Nat} {k m r j : Nat} (h : j < m) : patchF f g k m r (k + j) = g j := by
  simp only [patchF, mixF]
  rw [if_neg (by omega), Nat.add_sub_cancel_left, if_pos h]
theorem patchF_top {f g : Nat → Nat} {k m r : Nat} : patchF f g k m r (k + m) = r := by
  simp only [patchF, mixF]
  rw [if_neg (by omega), Nat.add_sub_cancel_left, if_neg (by omega), if_pos rfl]
theorem patchF_zero {f g : Nat → Nat} {k m r j : Nat} (h : k + m < j) : patchF f g k m r j = 0 := by
  simp only [patchF, mixF]
  rw [if_neg (by omega), if_neg (by omega), if_neg (by omega)]
theorem valF_patch {f g : Nat → Nat} {k m r n : Nat} (hn : k + m + 1 ≤ n) : valF (patchF f g k m r) n = valF f k + bp k * (valF g m + r * bp m) := by
  obtain ⟨d, rfl⟩ : ∃ d, n = k + (m + 1) + d := ⟨n - (k + (m + 1)), by omega⟩
  rw [valF_add, valF_zeros (k := d) (fun j _ => patchF_zero (by omega)), Nat.mul_zero, Nat.add_zero, valF_add, valF_congr (fun j hj => patchF_low hj), valF_succ, patchF_top,
    valF_congr (f := fun j => patchF f g k m r (k + j)) (g := g) (fun j hj => patchF_mid hj)]
theorem valF_top {f : Nat → Nat} {k n : Nat} (hn : k ≤ n) (h : ∀ j, k ≤ j → f j = 0) : valF f n = valF f k := by
  obtain ⟨d, rfl⟩ : ∃ d, n = k + d := ⟨n - k, by omega⟩
  rw [valF_add, valF_zeros (k := d) (fun j _ => h _ (by omega)), Nat.mul_zero, Nat.add_zero]

set_option maxRecDepth 100000 in
set_option maxHeartbeats 2000000 in
theorem times_any (ax ay : Option Addr) (x y nx ny cx cy : Nat) (hn : nx ≤ 100000000000) (hn' : ny ≤ 100000000000) (w : World) (hx : IsD w ax nx x) (hy : IsD w ay ny y) :
    Calls Tryz.prog 59 #[.slice ax nx cx, .slice ay ny cy] w fun e w' => ∃ (a : Option Addr) (n cap : Nat), e = .returned (.slice a n cap) ∧ IsD w' a n (x * y) ∧ n ≤ cap ∧ (n = 0 ∨ Fresh w a) ∧ Below w.heap.size w w' := by
  go_enter Tryz.func59, Tryz.ntmps59
  go_wp2_with (at_make; refine make_digs rfl _ _ rfl _ _ _ _ (nx + ny) rfl rfl (by omega) (by omega) (by omega) ?_; intro w1 hc1 hf1 hb1)
  obtain ⟨g, hg⟩ : ∃ g, w.heap.size = g := ⟨_, rfl⟩
  have HG := hide hg
  have hgle : w.heap.size ≤ g := by omega
  rw [hg] at hc1 hf1 ⊢
  clear hg
  go_loopw [16] (fun i wr => ∃ (k : Nat) (f' : Nat → Nat), k ≤ nx ∧ i = .int .i64 (k : Int) ∧ (∀ j, f' j < 4294967296) ∧ (∀ j, k + ny ≤ j → f' j = 0) ∧ valF f' (nx + ny) = valF (dgt x) k * y ∧
      Cells wr g 0 (nx + ny) f' ∧ Free wr g 0 (nx + ny) ∧ Below w.heap.size w wr)
    (fun i _ => nx - (intOf i).toNat)
  case atStart => exact ⟨0, fun _ => 0, Nat.zero_le _, rfl, fun _ => by show (0 : Nat) < 4294967296; decide, fun _ _ => rfl, by rw [valF_zeros (fun _ _ => rfl), valF_zero, Nat.zero_mul], hc1, hf1, hb1⟩
  case round =>
    obtain ⟨k, f', hk, rfl, hlt', hzero, hval, hcx, hfr, hbel⟩ := hrel
    by_cases hlt : k < nx
    · obtain ⟨bx, ox, rfl, hcxx⟩ := (hx.below hbel).dig.at (by omega)
      have hx1 := hcxx k hlt
      have hyr := hy.below hbel
      have hsub : Cells wr g k ny (fun j => f' (k + j)) := by
        have := hcx.shift (k := k) (n := ny) (by omega)
        rw [Nat.zero_add] at this; exact this
      have hfsub : Free wr g k ny := fun j hj => by
        have := hfr (k + j) (by omega)
        rw [Nat.zero_add] at this; exact this
      have hyb := hy.dig.old hgle
      have hd1 : (dgt x k : Int) < 4294967296 := by have := dgt_lt x k; omega
      have hk1 : (k : Int) < nx := by omega
      have HV := hide hval
      have HZ := hide hzero
      have HL := hide hlt'
      have HYB := hide hyb
      clear hval hzero hlt' hyb hcxx hc1 hf1
      go_wp2_with fail
      refine (addTimes_int g k ny _ ny cy ay (fun j => f' (k + j)) (dgt y) _ (by omega) (by omega) (by omega) (Nat.le_refl _) (fun j _ => HL.out _) (fun _ _ => dgt_lt _ _) _ hsub hyr.dig HYB.out hfsub).mono ?_
      rintro e w2 ⟨f1, r, rfl, hr, hf1, hv1, hc2, ht2⟩
      have hfr2 : Free w2 g 0 (nx + ny) := hfr.touch ht2 (hcx.lt (by omega))
      have hfz : w2.frozen? ⟨g, k + ny, none⟩ = false := by have := hfr2 (k + ny) (by omega); rw [Nat.zero_add] at this; exact this
      have hcz : w2.cell? ⟨g, k + ny, none⟩ = some (.int .u32 0) := by
        rw [ht2.cell _ (by omega)]
        have := hcx (k + ny) (by omega)
        rw [Nat.zero_add, HZ.out (k + ny) (Nat.le_refl _)] at this
        exact this
      have hbel2 : Below w.heap.size w w2 := hbel.trans (ht2.below hgle hbel.size)
      have hknx : (k : Int) + ny < (nx : Int) + ny := by omega
      have hpatch : Cells (w2.setCell ⟨g, k + ny, none⟩ (.int .u32 (r : Int))) g 0 (nx + ny) (patchF f' f1 k ny r) := by
        intro j hj
        rw [Nat.zero_add]
        by_cases e1 : j = k + ny
        · subst e1; rw [patchF_top]; exact World.cell?_setCell_same' _ _ _ (by rw [hcz]; rfl)
        · rw [cell_setCell_ne _ _ _ _ (fun e => e1 (congrArg Addr.off e)) rfl rfl]
          by_cases e2 : j < k
          · rw [patchF_low e2, ht2.cell _ (by omega)]; have := hcx j hj; rw [Nat.zero_add] at this; exact this
          · by_cases e3 : j < k + ny
            · obtain ⟨d, rfl⟩ : ∃ d, j = k + d := ⟨j - k, by omega⟩
              rw [patchF_mid (by omega)]; exact hc2 d (by omega)
            · rw [patchF_zero (by omega), ht2.cell _ (by omega)]; have := hcx j hj; rw [Nat.zero_add, HZ.out j (by omega)] at this; exact this
      have hltp : ∀ j, patchF f' (fun j => if j < ny then f1 j else 0) k ny r j < 4294967296 := by
        intro j
        by_cases e2 : j < k
        · rw [patchF_low e2]; exact HL.out j
        · obtain ⟨d, rfl⟩ : ∃ d, j = k + d := ⟨j - k, by omega⟩
          by_cases e3 : d < ny
          · rw [patchF_mid e3]; simp only [e3, if_true]; exact hf1 d e3
          · by_cases e4 : d = ny
            · subst e4; rw [patchF_top]; exact hr
            · rw [patchF_zero (by omega)]; decide
      have hpe : patchF f' (fun j => if j < ny then f1 j else 0) k ny r = patchF f' f1 k ny r := by
        funext j
        by_cases e2 : j < k
        · rw [patchF_low e2, patchF_low e2]
        · obtain ⟨d, rfl⟩ : ∃ d, j = k + d := ⟨j - k, by omega⟩
          by_cases e3 : d < ny
          · rw [patchF_mid e3, patchF_mid e3]; simp [e3]
          · by_cases e4 : d = ny
            · subst e4; rw [patchF_top, patchF_top]
            · rw [patchF_zero (by omega), patchF_zero (by omega)]
      rw [hpe] at hltp
      have hvy : valF (dgt y) ny = y := by rw [hy.len, valF_dlen]
      have hv2 : valF (patchF f' f1 k ny r) (nx + ny) = valF (dgt x) (k + 1) * y := by
        rw [valF_patch (by omega), hv1, hvy, Int.toNat_natCast, valF_succ, Nat.mul_add, ← Nat.add_assoc, ← valF_add, ← valF_top (n := nx + ny) (by omega) HZ.out, HV.out, Nat.add_mul]
        congr 1
        rw [← Nat.mul_assoc, Nat.mul_comm (bp k)]
      have HP := hide hpatch
      have HLP := hide hltp
      have HV2 := hide hv2
      have HFR := hide hfr2
      have HB2 := hide hbel2
      clear hpatch hltp hv2 hpe hvy hfr2 hbel2 hv1 hf1 hc2 ht2 hsub hfsub hcx hfr
      go_wp2
      go_roundw
      case rel => exact ⟨k + 1, patchF f' f1 k ny r, by omega, by go_num, HLP.out, fun j hj => patchF_zero (by omega), HV2.out, HP.out, fun j hj => by rw [World.frozen?_setCell]; exact HFR.out j hj, HB2.out.setCell (p := ⟨g, k + ny, none⟩) hgle _⟩
      case measure => simp [intOf]; omega
    · obtain rfl : k = nx := by omega
      have HV := hide hval
      have HL := hide hlt'
      clear hval hzero hlt' hc1 hf1
      go_wp2_with fail
      refine (trim_any (some ⟨g, 0, none⟩) (k + ny) (k + ny) f' (by omega) (Nat.le_refl _) (fun j _ => HL.out j) _ (.inr ⟨g, 0, rfl, hcx⟩)).mono ?_
      rintro e w3 ⟨a', cap', rfl, ha, hcap', hb3⟩
      go_wp2
      go_ret
      have hxy : valF f' (k + ny) = x * y := by
        have h1 : valF (dgt x) k = x := by rw [hx.len, valF_dlen]
        rw [HV.out, h1]
      have h4 := IsD.of ((Dig.below (w' := w3) (.inr ⟨g, 0, rfl, hcx⟩) hb3)) (fun j _ => HL.out j) ha
      rw [hxy] at h4
      have hfr' : Fresh w (some ⟨g, 0, none⟩) := fun ad e => by cases e; exact hgle
      exact ⟨a', _, cap', rfl, by rw [hxy]; exact h4, hcap', hfr'.or ha, hbel.trans (hb3.mono hbel.size)⟩
end Go.Proofs.YtmpdeiopdempcaaGreatDoor
