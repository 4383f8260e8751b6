/- num's sums and products of digits. -/
import Derived.Test.YtmpdeiopdempcaaGreatDoorNumG
namespace Go.Proofs.YtmpdeiopdempcaaGreatDoor
open Go.RowKit Go.Shelf

theorem valF_mix (x : Nat) {n m : Nat} (hn : n = dlen x) (h : n ≤ m) : valF (mixF (dgt x) (fun _ => 0) n) m = x := by
  obtain ⟨d, rfl⟩ : ∃ d, m = n + d := ⟨m - n, by omega⟩
  rw [valF_add, valF_congr (g := dgt x) (fun j hj => by simp [mixF, hj]), valF_zeros (k := d) (fun j _ => by simp only [mixF]; rw [if_neg (by omega)]), hn, valF_dlen]
  simp
theorem mix_lt (x n : Nat) : ∀ j, mixF (dgt x) (fun _ => 0) n j < 4294967296 := fun j => by
  unfold mixF; split
  · exact dgt_lt _ _
  · show (0 : Nat) < 4294967296; decide

set_option maxRecDepth 100000 in
set_option maxHeartbeats 1000000 in
theorem plus_ge (ax ay : Option Addr) (x y nx ny cx cy : Nat) (hn : nx ≤ 1000000000000) (hxy : ny ≤ nx) (w : World) (hx : IsD w ax nx x) (hy : IsD w ay ny y) :
    Calls Tryz.prog 40 #[.slice ax nx cx, .slice ay ny cy] w fun e w' => ∃ (a : Option Addr) (n cap : Nat), e = .returned (.slice a n cap) ∧ IsD w' a n (x + y) ∧ n ≤ cap ∧ (n = 0 ∨ Fresh w a) ∧ Below w.heap.size w w' := by
  have hxy' : (ny : Int) ≤ nx := by omega
  go_enter Tryz.func40, Tryz.ntmps40
  go_wp2_with fail
  refine (resize_any ax nx cx (nx + 1) _ (by omega) (dgt x) (by omega) (by omega) _ hx.dig).mono ?_
  rintro e w1 ⟨g, rfl, hg, hc1, hf1, hb1⟩
  have hy1 := hy.below hb1
  have hyb := hy.dig.old hg
  go_wp2_with fail
  refine (increase_any g 0 (nx + 1) (nx + 1) ny cy ay _ (dgt y) (by omega) (by omega) (Nat.le_refl _) (fun j _ => mix_lt x nx j) (fun _ _ => dgt_lt _ _) _ hc1 hy1.dig hyb hf1).mono ?_
  rintro e w2 ⟨f2, rfl, hf2, hv2, hc2, ht2⟩
  have hval : valF f2 (nx + 1) = x + y := by
    rw [hv2, valF_mix x hx.len (by omega)]
    have h2 : valF (dgt y) ny = y := by rw [hy.len, valF_dlen]
    rw [h2]
    refine Nat.mod_eq_of_lt ?_
    have h3 := lt_bp_dlen x
    have h4 := lt_bp_dlen y
    rw [← hx.len] at h3
    rw [← hy.len] at h4
    have h5 := bp_le hxy
    rw [bp_succ]; omega
  have hb2 : Below w.heap.size w w2 := hb1.trans (ht2.below hg hb1.size)
  have HV := hide hval
  have HF := hide hf2
  clear hv2 hf2 hyb hval
  go_wp2_with fail
  refine (trim_any (some ⟨g, 0, none⟩) (nx + 1) (nx + 1) f2 (by omega) (Nat.le_refl _) HF.out _ (.inr ⟨g, 0, rfl, hc2⟩)).mono ?_
  rintro e w3 ⟨a', cap', rfl, ha, hcap', hb3⟩
  go_wp2
  go_ret
  have h4 := IsD.of ((Dig.below (w' := w3) (.inr ⟨g, 0, rfl, hc2⟩) hb3)) HF.out ha
  rw [HV.out] at h4
  have hfr : Fresh w (some ⟨g, 0, none⟩) := fun ad e => by cases e; exact hg
  exact ⟨a', _, cap', rfl, by rw [HV.out]; exact h4, hcap', hfr.or ha, hb2.trans (hb3.mono hb2.size)⟩

set_option maxRecDepth 100000 in
set_option maxHeartbeats 1000000 in
theorem plus_lt (ax ay : Option Addr) (x y nx ny cx cy : Nat) (hn : ny ≤ 1000000000000) (hxy : nx < ny) (w : World) (hx : IsD w ax nx x) (hy : IsD w ay ny y) :
    Calls Tryz.prog 40 #[.slice ax nx cx, .slice ay ny cy] w fun e w' => ∃ (a : Option Addr) (n cap : Nat), e = .returned (.slice a n cap) ∧ IsD w' a n (x + y) ∧ n ≤ cap ∧ (n = 0 ∨ Fresh w a) ∧ Below w.heap.size w w' := by
  have hxy' : (nx : Int) < ny := by omega
  go_enter Tryz.func40, Tryz.ntmps40
  go_wp2_with fail
  refine (resize_any ay ny cy (ny + 1) _ (by omega) (dgt y) (by omega) (by omega) _ hy.dig).mono ?_
  rintro e w1 ⟨g, rfl, hg, hc1, hf1, hb1⟩
  have hy1 := hx.below hb1
  have hyb := hx.dig.old hg
  go_wp2_with fail
  refine (increase_any g 0 (ny + 1) (ny + 1) nx cx ax _ (dgt x) (by omega) (by omega) (Nat.le_refl _) (fun j _ => mix_lt y ny j) (fun _ _ => dgt_lt _ _) _ hc1 hy1.dig hyb hf1).mono ?_
  rintro e w2 ⟨f2, rfl, hf2, hv2, hc2, ht2⟩
  have hval : valF f2 (ny + 1) = x + y := by
    rw [hv2, valF_mix y hy.len (by omega)]
    have h2 : valF (dgt x) nx = x := by rw [hx.len, valF_dlen]
    rw [h2, Nat.add_comm]
    refine Nat.mod_eq_of_lt ?_
    have h3 := lt_bp_dlen x
    have h4 := lt_bp_dlen y
    rw [← hx.len] at h3
    rw [← hy.len] at h4
    have h5 := bp_le (Nat.le_of_lt hxy)
    rw [bp_succ]; omega
  have hb2 : Below w.heap.size w w2 := hb1.trans (ht2.below hg hb1.size)
  have HV := hide hval
  have HF := hide hf2
  clear hv2 hf2 hyb hval
  go_wp2_with fail
  refine (trim_any (some ⟨g, 0, none⟩) (ny + 1) (ny + 1) f2 (by omega) (Nat.le_refl _) HF.out _ (.inr ⟨g, 0, rfl, hc2⟩)).mono ?_
  rintro e w3 ⟨a', cap', rfl, ha, hcap', hb3⟩
  go_wp2
  go_ret
  have h4 := IsD.of ((Dig.below (w' := w3) (.inr ⟨g, 0, rfl, hc2⟩) hb3)) HF.out ha
  rw [HV.out] at h4
  have hfr : Fresh w (some ⟨g, 0, none⟩) := fun ad e => by cases e; exact hg
  exact ⟨a', _, cap', rfl, by rw [HV.out]; exact h4, hcap', hfr.or ha, hb2.trans (hb3.mono hb2.size)⟩

theorem plus_any (ax ay : Option Addr) (x y nx ny cx cy : Nat) (hn : nx ≤ 1000000000000) (hn' : ny ≤ 1000000000000) (w : World) (hx : IsD w ax nx x) (hy : IsD w ay ny y) :
    Calls Tryz.prog 40 #[.slice ax nx cx, .slice ay ny cy] w fun e w' => ∃ (a : Option Addr) (n cap : Nat), e = .returned (.slice a n cap) ∧ IsD w' a n (x + y) ∧ n ≤ cap ∧ (n = 0 ∨ Fresh w a) ∧ Below w.heap.size w w' := by
  rcases Nat.lt_or_ge nx ny with h | h
  · exact plus_lt ax ay x y nx ny cx cy hn' h w hx hy
  · exact plus_ge ax ay x y nx ny cx cy hn h w hx hy
end Go.Proofs.YtmpdeiopdempcaaGreatDoor
