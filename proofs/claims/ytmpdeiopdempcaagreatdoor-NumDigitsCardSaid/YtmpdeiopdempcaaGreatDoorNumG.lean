/- num's sums, differences and products of digits; the digits of a word; a right Num of digits. -/
import Derived.Test.YtmpdeiopdempcaaGreatDoorNumA
import Derived.Test.YtmpdeiopdempcaaGreatDoorNumB
import Derived.Test.YtmpdeiopdempcaaGreatDoorNumC
import Derived.Test.YtmpdeiopdempcaaGreatDoorNumD
namespace Go.Proofs.YtmpdeiopdempcaaGreatDoor
open Go.RowKit Go.Shelf

/-- a slice of length n at a holds the digits of x, and no others -/
structure IsD (w : World) (a : Option Addr) (n x : Nat) : Prop where
  len : n = dlen x
  dig : Dig w a n (dgt x)
theorem IsD.below {w w' : World} {a : Option Addr} {n x : Nat} (h : IsD w a n x) (t : Below w.heap.size w w') : IsD w' a n x := ⟨h.len, h.dig.below t⟩
theorem IsD.of {w : World} {a : Option Addr} {L : Nat} {f : Nat → Nat} (h : Dig w a L f) (hf : ∀ j, j < L → f j < 4294967296) {a' : Option Addr} (ha : a' = a ∨ dlen (valF f L) = 0) : IsD w a' (dlen (valF f L)) (valF f L) := by
  refine ⟨rfl, ?_⟩
  rcases ha with rfl | ha
  · exact (h.mono (dlen_le_iff.2 (valF_lt hf))).congr fun j hj => (dgt_valF hf (Nat.lt_of_lt_of_le hj (dlen_le_iff.2 (valF_lt hf)))).symm
  · exact .inl ha

/-- what a call has made lies in new blocks -/
def Fresh (w : World) (a : Option Addr) : Prop := ∀ ad, a = some ad → w.heap.size ≤ ad.block
theorem Fresh.ne {w : World} {a : Option Addr} {n B : Nat} (h : n = 0 ∨ Fresh w a) (hB : B < w.heap.size) : n = 0 ∨ ∀ ad, a = some ad → ad.block ≠ B :=
  h.imp id fun h ad e => by have := h ad e; omega
theorem Fresh.or {w : World} {a a' : Option Addr} {n : Nat} (h : Fresh w a) (ha : a' = a ∨ n = 0) : n = 0 ∨ Fresh w a' := by
  rcases ha with rfl | ha
  · exact .inr h
  · exact .inl ha

/-- digits that lay before are in no new block -/
theorem Dig.old {w : World} {a : Option Addr} {L g : Nat} {f : Nat → Nat} (h : Dig w a L f) (hg : w.heap.size ≤ g) : 0 < L → ∀ ad, a = some ad → ad.block ≠ g := fun hL ad e => by
  obtain ⟨b, off, rfl, hc⟩ := h.at hL
  cases e
  have := hc.lt hL
  show b ≠ g
  omega

def splitF (x : Nat) : Nat → Nat := fun j => if j = 0 then x % 4294967296 else x / 4294967296
theorem val_splitF (x : Nat) : valF (splitF x) 2 = x := by
  simp only [valF_succ, valF_zero, bp_zero, bp_one, splitF]
  simp
  omega

set_option maxRecDepth 100000 in
set_option maxHeartbeats 1000000 in
theorem split_any (x : Nat) (hx : x < 18446744073709551616) (w : World) :
    Calls Tryz.prog 60 #[.int .u64 (x : Int)] w fun e w' => ∃ (a : Option Addr) (n cap : Nat), e = .returned (.slice a n cap) ∧ IsD w' a n x ∧ n ≤ cap ∧ (n = 0 ∨ Fresh w a) ∧ Below w.heap.size w w' := by
  have hlt : ∀ j, j < 2 → splitF x j < 4294967296 := fun j _ => by unfold splitF; split <;> omega
  have hc : Cells (w.alloc (.cells #[.int .u32 ((x : Int) % 4294967296), .int .u32 ((x : Int) / 4294967296)] 52)) w.heap.size 0 2 (splitF x) := by
    intro j hj
    match j, hj with
    | 0, _ => rw [show splitF x 0 = x % 4294967296 from rfl, ← cast_mod32]; simp [go_sem]
    | 1, _ => rw [show splitF x 1 = x / 4294967296 from rfl, ← cast_div32]; simp [go_sem]
  have HC := hide hc
  have HL := hide hlt
  have HB : Hid (Below w.heap.size w (w.alloc (.cells #[.int .u32 ((x : Int) % 4294967296), .int .u32 ((x : Int) / 4294967296)] 52))) := (Below.refl _ w).alloc (Nat.le_refl _) _
  clear hc hlt
  go_enter Tryz.func60, Tryz.ntmps60
  go_wp2_with (go_at_call 67; refine (trim_any _ 2 2 (splitF x) (by decide) (by decide) HL.out _ (.inr ⟨_, 0, rfl, HC.out⟩)).mono ?_; rintro e w' ⟨a', cap', rfl, ha, hcap', hb⟩)
  go_ret
  have h1 : Dig _ (some ⟨w.heap.size, 0, none⟩) 2 (splitF x) := .inr ⟨_, 0, rfl, HC.out⟩
  have h2 := (IsD.of (h1.below hb) HL.out ha)
  have hb' := HB.out.trans (hb.mono (by simp))
  exact ⟨a', dlen (valF (splitF x) 2), cap', rfl, ⟨by rw [val_splitF], by rw [val_splitF] at h2 ⊢; exact h2.dig⟩, hcap', Fresh.or (fun ad e => by cases e; exact Nat.le_refl _) ha, hb'⟩

theorem split_int (z : Int) (h0 : 0 ≤ z) (hx : z < 18446744073709551616) (w : World) :
    Calls Tryz.prog 60 #[.int .u64 z] w fun e w' => ∃ (a : Option Addr) (n cap : Nat), e = .returned (.slice a n cap) ∧ IsD w' a n z.toNat ∧ n ≤ cap ∧ (n = 0 ∨ Fresh w a) ∧ Below w.heap.size w w' := by
  obtain ⟨m, rfl⟩ := Int.eq_ofNat_of_zero_le h0
  exact split_any m (by omega) w

set_option maxRecDepth 100000 in
set_option maxHeartbeats 1000000 in
theorem minus_any (ax ay : Option Addr) (x y nx ny cx cy : Nat) (hn : nx ≤ 1000000000000) (w : World) (hx : IsD w ax nx x) (hy : IsD w ay ny y) (hxy : y ≤ x) :
    Calls Tryz.prog 41 #[.slice ax nx cx, .slice ay ny cy] w fun e w' => ∃ (a : Option Addr) (n cap : Nat), e = .returned (.slice a n cap) ∧ IsD w' a n (x - y) ∧ n ≤ cap ∧ (n = 0 ∨ Fresh w a) ∧ Below w.heap.size w w' := by
  have hny : ny ≤ nx := by rw [hx.len, hy.len]; exact dlen_mono hxy
  go_enter Tryz.func41, Tryz.ntmps41
  go_wp2_with fail
  refine (resize_any ax nx cx nx _ rfl (dgt x) (Nat.le_refl _) (by omega) _ hx.dig).mono ?_
  rintro e w1 ⟨g, rfl, hg, hc1, hf1, hb1⟩
  have hlt1 : ∀ j, j < nx → mixF (dgt x) (fun _ => 0) nx j < 4294967296 := fun j hj => by simp [mixF, hj, dgt_lt]
  have hy1 := hy.below hb1
  have hyb := hy.dig.old hg
  go_wp2_with fail
  refine (decrease_int g 0 nx nx ny cy ay _ (dgt y) _ (by decide) (by decide) (by omega) hny hlt1 (fun _ _ => dgt_lt _ _) _ hc1 hy1.dig hyb hf1).mono ?_
  rintro e w2 ⟨f2, r, t, rfl, -, hr, hf2, hv2, hc2, ht2⟩
  have hval : valF f2 nx = x - y ∧ r = 0 := by
    have h1 : valF (mixF (dgt x) (fun _ => 0) nx) nx = x := by
      rw [valF_congr (g := dgt x) (fun j hj => by simp [mixF, hj]), hx.len, valF_dlen]
    have h2 : valF (dgt y) ny = y := by rw [hy.len, valF_dlen]
    rw [h1, h2] at hv2
    have h3 := valF_lt hf2
    simp only [Int.toNat_one, Nat.one_mul] at hv2
    have hr0 : r = 0 := by
      rcases Nat.eq_zero_or_pos r with h | h
      · exact h
      · have : bp nx ≤ r * bp nx := Nat.le_mul_of_pos_left _ h
        omega
    subst hr0
    omega
  have hb2 : Below w.heap.size w w2 := hb1.trans (ht2.below hg hb1.size)
  have HV := hide hval
  have HF := hide hf2
  clear hv2 hf2 hlt1 hyb hval
  go_wp2_with fail
  refine (trim_any (some ⟨g, 0, none⟩) nx nx f2 (by omega) (Nat.le_refl _) HF.out _ (.inr ⟨g, 0, rfl, hc2⟩)).mono ?_
  rintro e w3 ⟨a', cap', rfl, ha, hcap', hb3⟩
  go_wp2
  go_ret
  have h4 := IsD.of ((Dig.below (w' := w3) (.inr ⟨g, 0, rfl, hc2⟩) hb3)) HF.out ha
  rw [HV.out.1] at h4
  have hfr : Fresh w (some ⟨g, 0, none⟩) := fun ad e => by cases e; exact hg
  exact ⟨a', _, cap', rfl, by rw [HV.out.1]; exact h4, hcap', hfr.or ha, hb2.trans (hb3.mono hb2.size)⟩
end Go.Proofs.YtmpdeiopdempcaaGreatDoor
