/- num's divide where the divisor has at most one digit, or is greater; num's Gcd of words. -/
import Derived.Test.YtmpdeiopdempcaaGreatDoorNumF
import Derived.Test.YtmpdeiopdempcaaGreatDoorNumJ
import Derived.Test.YtmpdeiopdempcaaGreatDoorNumQ
namespace Go.Proofs.YtmpdeiopdempcaaGreatDoor
open Go.RowKit Go.Shelf

/-- what a call that divides hands back -/
def DivPost (w : World) (x y : Nat) (e : Ending) (w' : World) : Prop :=
  ∃ (a1 : Option Addr) (n1 c1 : Nat) (a2 : Option Addr) (n2 c2 : Nat), e = .returned (.tuple #[.slice a1 n1 c1, .slice a2 n2 c2]) ∧ IsD w' a1 n1 (x / y) ∧ n1 ≤ c1 ∧ (n1 = 0 ∨ Fresh w a1) ∧
    IsD w' a2 n2 (x % y) ∧ n2 ≤ c2 ∧ (n2 = 0 ∨ Fresh w a2) ∧ Below w.heap.size w w'

set_option maxRecDepth 100000 in
set_option maxHeartbeats 1000000 in
theorem divide_lt (ax ay : Option Addr) (x y nx ny cx cy : Nat) (hn : nx ≤ 1000000000000) (w : World) (hx : IsD w ax nx x) (hy : IsD w ay ny y) (hxy : x < y) :
    Calls Tryz.prog 39 #[.slice ax nx cx, .slice ay ny cy] w (DivPost w x y) := by
  have hcall := compare_any ax ay x y cx cy (by rw [← hx.len]; omega) w (by rw [← hx.len]; exact hx.dig) (by rw [← hy.len]; exact hy.dig)
  rw [← hx.len, ← hy.len, cmpN_lt hxy] at hcall
  have HC := hide hcall
  clear hcall
  go_enter Tryz.func39, Tryz.ntmps39
  go_wp2_with fail
  refine HC.out.mono ?_
  rintro e w1 ⟨rfl, hb1⟩
  go_wp2_with fail
  refine (resize_any ax nx cx nx _ rfl (dgt x) (Nat.le_refl _) (by omega) _ (hx.dig.below hb1)).mono ?_
  rintro e w2 ⟨g, rfl, hg, hc, hf, hb2⟩
  go_wp2
  go_ret2
  have hB := hb1.trans (hb2.mono hb1.size)
  refine ⟨none, 0, 0, some ⟨g, 0, none⟩, nx, nx, rfl, ⟨by rw [Nat.div_eq_of_lt hxy, dlen_zero], .inl rfl⟩, Nat.le_refl _, .inl rfl, ⟨by rw [Nat.mod_eq_of_lt hxy]; exact hx.len, ?_⟩, Nat.le_refl _, .inr fun ad e => by cases e; exact Nat.le_trans hb1.size hg, hB⟩
  rw [Nat.mod_eq_of_lt hxy]
  exact .inr ⟨g, 0, rfl, hc.congr fun j hj => by simp [mixF, hj]⟩

set_option maxRecDepth 100000 in
set_option maxHeartbeats 4000000 in
theorem divide_digit (ax ay : Option Addr) (x y nx cx cy : Nat) (hn : nx ≤ 1000000000000) (w : World) (hx : IsD w ax nx x) (hy : IsD w ay 1 y) (hxy : y ≤ x) :
    Calls Tryz.prog 39 #[.slice ax nx cx, .slice ay 1 cy] w (DivPost w x y) := by
  have hcall := compare_any ax ay x y cx cy (by rw [← hx.len]; omega) w (by rw [← hx.len]; exact hx.dig) (by rw [← hy.len]; exact hy.dig)
  rw [← hx.len, ← hy.len] at hcall
  have hcmp : 0 ≤ cmpN x y := by
    rcases Nat.lt_or_eq_of_le hxy with h | h
    · rw [cmpN_gt h]; decide
    · rw [h, cmpN_eq]; decide
  have hy0 : y ≠ 0 := fun e => by have := hy.len; rw [e, dlen_zero] at this; omega
  have hy32 : y < 4294967296 := by have := lt_bp_dlen y; rw [← hy.len, bp_one] at this; exact this
  have HC := hide hcall
  have HY := hide (And.intro hy0 hy32)
  clear hcall hy0
  go_enter Tryz.func39, Tryz.ntmps39
  go_wp2_with fail
  refine HC.out.mono ?_
  rintro e w1 ⟨rfl, hb1⟩
  go_wp2_with fail
  refine (resize_any ax nx cx nx _ rfl (dgt x) (Nat.le_refl _) (by omega) _ (hx.dig.below hb1)).mono ?_
  rintro e w2 ⟨g, rfl, hg, hc, hf, hb2⟩
  have hB2 := hb1.trans (hb2.mono hb1.size)
  obtain ⟨by', oy, rfl, hcy⟩ := (hy.dig.below hB2).at (by decide)
  have hy1 : w2.cell? ⟨by', oy, none⟩ = some (.int .u32 (y : Int)) := by
    have := hcy 0 (by decide)
    rw [Nat.add_zero] at this
    rw [this]; unfold dgt; rw [bp_zero, Nat.div_one, Nat.mod_eq_of_lt hy32]
  clear hcy
  have hyh : y ≠ 0 ∧ y < 4294967296 := HY
  have hxb : x < bp nx := by rw [hx.len]; exact lt_bp_dlen x
  have hcall2 := shorten_any g 0 nx nx x y (Nat.pos_of_ne_zero hyh.1) hyh.2 (by omega) hxb w2 (hc.lt (by rw [hx.len]; exact Nat.pos_of_ne_zero fun e => by have := dlen_eq_zero.1 e; omega)) (hc.congr fun j hj => by simp [mixF, hj]) hf
  have hq : x / y < bp nx := Nat.lt_of_le_of_lt (Nat.div_le_self _ _) hxb
  have hm : x % y < 4294967296 := Nat.lt_trans (Nat.mod_lt _ (Nat.pos_of_ne_zero hyh.1)) hyh.2
  have HS := hide hcall2
  have HQ := hide hq
  clear hcall2 hyh hxb hq hc hf
  go_wp2_with fail
  refine HS.out.mono ?_
  rintro e w3 ⟨rfl, hc3, ht3⟩
  have hB3 := hB2.trans (ht3.below (Nat.le_trans hb1.size hg) (hB2.size))
  obtain ⟨m, hmm⟩ : ∃ m, x % y = m := ⟨_, rfl⟩
  rw [hmm] at hm ⊢
  have HM := hide hmm
  have hd3 : Dig w3 (some ⟨g, 0, none⟩) nx (dgt (x / y)) := .inr ⟨g, 0, rfl, hc3⟩
  have hcall3 := trim_any (some ⟨g, 0, none⟩) nx nx (dgt (x / y)) (by omega) (Nat.le_refl _) (fun j _ => dgt_lt _ _) w3 hd3
  rw [valF_dgt, Nat.mod_eq_of_lt HQ.out] at hcall3
  have HT := hide hcall3
  have HD := hide hd3
  clear hcall3 hd3 hmm hc3 ht3
  go_wp2_with fail
  refine HT.out.mono ?_
  rintro e w4 ⟨a4, c4, rfl, ha4, hc4, hb4⟩
  have hB4 := hB3.trans (hb4.mono hB3.size)
  have hcall4 := split_any m (by omega) w4
  have HP := hide hcall4
  have HA := hide ha4
  clear hcall4 ha4
  go_wp2_with fail
  refine HP.out.mono ?_
  rintro e w5 ⟨a5, n5, c5, rfl, h5, hc5, hf5, hb5⟩
  go_wp2
  go_ret2
  have hm : x % y = m := HM
  have hlt : x / y < bp nx := HQ
  have hI : IsD w4 a4 (dlen (x / y)) (x / y) := by
    have h := IsD.of (HD.out.below hb4) (fun j _ => dgt_lt _ _) (a' := a4) (by rw [valF_dgt, Nat.mod_eq_of_lt hlt]; exact HA)
    rw [valF_dgt, Nat.mod_eq_of_lt hlt] at h
    exact h
  have hg4 : w.heap.size ≤ g := Nat.le_trans hb1.size hg
  refine ⟨a4, _, c4, a5, n5, c5, rfl, hI.below hb5, hc4, ?_, by rw [hm]; exact h5, hc5, ?_, hB4.trans (hb5.mono hB4.size)⟩
  · rcases HA.out with e | e
    · exact .inr fun ad h => by rw [e] at h; cases h; exact hg4
    · exact .inl e
  · rcases hf5 with e | e
    · exact .inl e
    · exact .inr fun ad h => Nat.le_trans hB4.size (e ad h)
end Go.Proofs.YtmpdeiopdempcaaGreatDoor
