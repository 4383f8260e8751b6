/- num's firstSteps: the first steps of Euclid's algorithm. -/
import Derived.Test.YtgenaicmjddjcaaGreatDoorPShift
import Derived.Test.YtgenaicmjddjcaaGreatDoorPDivL
import Derived.Deep.QuietTactic
import Derived.BigQuiet
import Derived.StillTailTactics
import Derived.Deep.LoopGhost
import Derived.Deep.DeepCutAuto
import Derived.Deep.CutBlock
import Derived.Deep.RegionHeld
namespace Go.Proofs.YtgenaicmjddjcaaGreatDoor
open Go.RowKit Go.Shelf

structure Box4 (w : World) (b : Nat) (v0 v1 v2 v3 : Int) : Prop where
 c0 : w.cell? ⟨b, 0, none⟩ = some (.int .i64 v0)
 c1 : w.cell? ⟨b, 1, none⟩ = some (.int .i64 v1)
 c2 : w.cell? ⟨b, 2, none⟩ = some (.int .i64 v2)
 c3 : w.cell? ⟨b, 3, none⟩ = some (.int .i64 v3)
 z0 : w.frozen? ⟨b, 0, none⟩ = false
 z1 : w.frozen? ⟨b, 1, none⟩ = false
 z2 : w.frozen? ⟨b, 2, none⟩ = false
 z3 : w.frozen? ⟨b, 3, none⟩ = false
theorem Box4.lt {w : World} {b : Nat} {v0 v1 v2 v3 : Int} (h : Box4 w b v0 v1 v2 v3) : b < w.heap.size := lt_of_cell h.c0
theorem Box4.below {w w' : World} {b : Nat} {v0 v1 v2 v3 : Int} (h : Box4 w b v0 v1 v2 v3) (t : Below w.heap.size w w') : Box4 w' b v0 v1 v2 v3 :=
 ⟨(t.cell (p := ⟨b, 0, none⟩) h.lt).trans h.c0, (t.cell (p := ⟨b, 1, none⟩) h.lt).trans h.c1, (t.cell (p := ⟨b, 2, none⟩) h.lt).trans h.c2, (t.cell (p := ⟨b, 3, none⟩) h.lt).trans h.c3,
   (t.frozen (p := ⟨b, 0, none⟩) h.lt).trans h.z0, (t.frozen (p := ⟨b, 1, none⟩) h.lt).trans h.z1, (t.frozen (p := ⟨b, 2, none⟩) h.lt).trans h.z2, (t.frozen (p := ⟨b, 3, none⟩) h.lt).trans h.z3⟩
theorem Box4.new (w : World) (v0 v1 v2 v3 : Int) (t : TypeId) : Box4 (w.alloc (.cells #[.int .i64 v0, .int .i64 v1, .int .i64 v2, .int .i64 v3] t)) w.heap.size v0 v1 v2 v3 := by
 refine ⟨?_, ?_, ?_, ?_, ?_, ?_, ?_, ?_⟩ <;> simp [go_sem]

theorem set4_other {w : World} {b c : Nat} {v0 v1 v2 v3 : Int} (h : Box4 w c v0 v1 v2 v3) (hne : c ≠ b) (u0 u1 u2 u3 : Int) :
 ((((w.setCell ⟨b, 0, none⟩ (.int .i64 u0)).setCell ⟨b, 1, none⟩ (.int .i64 u1)).setCell ⟨b, 2, none⟩ (.int .i64 u2)).setCell ⟨b, 3, none⟩ (.int .i64 u3)).cell? ⟨c, 0, none⟩ = some (.int .i64 v0) ∧
 ((((w.setCell ⟨b, 0, none⟩ (.int .i64 u0)).setCell ⟨b, 1, none⟩ (.int .i64 u1)).setCell ⟨b, 2, none⟩ (.int .i64 u2)).setCell ⟨b, 3, none⟩ (.int .i64 u3)).cell? ⟨c, 1, none⟩ = some (.int .i64 v1) ∧
 ((((w.setCell ⟨b, 0, none⟩ (.int .i64 u0)).setCell ⟨b, 1, none⟩ (.int .i64 u1)).setCell ⟨b, 2, none⟩ (.int .i64 u2)).setCell ⟨b, 3, none⟩ (.int .i64 u3)).cell? ⟨c, 2, none⟩ = some (.int .i64 v2) ∧
 ((((w.setCell ⟨b, 0, none⟩ (.int .i64 u0)).setCell ⟨b, 1, none⟩ (.int .i64 u1)).setCell ⟨b, 2, none⟩ (.int .i64 u2)).setCell ⟨b, 3, none⟩ (.int .i64 u3)).cell? ⟨c, 3, none⟩ = some (.int .i64 v3) := by
 have ne : ∀ {o p : Nat}, (⟨c, o, none⟩ : Addr) ≠ ⟨b, p, none⟩ := fun e => hne (congrArg Addr.block e)
 refine ⟨?_, ?_, ?_, ?_⟩ <;> (rw [cell_setCell_ne _ _ _ _ ne rfl rfl, cell_setCell_ne _ _ _ _ ne rfl rfl, cell_setCell_ne _ _ _ _ ne rfl rfl, cell_setCell_ne _ _ _ _ ne rfl rfl])
 · exact h.c0
 · exact h.c1
 · exact h.c2
 · exact h.c3
theorem set4_same {w : World} {b : Nat} {v0 v1 v2 v3 : Int} (h : Box4 w b v0 v1 v2 v3) (u0 u1 u2 u3 : Int) :
 Box4 ((((w.setCell ⟨b, 0, none⟩ (.int .i64 u0)).setCell ⟨b, 1, none⟩ (.int .i64 u1)).setCell ⟨b, 2, none⟩ (.int .i64 u2)).setCell ⟨b, 3, none⟩ (.int .i64 u3)) b u0 u1 u2 u3 := by
 have ne : ∀ {o p : Nat}, o ≠ p → (⟨b, o, none⟩ : Addr) ≠ ⟨b, p, none⟩ := fun hne e => hne (congrArg Addr.off e)
 refine ⟨?_, ?_, ?_, ?_, ?_, ?_, ?_, ?_⟩
 · rw [cell_setCell_ne _ _ _ _ (ne (by decide)) rfl rfl, cell_setCell_ne _ _ _ _ (ne (by decide)) rfl rfl, cell_setCell_ne _ _ _ _ (ne (by decide)) rfl rfl]; exact World.cell?_setCell_same' _ _ _ (by rw [h.c0]; rfl)
 · rw [cell_setCell_ne _ _ _ _ (ne (by decide)) rfl rfl, cell_setCell_ne _ _ _ _ (ne (by decide)) rfl rfl]
   exact World.cell?_setCell_same' _ _ _ (by rw [cell_setCell_ne _ _ _ _ (ne (by decide)) rfl rfl, h.c1]; rfl)
 · rw [cell_setCell_ne _ _ _ _ (ne (by decide)) rfl rfl]
   exact World.cell?_setCell_same' _ _ _ (by rw [cell_setCell_ne _ _ _ _ (ne (by decide)) rfl rfl, cell_setCell_ne _ _ _ _ (ne (by decide)) rfl rfl, h.c2]; rfl)
 · exact World.cell?_setCell_same' _ _ _ (by rw [cell_setCell_ne _ _ _ _ (ne (by decide)) rfl rfl, cell_setCell_ne _ _ _ _ (ne (by decide)) rfl rfl, cell_setCell_ne _ _ _ _ (ne (by decide)) rfl rfl, h.c3]; rfl)
 all_goals rw [World.frozen?_setCell, World.frozen?_setCell, World.frozen?_setCell, World.frozen?_setCell]
 · exact h.z0
 · exact h.z1
 · exact h.z2
 · exact h.z3
theorem Box4.far {w : World} {b c : Nat} {v0 v1 v2 v3 : Int} (h : Box4 w c v0 v1 v2 v3) (hne : c ≠ b) (u0 u1 u2 u3 : Int) :
 Box4 ((((w.setCell ⟨b, 0, none⟩ (.int .i64 u0)).setCell ⟨b, 1, none⟩ (.int .i64 u1)).setCell ⟨b, 2, none⟩ (.int .i64 u2)).setCell ⟨b, 3, none⟩ (.int .i64 u3)) c v0 v1 v2 v3 := by
 obtain ⟨h0, h1, h2, h3⟩ := set4_other h hne u0 u1 u2 u3
 refine ⟨h0, h1, h2, h3, ?_, ?_, ?_, ?_⟩ <;> (rw [World.frozen?_setCell, World.frozen?_setCell, World.frozen?_setCell, World.frozen?_setCell])
 · exact h.z0
 · exact h.z1
 · exact h.z2
 · exact h.z3
theorem set4_below {w w' : World} {C b : Nat} (h : Below C w w') (hb : C ≤ b) (u0 u1 u2 u3 : Int) :
 Below C w ((((w'.setCell ⟨b, 0, none⟩ (.int .i64 u0)).setCell ⟨b, 1, none⟩ (.int .i64 u1)).setCell ⟨b, 2, none⟩ (.int .i64 u2)).setCell ⟨b, 3, none⟩ (.int .i64 u3)) :=
 (((h.setCell (p := ⟨b, 0, none⟩) hb _).setCell (p := ⟨b, 1, none⟩) hb _).setCell (p := ⟨b, 2, none⟩) hb _).setCell (p := ⟨b, 3, none⟩) hb _
theorem Box4.drewN {w : World} {b : Nat} {v0 v1 v2 v3 : Int} (h : Box4 w b v0 v1 v2 v3) (n : Nat) : Box4 (w.drewN n) b v0 v1 v2 v3 := ⟨h.c0, h.c1, h.c2, h.c3, h.z0, h.z1, h.z2, h.z3⟩
theorem below_drewN4 {B : Nat} {a w : World} (h : Below B a w) (n : Nat) : Below B a (w.drewN n) := ⟨h.os, h.tape, h.output, h.size, h.block⟩

def FirstPost (x y : Nat) (w : World) (e : Ending) (w' : World) : Prop :=
 ∃ (s : Bool) (A B C D : Nat), e = .returned (.tuple #[.agg #[.int .i64 (sgn s A), .int .i64 (sgn (!s) B), .int .i64 (sgn (!s) C), .int .i64 (sgn s D)], .bool (decide (B ≠ 0))]) ∧ Below w.heap.size w w' ∧
  A < 2147483648 ∧ B < 2147483648 ∧ C < 2147483648 ∧ D < 2147483648 ∧
  (B ≠ 0 → ∃ X Y : Nat, (X : Int) = sgn s A * (x : Int) + sgn (!s) B * (y : Int) ∧ (Y : Int) = sgn (!s) C * (x : Int) + sgn s D * (y : Int) ∧ Y ≤ X ∧ X ≤ x ∧ Nat.gcd X Y = Nat.gcd x y ∧ X + Y < x + y)

def FirstOut (x y B4 B9 : Nat) (w w' : World) : Prop :=
 ∃ (s : Bool) (A B C D : Nat), (A < 2147483648 ∧ B < 2147483648 ∧ C < 2147483648 ∧ D < 2147483648 ∧
  (B ≠ 0 → ∃ X Y : Nat, (X : Int) = sgn s A * (x : Int) + sgn (!s) B * (y : Int) ∧ (Y : Int) = sgn (!s) C * (x : Int) + sgn s D * (y : Int) ∧ Y ≤ X ∧ X ≤ x ∧ Nat.gcd X Y = Nat.gcd x y ∧ X + Y < x + y)) ∧
  Box4 w' B9 (sgn s A) (sgn (!s) B) (sgn (!s) C) (sgn s D) ∧ Box4 w' B4 0 0 0 0 ∧ Below w.heap.size w w'

theorem Steps.post {x y P Q p q : Nat} {s : Bool} {A B C D X Y : Nat} (h : Steps x y P Q p q s A B C D X Y) : A < 2147483648 ∧ B < 2147483648 ∧ C < 2147483648 ∧ D < 2147483648 ∧
 (B ≠ 0 → ∃ X Y : Nat, (X : Int) = sgn s A * (x : Int) + sgn (!s) B * (y : Int) ∧ (Y : Int) = sgn (!s) C * (x : Int) + sgn s D * (y : Int) ∧ Y ≤ X ∧ X ≤ x ∧ Nat.gcd X Y = Nat.gcd x y ∧ X + Y < x + y) := by
 have h1 := h.small
 have h2 := h.bd
 have h3 := h.cd
 have h4 := h.d1
 refine ⟨?_, by omega, by omega, h1, fun hB => ⟨X, Y, h.hX, h.hY, h.yx, h.xx, h.gcd, h.less hB⟩⟩
 rcases h.ab with e | ⟨e, _⟩ <;> omega

theorem lead_pair {x y m s : Nat} (hx : dlen x = m + 3) (hyx : y ≤ x) (hs' : (dgt x (m + 2) + 1) * 2 ^ s ≤ 4294967296) :
 valF (fun j => dgt x (m + 1 + j)) 2 * 2 ^ s < 18446744073709551616 ∧ valF (fun j => dgt y (m + 1 + j)) 2 * 2 ^ s < 18446744073709551616 := by
 have hxl := lt_bp_dlen x
 rw [hx] at hxl
 have e : ∀ V : Nat, valF (fun j => dgt V (m + 1 + j)) 2 = V / bp (m + 1) % bp 2 := fun V => by
  rw [← valF_dgt]; exact valF_congr fun j _ => (dgt_div V (m + 1) j).symm
 have ht : dgt x (m + 2) = x / bp (m + 2) := by
  unfold dgt; exact Nat.mod_eq_of_lt (by rw [Nat.div_lt_iff_lt_mul (bp_pos _), ← bp_succ]; exact hxl)
 have h2 : x / bp (m + 1) < (dgt x (m + 2) + 1) * 4294967296 := by
  rw [ht, Nat.div_lt_iff_lt_mul (bp_pos _), Nat.mul_assoc, ← bp_succ, Nat.mul_comm]
  exact Nat.lt_mul_div_succ x (bp_pos _)
 have h3 : ∀ V : Nat, V ≤ x → V / bp (m + 1) % bp 2 * 2 ^ s < 18446744073709551616 := fun V hV => by
  have h4 : V / bp (m + 1) % bp 2 ≤ x / bp (m + 1) := Nat.le_trans (Nat.mod_le _ _) (Nat.div_le_div_right hV)
  obtain ⟨T, hT⟩ : ∃ T, V / bp (m + 1) % bp 2 = T := ⟨_, rfl⟩
  obtain ⟨t, htt⟩ : ∃ t, dgt x (m + 2) = t := ⟨_, rfl⟩
  rw [hT] at h4 ⊢
  rw [htt] at h2 hs'
  have h5 : T * 2 ^ s < (t + 1) * 4294967296 * 2 ^ s := Nat.mul_lt_mul_of_pos_right (Nat.lt_of_le_of_lt h4 h2) (pow_pos' s)
  rw [Nat.mul_right_comm] at h5
  have h6 : (t + 1) * 2 ^ s * 4294967296 ≤ 4294967296 * 4294967296 := Nat.mul_le_mul_right _ hs'
  omega
 rw [e, e]
 exact ⟨h3 x (Nat.le_refl _), h3 y hyx⟩
theorem lead_lt {f : Nat → Nat} {m s : Nat} (hs : s ≤ 31) (hf : ∀ j, j < m + 3 → f j < 4294967296) (hhi : valF (fun j => f (m + 1 + j)) 2 * 2 ^ s < 18446744073709551616) : valF f (m + 3) / (bp m * 2 ^ (34 - s)) < 4611686018427387904 := by
 rw [← lead_val (f := f) (m := m) (s := s) (by omega) (fun j hj => hf j (by omega))]
 have hl := hf m (by omega)
 have hcl : f m * 2 ^ s / 4294967296 < 2 ^ s := by
  rw [Nat.div_lt_iff_lt_mul (by decide), Nat.mul_comm]
  exact Nat.mul_lt_mul_of_pos_left hl (pow_pos' s)
 have hs2 : 2 ^ s ≤ 2 ^ 31 := Nat.pow_le_pow_right (by decide) hs
 have hor := or_parts (e := valF (fun j => f (m + 1 + j)) 2 * 2 ^ s) (b := f m * 2 ^ s / 4294967296) (s := s) (Nat.mul_mod_left _ _) hcl
 have := or_lt (u := valF (fun j => f (m + 1 + j)) 2 * 2 ^ s) (c := f m * 2 ^ s / 4294967296) hhi (by omega)
 rw [hor] at this
 omega

set_option maxRecDepth 100000 in
set_option maxHeartbeats 8000000 in
theorem firstSteps_any (bx ox by' oy m cx cy x y : Nat) (hm : m ≤ 1099511627000) (hcx : m + 3 ≤ cx) (hcy : m + 3 ≤ cy) (hx : dlen x = m + 3) (hyx : y ≤ x) (w : World) (hcX : Cells w bx ox (m + 3) (dgt x)) (hcY : Cells w by' oy (m + 3) (dgt y)) :
 Calls Tryz.prog 133 #[.slice (some ⟨bx, ox, none⟩) ((m + 3 : Nat)) cx, .slice (some ⟨by', oy, none⟩) ((m + 3 : Nat)) cy] w (FirstPost x y w) := by
 have hx0 : x ≠ 0 := fun e => by rw [e, dlen_zero] at hx; omega
 have htop0 : dgt x (m + 2) ≠ 0 := by have := dgt_top hx0; rw [hx] at this; exact this
 have htl := dgt_lt x (m + 2)
 obtain ⟨hb1, hb2, hs1, hs2⟩ := bitLen_sh htop0 htl
 have HLZ := lz32_any (dgt x (m + 2)) htl
 obtain ⟨s, hs⟩ : ∃ s, 32 - Lib.bitLen (dgt x (m + 2)) = s := ⟨_, rfl⟩
 rw [hs] at hs1 hs2 HLZ
 have hs31 : s ≤ 31 := by omega
 obtain ⟨hp1, hp2⟩ := lead_pair (y := y) hx hyx hs2
 have hxl := lt_bp_dlen x
 rw [hx] at hxl
 have hyl := Nat.lt_of_le_of_lt hyx hxl
 have hvx : valF (dgt x) (m + 3) = x := by rw [valF_dgt, Nat.mod_eq_of_lt hxl]
 have hvy : valF (dgt y) (m + 3) = y := by rw [valF_dgt, Nat.mod_eq_of_lt hyl]
 have hl1 := fun w' (hd : Below w.heap.size w w') => leading_any bx ox m cx s (dgt x) hs31 hm hcx (fun _ _ => dgt_lt _ _) hp1 w' (hcX.below hd (.inl (Nat.le_refl _)))
 have hl2 := fun w' (hd : Below w.heap.size w w') => leading_any by' oy m cy s (dgt y) hs31 hm hcy (fun _ _ => dgt_lt _ _) hp2 w' (hcY.below hd (.inl (Nat.le_refl _)))
 have hP62 := lead_lt (f := dgt x) (m := m) (s := s) hs31 (fun _ _ => dgt_lt _ _) hp1
 obtain ⟨K, hK⟩ : ∃ K, bp m * 2 ^ (34 - s) = K := ⟨_, rfl⟩
 rw [hvx, hK] at hl1 hP62
 rw [hvy, hK] at hl2
 have hK0 : 0 < K := by rw [← hK]; exact Nat.mul_pos (bp_pos m) (pow_pos' _)
 obtain ⟨P, hP⟩ : ∃ P, x / K = P := ⟨_, rfl⟩
 obtain ⟨Q, hQ⟩ : ∃ Q, y / K = Q := ⟨_, rfl⟩
 have hxK : x = K * P + x % K := by rw [← hP]; exact (Nat.div_add_mod x K).symm
 have hyK : y = K * Q + y % K := by rw [← hQ]; exact (Nat.div_add_mod y K).symm
 have hQP : Q ≤ P := by rw [← hP, ← hQ]; exact Nat.div_le_div_right hyx
 rw [hP] at hl1 hP62
 rw [hQ] at hl2
 have hα := Nat.le_of_lt (Nat.mod_lt x hK0)
 have hβ := Nat.le_of_lt (Nat.mod_lt y hK0)
 obtain ⟨t, ht⟩ : ∃ t, dgt x (m + 2) = t := ⟨_, rfl⟩
 have hyt := hcX (m + 2) (by omega)
 rw [ht] at hyt HLZ
 have HL := hide HLZ
 have HL1 := hide hl1
 have HL2 := hide hl2
 have HS0 := hide (Steps.start (x := x) (y := y) hyx hQP)
 have HK := hide (And.intro hxK (And.intro hyK (And.intro hα (And.intro hβ (And.intro hP62 hK0)))))
 have i1 : (0 : Int) ≤ (m : Int) + 2 := by omega
 have i2 : (m : Int) + 2 < (m : Int) + 3 := by omega
 have i3 : ((m : Int) + 2).toNat = m + 2 := by omega
 have i4 : IntKind.i64.wrap ((m : Int) + 3 - 1) = (m : Int) + 2 := by rw [show (m : Int) + 3 - 1 = (m : Int) + 2 from by omega]; exact IntWalk.i64_in _ (by omega)
 have e3 : ((m + 3 : Nat) : Int) = (m : Int) + 3 := by omega
 clear HLZ hl1 hl2 hxK hyK hα hβ hP62 hK0 hx0 htop0 htl hb1 hb2 hs1 hs2 hs hp1 hp2 hxl hyl hvx hvy hK hP hQ hQP ht hx hyx hcX hcY hcx hcy
 have hB4 := below_alloc' w (Obj.cells #[.int .i64 0, .int .i64 0, .int .i64 0, .int .i64 0] 133)
 have b4 := Box4.new w 0 0 0 0 133
 have hyt4 := (hB4.cell (p := ⟨bx, ox + (m + 2), none⟩) (lt_of_cell hyt)).trans hyt
 clear hyt
 go_enter Tryz.func133, Tryz.ntmps133
 go_wp2_with fail
 obtain ⟨U4, hU4⟩ : ∃ U4, w.alloc (Obj.cells #[.int .i64 0, .int .i64 0, .int .i64 0, .int .i64 0] 133) = U4 := ⟨_, rfl⟩
 obtain ⟨B4, hB4e⟩ : ∃ B4, w.heap.size = B4 := ⟨_, rfl⟩
 rw [hU4] at hB4 b4 hyt4 ⊢
 rw [hB4e] at b4 ⊢
 have hw4 : w.heap.size ≤ B4 := by omega
 clear hU4 hB4e hyt4
 refine (HL.out _).mono ?_
 rintro e w' ⟨rfl, rfl⟩
 go_wp2_with fail
 refine (HL1.out _ hB4).mono ?_
 rintro e U5 ⟨rfl, hk5⟩
 have hB5 := hB4.trans (hk5.mono hB4.size)
 have b4 := b4.below hk5
 go_wp2_with fail
 refine (HL2.out _ hB5).mono ?_
 rintro e U6 ⟨rfl, hk6⟩
 have hB6 := hB5.trans (hk6.mono hB5.size)
 have b4 := b4.below hk6
 have hb4l := b4.lt
 clear hk5 hk6 hB4 hB5
 have b9 := Box4.new U6 1 0 0 1 133
 have hk7 := below_alloc' U6 (Obj.cells #[.int .i64 1, .int .i64 0, .int .i64 0, .int .i64 1] 133)
 have b4 := b4.below hk7
 have hB7 := hB6.trans (hk7.mono hB6.size)
 go_upto_block 0 with (fail)
 obtain ⟨U7, hU7⟩ : ∃ U7, U6.alloc (Obj.cells #[.int .i64 1, .int .i64 0, .int .i64 0, .int .i64 1] 133) = U7 := ⟨_, rfl⟩
 obtain ⟨B9, hB9⟩ : ∃ B9, U6.heap.size = B9 := ⟨_, rfl⟩
 rw [hU7] at b9 b4 hB7 ⊢
 rw [hB9] at b9 hb4l ⊢
 have hw9 : w.heap.size ≤ B9 := by omega
 clear hU7 hk7 hB9 hB6
 go_cut [7] (fun _ w' => FirstOut x y B4 B9 w w')
 case first =>
  go_wp2_with fail
  go_loopw [7, 8] (fun pv qv wr => ∃ (p q : Nat) (s : Bool) (A B C D X Y : Nat), pv = .int .i64 (p : Int) ∧ qv = .int .i64 (q : Int) ∧ Hid (Steps x y P Q p q s A B C D X Y) ∧ Box4 wr B9 (sgn s A) (sgn (!s) B) (sgn (!s) C) (sgn s D) ∧ Box4 wr B4 0 0 0 0 ∧ Below w.heap.size w wr)
   (fun _ qv _ => (intOf qv).toNat)
  case atStart => exact ⟨P, Q, false, 1, 0, 0, 1, x, y, rfl, rfl, HS0.out, b9, b4, hB7⟩
  case round =>
   obtain ⟨p, q, s, A, B, C, D, X, Y, rfl, rfl, HS, b9, b4, hB⟩ := hrel
   have hS := HS.out
   have hp62 : p < 4611686018427387904 := by
    have h1 := hS.hP
    have h2 := hS.d1
    have h3 := HK.out.2.2.2.2.1
    have : 1 * p ≤ D * p := Nat.mul_le_mul_right p h2
    omega
   by_cases hq0 : 0 < q
   · obtain ⟨hf1, hf2, hf3⟩ := hS.fit hq0
     have hdm := Nat.div_add_mod p q
     have hmod := Nat.mod_lt p hq0
     obtain ⟨k, hk⟩ : ∃ k, p / q = k := ⟨_, rfl⟩
     obtain ⟨r, hr⟩ : ∃ r, p % q = r := ⟨_, rfl⟩
     have hnext := fun h1 h2 => hS.next HK.out.1 HK.out.2.1 HK.out.2.2.1 HK.out.2.2.2.1 HK.out.2.2.2.2.1 HK.out.2.2.2.2.2 hq0 h1 h2
     have hP62 := HK.out.2.2.2.2.1
     have hDs := hS.small
     have hqp := hS.qp
     have hCD := hS.cd
     rw [hk] at hf1 hf2 hf3 hdm hnext
     rw [hr] at hdm hmod hnext
     obtain ⟨C', hC'⟩ : ∃ C', A + k * C = C' := ⟨_, rfl⟩
     obtain ⟨D', hD'⟩ : ∃ D', B + k * D = D' := ⟨_, rfl⟩
     have sC := sgn_step s A C k
     have sD := sgn_step (!s) B D k
     rw [Bool.not_not] at sD
     rw [hC'] at hf2 sC hnext
     rw [hD'] at hf1 hf2 hf3 sD hnext
     obtain ⟨kq, hkq⟩ : ∃ kq, k * q = kq := ⟨_, rfl⟩
     rw [Nat.mul_comm, hkq] at hdm
     have bC := sgn_bounds s C'
     have bD := sgn_bounds (!s) D'
     have bA := sgn_bounds s A
     have bB := sgn_bounds (!s) B
     have mD := sgn_max (!s) D'
     have mD0 := sgn_max s D
     have hA62 : A ≤ P := by have h1 : 0 ≤ k * C := Nat.zero_le _; omega
     have hB62 : B ≤ P := by have h1 : 0 ≤ k * D := Nat.zero_le _; omega
     have E1 : (p : Int) / (q : Int) = (k : Int) := by rw [← hk]; exact (Int.natCast_ediv _ _).symm
     have E2 : (k : Int) * (q : Int) = (kq : Int) := by rw [← hkq, Int.natCast_mul]
     have hqn : ¬ (q : Int) = 0 := by omega
     have hqn2 : ¬ q = 0 := by omega
     have hqA : (0 : Int) < (q : Int) := by omega
     have hkp : k ≤ p := by rw [← hk]; exact Nat.div_le_self _ _
     have W1 : IntKind.i64.wrap (k : Int) = (k : Int) := IntWalk.i64_in _ (by omega)
     clear hkp
     have W2 : IntKind.i64.wrap (kq : Int) = (kq : Int) := IntWalk.i64_in _ (by omega)
     have W3 : IntKind.i64.wrap ((p : Int) - (kq : Int)) = (r : Int) := by rw [show (p : Int) - (kq : Int) = (r : Int) from by omega]; exact IntWalk.i64_in _ (by omega)
     obtain ⟨a0, ha0⟩ : ∃ a0, sgn s A = a0 := ⟨_, rfl⟩
     obtain ⟨b0, hb0⟩ : ∃ b0, sgn (!s) B = b0 := ⟨_, rfl⟩
     obtain ⟨c0, hc0⟩ : ∃ c0, sgn (!s) C = c0 := ⟨_, rfl⟩
     obtain ⟨d0, hd0⟩ : ∃ d0, sgn s D = d0 := ⟨_, rfl⟩
     obtain ⟨c1, hc1⟩ : ∃ c1, sgn s C' = c1 := ⟨_, rfl⟩
     obtain ⟨d1, hd1⟩ : ∃ d1, sgn (!s) D' = d1 := ⟨_, rfl⟩
     rw [ha0, hc0, hc1] at sC
     rw [hb0, hd0, hd1] at sD
     rw [hc1] at bC
     rw [hd1] at bD mD
     rw [ha0] at bA
     rw [hb0] at bB
     rw [hd0] at mD0
     rw [ha0, hb0, hc0, hd0] at b9
     obtain ⟨kc, hkc⟩ : ∃ kc : Int, (k : Int) * c0 = kc := ⟨_, rfl⟩
     obtain ⟨kd, hkd⟩ : ∃ kd : Int, (k : Int) * d0 = kd := ⟨_, rfl⟩
     rw [hkc] at sC
     rw [hkd] at sD
     have W4 : IntKind.i64.wrap kc = kc := IntWalk.i64_in _ (by omega)
     have W5 : IntKind.i64.wrap (a0 - kc) = c1 := by rw [sC]; exact IntWalk.i64_in _ (by omega)
     have W6 : IntKind.i64.wrap kd = kd := IntWalk.i64_in _ (by omega)
     have W7 : IntKind.i64.wrap (b0 - kd) = d1 := by rw [sD]; exact IntWalk.i64_in _ (by omega)
     have HA1 := hide (fun w => abs_any d1 D' mD (by omega) w)
     have HA2 := hide (fun w => abs_any d0 D mD0 (by omega) w)
     obtain ⟨qr, hqr⟩ : ∃ qr, q - r = qr := ⟨_, rfl⟩
     obtain ⟨dd, hdd⟩ : ∃ dd, D + D' = dd := ⟨_, rfl⟩
     rw [hqr, hdd] at hnext
     have W8 : IntKind.i64.wrap ((q : Int) - (r : Int)) = (qr : Int) := by rw [show (q : Int) - (r : Int) = (qr : Int) from by omega]; exact IntWalk.i64_in _ (by omega)
     have W9 : IntKind.i64.wrap ((D : Int) + (D' : Int)) = (dd : Int) := by rw [show (D : Int) + (D' : Int) = (dd : Int) from by omega]; exact IntWalk.i64_in _ (by omega)
     have HN := hide hnext
     have HE := hide (And.intro ha0 (And.intro hb0 (And.intro hc0 (And.intro hd0 (And.intro hc1 hd1)))))
     have HR := hide hmod
     have b12 := Box4.new wr c0 d0 c1 d1 133
     have hk12 := below_alloc' wr (Obj.cells #[.int .i64 c0, .int .i64 d0, .int .i64 c1, .int .i64 d1] 133)
     have hb9l := b9.lt
     have b9n := b9.below hk12
     have b4n := b4.below hk12
     have hBn := hB.trans (hk12.mono hB.size)
     have HW := hide (And.intro b9n (And.intro b4n (And.intro hBn b12)))
     clear hS hp62 hf1 hf2 hf3 hdm hmod hk hr hnext hP62 hDs hCD hqp hC' hD' sC sD hkq bC bD bA bB mD mD0 hA62 hB62 hqr hdd ha0 hb0 hc0 hd0 hc1 hd1 b9n b4n hBn b12 hk12
     obtain ⟨q0, q1, q2, q3, -, -, -, -⟩ := b9
     by_cases h1 : r < D'
     · have hd1 : decide (r < D') = true := by simp [h1]
       clear h1
       go_wp2_with fail
       go_quiet ((first | (go_at_call 160; exact Calls.quiet_of_same (HA1.out _)) | (go_at_call 160; exact Calls.quiet_of_same (HA2.out _))))
       obtain ⟨b9, b4, hB, b12⟩ := HW.out
       have b9 := b9.drewN nq
       have b4 := b4.drewN nq
       have b12 := b12.drewN nq
       have hB := below_drewN4 hB nq
       obtain ⟨WX, hWX⟩ : ∃ WX, (wr.alloc (Obj.cells #[.int .i64 c0, .int .i64 d0, .int .i64 c1, .int .i64 d1] 133)).drewN nq = WX := ⟨_, rfl⟩
       rw [hWX] at b9 b4 hB b12 ⊢
       clear hWX q0 q1 q2 q3 HW
       clear b12
       have HO : Hid (FirstOut x y B4 B9 w WX) := by
        obtain ⟨ha, hb, hc, hd, -, -⟩ := HE.out
        refine ⟨s, A, B, C, D, HS.out.post, ?_, b4, hB⟩
        rw [ha, hb, hc, hd]; exact b9
       clear b9 b4 hB
       go_wp2_with fail
       go_meet
       exact HO.out
     · have hd1 : decide (r < D') = false := by simp [h1]
       have H1 := hide h1
       clear h1
       by_cases h2 : qr < dd
       · have hd2 : decide (qr < dd) = true := by simp [h2]
         clear h2
         go_wp2_with fail
         go_quiet ((first | (go_at_call 160; exact Calls.quiet_of_same (HA1.out _)) | (go_at_call 160; exact Calls.quiet_of_same (HA2.out _))))
         obtain ⟨b9, b4, hB, b12⟩ := HW.out
         have b9 := b9.drewN nq
         have b4 := b4.drewN nq
         have b12 := b12.drewN nq
         have hB := below_drewN4 hB nq
         obtain ⟨WX, hWX⟩ : ∃ WX, (wr.alloc (Obj.cells #[.int .i64 c0, .int .i64 d0, .int .i64 c1, .int .i64 d1] 133)).drewN nq = WX := ⟨_, rfl⟩
         rw [hWX] at b9 b4 hB b12 ⊢
         clear hWX q0 q1 q2 q3 HW
         clear b12
         have HO : Hid (FirstOut x y B4 B9 w WX) := by
          obtain ⟨ha, hb, hc, hd, -, -⟩ := HE.out
          refine ⟨s, A, B, C, D, HS.out.post, ?_, b4, hB⟩
          rw [ha, hb, hc, hd]; exact b9
         clear b9 b4 hB
         go_wp2_with fail
         go_meet
         exact HO.out
       · have hd2 : decide (qr < dd) = false := by simp [h2]
         have H2 := hide h2
         clear h2
         go_wp2_with fail
         go_quiet ((first | (go_at_call 160; exact Calls.quiet_of_same (HA1.out _)) | (go_at_call 160; exact Calls.quiet_of_same (HA2.out _))))
         obtain ⟨b9, b4, hB, b12⟩ := HW.out
         have b9 := b9.drewN nq
         have b4 := b4.drewN nq
         have b12 := b12.drewN nq
         have hB := below_drewN4 hB nq
         obtain ⟨WX, hWX⟩ : ∃ WX, (wr.alloc (Obj.cells #[.int .i64 c0, .int .i64 d0, .int .i64 c1, .int .i64 d1] 133)).drewN nq = WX := ⟨_, rfl⟩
         rw [hWX] at b9 b4 hB b12 ⊢
         clear hWX q0 q1 q2 q3 HW
         have hne : B4 ≠ B9 := by have := b4.lt; omega
         have K2 := set4_same b9 c0 d0 c1 d1
         have K4 := b4
         have KB := set4_below hB hw9 c0 d0 c1 d1
         have hne12 : wr.heap.size ≠ B9 := by omega
         obtain ⟨X', Y', hS'⟩ := HN.out (by have := H1.out; omega) (by have := H2.out; omega)
         obtain ⟨g0, g1, g2, g3, y0, y1, y2, y3⟩ := b9
         obtain ⟨p0, p1, p2, p3, -, -, -, -⟩ := b12
         have HK2 := hide (And.intro K2 (And.intro KB hS'))
         have HB4 := hide b4
         clear K2 KB hS' b4 K4 hB
         go_wp2_with fail
         go_still_tail 5, (by kernel_rfl)
         change wpList _ _ _ _ _ WX.drew
         go_wp2
         obtain ⟨k2, kb, hS'⟩ := HK2.out
         obtain ⟨-, -, hc, hd, hc1, hd1⟩ := HE.out
         go_roundw
         case rel =>
          refine ⟨q, r, !s, C, D, C', D', X', Y', rfl, rfl, hS', ?_, ?_, kb.drew⟩
          · rw [Bool.not_not, hc, hd, hc1, hd1]; exact ⟨k2.c0, k2.c1, k2.c2, k2.c3, k2.z0, k2.z1, k2.z2, k2.z3⟩
          · have h := HB4.out.far hne c0 d0 c1 d1; exact ⟨h.c0, h.c1, h.c2, h.c3, h.z0, h.z1, h.z2, h.z3⟩
         case measure => simp [intOf]; have := HR.out; omega
   · obtain rfl : q = 0 := by omega
     have HO : Hid (FirstOut x y B4 B9 w wr) := ⟨s, A, B, C, D, HS.out.post, b9, b4, hB⟩
     rw [show ((0 : Nat) : Int) = 0 from rfl]
     clear hS hp62 hq0 b9 b4 hB
     go_wp2_with fail
     go_meet
     exact HO.out
 case rest =>
  obtain ⟨s, A, B, C, D, hpost, b9, b4, hB⟩ := hcut
  have hdec : (sgn (!s) B != 0) = decide (B ≠ 0) := by
   have h1 := sgn_abs (!s) B
   by_cases h0 : B = 0
   · rw [h0, sgn_zero]; rfl
   · have h2 : sgn (!s) B ≠ 0 := fun e => by rw [e] at h1; exact h0 h1.symm
     rw [decide_eq_true (show B ≠ 0 from h0)]; exact bne_iff_ne.2 h2
  obtain ⟨a0, ha0⟩ : ∃ a0, sgn s A = a0 := ⟨_, rfl⟩
  obtain ⟨b0, hb0⟩ : ∃ b0, sgn (!s) B = b0 := ⟨_, rfl⟩
  obtain ⟨c0, hc0⟩ : ∃ c0, sgn (!s) C = c0 := ⟨_, rfl⟩
  obtain ⟨d0, hd0⟩ : ∃ d0, sgn s D = d0 := ⟨_, rfl⟩
  rw [ha0, hb0, hc0, hd0] at b9
  rw [hb0] at hdec
  have hne : B9 ≠ B4 := by omega
  have K1 := set4_other b9 hne a0 b0 c0 d0
  have K2 := set4_same b4 a0 b0 c0 d0
  have KB := set4_below hB hw4 a0 b0 c0 d0
  have HK2 := hide (And.intro K2 KB)
  have HE := hide (And.intro ha0 (And.intro hb0 (And.intro hc0 (And.intro hd0 (And.intro hdec hpost)))))
  obtain ⟨q0, q1, q2, q3, -, -, -, -⟩ := b9
  obtain ⟨r0, r1, r2, r3, z0, z1, z2, z3⟩ := b4
  clear K2 KB hne ha0 hb0 hc0 hd0 hdec hpost hB
  go_wp2_with fail
  go_region_held (fun w' => w'.cell? ⟨B9, 0, none⟩ = some (.int .i64 a0) ∧ w'.cell? ⟨B9, 1, none⟩ = some (.int .i64 b0) ∧ w'.cell? ⟨B9, 2, none⟩ = some (.int .i64 c0) ∧ w'.cell? ⟨B9, 3, none⟩ = some (.int .i64 d0))
   (first | exact ⟨q0, q1, q2, q3⟩ | exact K1 | go_keep) (fail)
  all_goals
   obtain ⟨k2, kb⟩ := HK2.out
   obtain ⟨ha, hb, hc, hd, hdec, hpost⟩ := HE.out
   have k0 := k2.c0
   have k1 := k2.c1
   have k3 := k2.c2
   have k4 := k2.c3
   clear K1
   go_wp2
   exact bodyPost_ret (v := .tuple #[.agg #[.int .i64 a0, .int .i64 b0, .int .i64 c0, .int .i64 d0], .bool (b0 != 0)]) (by simp [results, Tryz.results133, go_sem, k0, k1, k3, k4]) rfl ⟨s, A, B, C, D, by rw [ha, hb, hc, hd, hdec], kb.drew, hpost⟩
end Go.Proofs.YtgenaicmjddjcaaGreatDoor
