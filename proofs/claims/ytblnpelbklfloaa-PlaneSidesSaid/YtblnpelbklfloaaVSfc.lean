/- What the law PlaneSides wants: contracts at the letters that it uses. -/
import Derived.Test.YtblnpelbklfloaaVRcp
import Derived.Test.YtblnpelbklfloaaVPtc
import Derived.Test.YtblnpelbklfloaaVDao
namespace Go.Proofs.Ytblnpelbklfloaa
open Go.RowKit

theorem eqv3 {α : Type} {a b c : Prop} [Decidable a] [Decidable b] [Decidable c] (F : Bool → α) {bb : Bool} (h : decide (a ∧ b ∧ c) = bb) :
    (if a then if b then if c then F true else F false else F false else F false) = F bb := by
  subst h
  by_cases ha : a <;> by_cases hb : b <;> by_cases hc : c <;> simp [ha, hb, hc]
section
variable {x0 x1 x2 x3 x4 x5 x6 x7 x8 x9 x10 x11 : Int}
/-- three points on a line -/
theorem flat_facts (h0 : Hid (P24 x0 x1 x2)) (h1 : Hid (P24 x3 x4 x5)) (h2 : Hid (P24 x6 x7 x8)) (hf : cgI x0 x1 x2 x3 x4 x5 x6 x7 x8 = 0) :
    Hid (∀ w, Calls Try.prog 39 #[V x0 x1 x2, V x3 x4 x5, V x6 x7 x8] w (Gives w (.tuple #[Pl 0 0 0 0, .bool false]))) ∧
    Hid (∀ w, Calls Try.prog 39 #[V x3 x4 x5, V x6 x7 x8, V x0 x1 x2] w (Gives w (.tuple #[Pl 0 0 0 0, .bool false]))) ∧
    Hid (∀ w, Calls Try.prog 39 #[V x0 x1 x2, V x6 x7 x8, V x3 x4 x5] w (Gives w (.tuple #[Pl 0 0 0 0, .bool false]))) ∧
    Hid (∀ w, Calls Try.prog 21 #[V (wrap64 (x3 - x0)) (wrap64 (x4 - x1)) (wrap64 (x5 - x2)), V (wrap64 (x6 - x0)) (wrap64 (x7 - x1)) (wrap64 (x8 - x2))] w (Gives w (V 0 0 0))) := by
  have H0 := h0.out
  have H1 := h1.out
  have H2 := h2.out
  have e1 : cgI x3 x4 x5 x6 x7 x8 x0 x1 x2 = 0 := by
    obtain ⟨e1, e2, e3⟩ := n_turn (a1 := x0) (a2 := x1) (a3 := x2) (b1 := x3) (b2 := x4) (b3 := x5) (c1 := x6) (c2 := x7) (c3 := x8)
    unfold cgI at *; rw [e1, e2, e3]; exact hf
  have e2 : cgI x0 x1 x2 x6 x7 x8 x3 x4 x5 = 0 := by
    obtain ⟨e1, e2, e3⟩ := n_back (a1 := x0) (a2 := x1) (a3 := x2) (b1 := x3) (b2 := x4) (b3 := x5) (c1 := x6) (c2 := x7) (c3 := x8)
    unfold cgI at *; rw [e1, e2, e3, g3_neg]; exact hf
  have t1 := th_no H0 H1 H2 hf
  have t2 := th_no H1 H2 H0 e1
  have t3 := th_no H0 H2 H1 e2
  refine ⟨hideV fun w => Gives.to ?_ (through_p _ _ _ _ _ _ _ _ _ w), hideV fun w => Gives.to ?_ (through_p _ _ _ _ _ _ _ _ _ w), hideV fun w => Gives.to ?_ (through_p _ _ _ _ _ _ _ _ _ w), hideV fun w => Gives.to ?_ (cross_p _ _ _ _ _ _ w)⟩
  · rw [t1.1, t1.2.1, t1.2.2.1, t1.2.2.2.1, t1.2.2.2.2]
  · rw [t2.1, t2.2.1, t2.2.2.1, t2.2.2.2.1, t2.2.2.2.2]
  · rw [t3.1, t3.2.1, t3.2.2.1, t3.2.2.2.1, t3.2.2.2.2]
  · obtain ⟨c1, c2, c3, -⟩ := cr_exact H0 H1 H2
    obtain ⟨g1, g2, g3⟩ := g3_zero.1 hf
    rw [c1, c2, c3, g1, g2, g3]
/-- a point on the boundary -/
def OnP (i j k d y1 y2 y3 : Int) : Prop := (∀ w, Calls Try.prog 33 #[Pl i j k d, V y1 y2 y3] w (Gives w (.int .i64 0))) ∧ (∀ w, Calls Try.prog 19 #[V i j k, V y1 y2 y3] w (Gives w (.int .i64 d)))
theorem on_p {i j k d y1 y2 y3 : Int} (h : MadeP i j k d) (hy : P24 y1 y2 y3) (e : i * y1 + j * y2 + k * y3 = d) : Hid (OnP i j k d y1 y2 y3) := by
  obtain ⟨i1, i2, i3, -⟩ := h.i64
  have hd := h.2.2.2.2
  refine hideV ⟨fun w => Gives.to ?_ (side_p _ _ _ _ _ _ _ i1 i2 i3 w), fun w => Gives.to ?_ (dot_p _ _ _ _ _ _ w)⟩
  · rw [h.side (by omega) hy, e, ordL_self]
  · rw [(dt_all h.1 h.2.1 h.2.2.1 hy).1, e]
theorem sides_facts {t1 t2 t3 : Int} (h0 : Hid (P24 x0 x1 x2)) (h1 : Hid (P24 x3 x4 x5)) (h2 : Hid (P24 x6 x7 x8)) (h3 : Hid (P24 x9 x10 x11)) (ht1 : -4 ≤ t1 ∧ t1 ≤ 4) (ht2 : -4 ≤ t2 ∧ t2 ≤ 4) (ht3 : -4 ≤ t3 ∧ t3 ≤ 4) (hf : ¬ cgI x0 x1 x2 x3 x4 x5 x6 x7 x8 = 0) :
    ∃ (i j k d ni nj nk nd sv q c1 c2 c3 m0 m1 m2 m3 m4 m5 m6 m7 m8 : Int) (b0 b1 b2 : Bool),
    Hid (∀ w, Calls Try.prog 39 #[V x0 x1 x2, V x3 x4 x5, V x6 x7 x8] w (Gives w (.tuple #[Pl i j k d, .bool true]))) ∧
    Hid (∀ w, Calls Try.prog 39 #[V x3 x4 x5, V x6 x7 x8, V x0 x1 x2] w (Gives w (.tuple #[Pl i j k d, .bool true]))) ∧
    Hid (∀ w, Calls Try.prog 39 #[V x0 x1 x2, V x6 x7 x8, V x3 x4 x5] w (Gives w (.tuple #[Pl ni nj nk nd, .bool true]))) ∧
    Hid (∀ w, Calls Try.prog 21 #[V (wrap64 (x3 - x0)) (wrap64 (x4 - x1)) (wrap64 (x5 - x2)), V (wrap64 (x6 - x0)) (wrap64 (x7 - x1)) (wrap64 (x8 - x2))] w (Gives w (V c1 c2 c3))) ∧
    Hid (decide (c1 = 0 ∧ c2 = 0 ∧ c3 = 0) = false) ∧
    Hid (∀ w, Calls Try.prog 31 #[Pl i j k d] w (Gives w (Pl ni nj nk nd))) ∧ Hid (∀ w, Calls Try.prog 31 #[Pl ni nj nk nd] w (Gives w (Pl i j k d))) ∧
    Hid (∀ w, Calls Try.prog 29 #[Pl i j k d] w (Gives w (.bool true))) ∧ Hid (∀ w, Calls Try.prog 29 #[Pl ni nj nk nd] w (Gives w (.bool true))) ∧
    Hid (∀ w, Calls Try.prog 33 #[Pl i j k d, V x9 x10 x11] w (Gives w (.int .i64 (wrap64 (-sv))))) ∧ Hid (∀ w, Calls Try.prog 33 #[Pl ni nj nk nd, V x9 x10 x11] w (Gives w (.int .i64 sv))) ∧
    Hid (OnP i j k d x0 x1 x2) ∧ Hid (OnP i j k d x3 x4 x5) ∧ Hid (OnP i j k d x6 x7 x8) ∧
    Hid (∀ w, Calls Try.prog 19 #[V i j k, V t1 t2 t3] w (Gives w (.int .i64 q))) ∧
    Hid (∀ w, Calls Try.prog 15 #[V x0 x1 x2, V t1 t2 t3] w (Gives w (V m0 m1 m2))) ∧ Hid (∀ w, Calls Try.prog 15 #[V x3 x4 x5, V t1 t2 t3] w (Gives w (V m3 m4 m5))) ∧ Hid (∀ w, Calls Try.prog 15 #[V x6 x7 x8, V t1 t2 t3] w (Gives w (V m6 m7 m8))) ∧
    Hid (∀ w, Calls Try.prog 13 #[V m0 m1 m2] w (Gives w (.bool b0))) ∧ Hid (∀ w, Calls Try.prog 13 #[V m3 m4 m5] w (Gives w (.bool b1))) ∧ Hid (∀ w, Calls Try.prog 13 #[V m6 m7 m8] w (Gives w (.bool b2))) ∧
    Hid (b0 = true → b1 = true → b2 = true → ∀ w, Calls Try.prog 39 #[V m0 m1 m2, V m3 m4 m5, V m6 m7 m8] w (Gives w (.tuple #[Pl i j k (wrap64 (d + q)), .bool true]))) := by
  have H0 := h0.out
  have H1 := h1.out
  have H2 := h2.out
  have H3 := h3.out
  have g1 : cgI x3 x4 x5 x6 x7 x8 x0 x1 x2 = cgI x0 x1 x2 x3 x4 x5 x6 x7 x8 := by
    obtain ⟨e1, e2, e3⟩ := n_turn (a1 := x0) (a2 := x1) (a3 := x2) (b1 := x3) (b2 := x4) (b3 := x5) (c1 := x6) (c2 := x7) (c3 := x8)
    unfold cgI; rw [e1, e2, e3]
  have g2 : cgI x0 x1 x2 x6 x7 x8 x3 x4 x5 = cgI x0 x1 x2 x3 x4 x5 x6 x7 x8 := by
    obtain ⟨e1, e2, e3⟩ := n_back (a1 := x0) (a2 := x1) (a3 := x2) (b1 := x3) (b2 := x4) (b3 := x5) (c1 := x6) (c2 := x7) (c3 := x8)
    unfold cgI; rw [e1, e2, e3, g3_neg]
  obtain ⟨o1, i1, j1, k1, d1⟩ := th_yes H0 H1 H2 hf
  obtain ⟨o2, i2, j2, k2, d2⟩ := th_yes H1 H2 H0 (by rw [g1]; exact hf)
  obtain ⟨o3, i3, j3, k3, d3⟩ := th_yes H0 H2 H1 (by rw [g2]; exact hf)
  have hp : MadeP (thI x0 x1 x2 x3 x4 x5 x6 x7 x8) (thJ x0 x1 x2 x3 x4 x5 x6 x7 x8) (thK x0 x1 x2 x3 x4 x5 x6 x7 x8) (thD x0 x1 x2 x3 x4 x5 x6 x7 x8) := made_th H0 H1 H2 o1
  have hr : MadeP (thI x0 x1 x2 x6 x7 x8 x3 x4 x5) (thJ x0 x1 x2 x6 x7 x8 x3 x4 x5) (thK x0 x1 x2 x6 x7 x8 x3 x4 x5) (thD x0 x1 x2 x6 x7 x8 x3 x4 x5) := made_th H0 H2 H1 o3
  obtain ⟨on1, on2⟩ := n_on hf
  have turn : niI x3 x4 x5 x6 x7 x8 x0 x1 x2 = niI x0 x1 x2 x3 x4 x5 x6 x7 x8 ∧ njI x3 x4 x5 x6 x7 x8 x0 x1 x2 = njI x0 x1 x2 x3 x4 x5 x6 x7 x8 ∧ nkI x3 x4 x5 x6 x7 x8 x0 x1 x2 = nkI x0 x1 x2 x3 x4 x5 x6 x7 x8 := by
    obtain ⟨e1, e2, e3⟩ := n_turn (a1 := x0) (a2 := x1) (a3 := x2) (b1 := x3) (b2 := x4) (b3 := x5) (c1 := x6) (c2 := x7) (c3 := x8)
    unfold niI njI nkI; rw [g1, e1, e2, e3]; exact ⟨rfl, rfl, rfl⟩
  have back : niI x0 x1 x2 x6 x7 x8 x3 x4 x5 = -niI x0 x1 x2 x3 x4 x5 x6 x7 x8 ∧ njI x0 x1 x2 x6 x7 x8 x3 x4 x5 = -njI x0 x1 x2 x3 x4 x5 x6 x7 x8 ∧ nkI x0 x1 x2 x6 x7 x8 x3 x4 x5 = -nkI x0 x1 x2 x3 x4 x5 x6 x7 x8 := by
    obtain ⟨e1, e2, e3⟩ := n_back (a1 := x0) (a2 := x1) (a3 := x2) (b1 := x3) (b2 := x4) (b3 := x5) (c1 := x6) (c2 := x7) (c3 := x8)
    unfold niI njI nkI; rw [g2, e1, e2, e3]; exact ⟨Int.neg_tdiv .., Int.neg_tdiv .., Int.neg_tdiv ..⟩
  rw [turn.1, turn.2.1, turn.2.2] at d2
  rw [turn.1] at i2
  rw [turn.2.1] at j2
  rw [turn.2.2] at k2
  rw [back.1, back.2.1, back.2.2] at d3
  rw [back.1] at i3
  rw [back.2.1] at j3
  rw [back.2.2] at k3
  have cg := hf
  obtain ⟨r1, r2, r3, mb1, mb2, mb3⟩ := cr_exact H0 H1 H2
  have hne : decide (cxI x0 x1 x2 x3 x4 x5 x6 x7 x8 = 0 ∧ cyI x0 x1 x2 x3 x4 x5 x6 x7 x8 = 0 ∧ czI x0 x1 x2 x3 x4 x5 x6 x7 x8 = 0) = false := by
    rw [decide_eq_false_iff_not]
    exact fun h => cg (g3_zero.2 h)
  rw [i1, j1, k1, d1] at hp
  rw [i3, j3, k3, d3] at hr
  have mv : ∀ y1 y2 y3 : Int, P24 y1 y2 y3 → wrap64 (y1 + t1) = y1 + t1 ∧ wrap64 (y2 + t2) = y2 + t2 ∧ wrap64 (y3 + t3) = y3 + t3 := fun y1 y2 y3 hy => ⟨w24_add (h := 12) hy.1 (by omega) (by omega), w24_add (h := 12) hy.2.1 (by omega) (by omega), w24_add (h := 12) hy.2.2 (by omega) (by omega)⟩
  have em : niI (x0 + t1) (x1 + t2) (x2 + t3) (x3 + t1) (x4 + t2) (x5 + t3) (x6 + t1) (x7 + t2) (x8 + t3) = niI x0 x1 x2 x3 x4 x5 x6 x7 x8 ∧ njI (x0 + t1) (x1 + t2) (x2 + t3) (x3 + t1) (x4 + t2) (x5 + t3) (x6 + t1) (x7 + t2) (x8 + t3) = njI x0 x1 x2 x3 x4 x5 x6 x7 x8 ∧ nkI (x0 + t1) (x1 + t2) (x2 + t3) (x3 + t1) (x4 + t2) (x5 + t3) (x6 + t1) (x7 + t2) (x8 + t3) = nkI x0 x1 x2 x3 x4 x5 x6 x7 x8 ∧ cgI (x0 + t1) (x1 + t2) (x2 + t3) (x3 + t1) (x4 + t2) (x5 + t3) (x6 + t1) (x7 + t2) (x8 + t3) = cgI x0 x1 x2 x3 x4 x5 x6 x7 x8 := by
    obtain ⟨e1, e2, e3⟩ := n_move (a1 := x0) (a2 := x1) (a3 := x2) (b1 := x3) (b2 := x4) (b3 := x5) (c1 := x6) (c2 := x7) (c3 := x8) t1 t2 t3
    unfold niI njI nkI cgI; rw [e1, e2, e3]; exact ⟨rfl, rfl, rfl, rfl⟩
  generalize niI x0 x1 x2 x3 x4 x5 x6 x7 x8 = i at *
  generalize njI x0 x1 x2 x3 x4 x5 x6 x7 x8 = j at *
  generalize nkI x0 x1 x2 x3 x4 x5 x6 x7 x8 = k at *
  obtain ⟨d, hd⟩ : ∃ d, i * x0 + j * x1 + k * x2 = d := ⟨_, rfl⟩
  have hd3 : -i * x0 + -j * x1 + -k * x2 = -d := by rw [← hd]; grind
  rw [hd] at d1 on1 on2 hp
  rw [on1] at d2
  rw [hd3] at d3 hr
  obtain ⟨pi1, pi2, pi3, pb1⟩ := hp.i64
  obtain ⟨ri1, ri2, ri3, rb1⟩ := hr.i64
  have hpb := hp.2.2.2.2
  have hrb := hr.2.2.2.2
  have hb1 := hp.1
  have hb2 := hp.2.1
  have hb3 := hp.2.2.1
  have hT : P24 t1 t2 t3 := ⟨⟨by omega, by omega⟩, ⟨by omega, by omega⟩, by omega, by omega⟩
  have hq := dt_all hb1 hb2 hb3 hT
  refine ⟨i, j, k, d, -i, -j, -k, -d, sideI (-i) (-j) (-k) (-d) x9 x10 x11, i * t1 + j * t2 + k * t3, _, _, _, x0 + t1, x1 + t2, x2 + t3, x3 + t1, x4 + t2, x5 + t3, x6 + t1, x7 + t2, x8 + t3, _, _, _,
    hideV fun w => Gives.to (by rw [o1, i1, j1, k1, d1]) (through_p _ _ _ _ _ _ _ _ _ w), hideV fun w => Gives.to (by rw [o2, i2, j2, k2, d2]) (through_p _ _ _ _ _ _ _ _ _ w), hideV fun w => Gives.to (by rw [o3, i3, j3, k3, d3]) (through_p _ _ _ _ _ _ _ _ _ w),
    hideV fun w => Gives.to (by rw [r1, r2, r3]) (cross_p _ _ _ _ _ _ w), hideV hne,
    hideV fun w => Gives.to ?_ (flip_p _ _ _ _ w), hideV fun w => Gives.to ?_ (flip_p _ _ _ _ w), hideV fun w => Gives.to (by rw [hp.valid (by omega)]) (valid_p _ _ _ _ pi1 pi2 pi3 w), hideV fun w => Gives.to (by rw [hr.valid (by omega)]) (valid_p _ _ _ _ ri1 ri2 ri3 w),
    hideV fun w => Gives.to ?_ (side_p _ _ _ _ _ _ _ pi1 pi2 pi3 w), hideV fun w => side_p _ _ _ _ _ _ _ ri1 ri2 ri3 w, on_p hp H0 hd, on_p hp H1 on1, on_p hp H2 on2, hideV fun w => Gives.to (by rw [hq.1]) (dot_p _ _ _ _ _ _ w),
    hideV fun w => Gives.to (by rw [(mv _ _ _ H0).1, (mv _ _ _ H0).2.1, (mv _ _ _ H0).2.2]) (add_p _ _ _ _ _ _ w), hideV fun w => Gives.to (by rw [(mv _ _ _ H1).1, (mv _ _ _ H1).2.1, (mv _ _ _ H1).2.2]) (add_p _ _ _ _ _ _ w), hideV fun w => Gives.to (by rw [(mv _ _ _ H2).1, (mv _ _ _ H2).2.1, (mv _ _ _ H2).2.2]) (add_p _ _ _ _ _ _ w),
    hideV fun w => in_p _ _ _ w, hideV fun w => in_p _ _ _ w, hideV fun w => in_p _ _ _ w, hideV fun q0 q1 q2 w => Gives.to ?_ (through_p _ _ _ _ _ _ _ _ _ w)⟩
  · rw [IntWalk.wrap64_in (0 - i) (by omega), IntWalk.wrap64_in (0 - j) (by omega), IntWalk.wrap64_in (0 - k) (by omega), IntWalk.wrap64_in (-d) (by omega), Int.zero_sub, Int.zero_sub, Int.zero_sub]
  · rw [IntWalk.wrap64_in (0 - -i) (by omega), IntWalk.wrap64_in (0 - -j) (by omega), IntWalk.wrap64_in (0 - -k) (by omega), IntWalk.wrap64_in (- -d) (by omega), Int.zero_sub, Int.zero_sub, Int.zero_sub, Int.neg_neg, Int.neg_neg, Int.neg_neg, Int.neg_neg]
  · rw [hp.side (by omega) H3, hr.side (by omega) H3, show -i * x9 + -j * x10 + -k * x11 = -(i * x9 + j * x10 + k * x11) by grind, ordL_neg]
    rcases ordL_vals (i * x9 + j * x10 + k * x11) d with e | e | e <;> (rw [e]; exact congrArg (Value.int .i64) (IntWalk.wrap64_in _ (by omega)).symm)
  · obtain ⟨e1, e2, e3, e4⟩ := em
    obtain ⟨o4, i4, j4, k4, d4⟩ := th_yes (p24_of q0) (p24_of q1) (p24_of q2) (by rw [e4]; exact cg)
    rw [e1, e2, e3] at d4
    rw [o4, i4, j4, k4, d4, e1, e2, e3, show i * (x0 + t1) + j * (x1 + t2) + k * (x2 + t3) = (i * x0 + j * x1 + k * x2) + (i * t1 + j * t2 + k * t3) by grind, hd, IntWalk.wrap64_in (d + (i * t1 + j * t2 + k * t3)) (by omega)]
end
end Go.Proofs.Ytblnpelbklfloaa
