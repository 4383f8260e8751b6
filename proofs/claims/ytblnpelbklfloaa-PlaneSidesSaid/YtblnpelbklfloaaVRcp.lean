/- What the law PlaneReaches wants: facts by a predicate, contracts at the letters that it uses. -/
import Derived.Test.YtblnpelbklfloaaVSan
import Derived.Test.YtblnpelbklfloaaVRch
import Derived.Test.YtblnpelbklfloaaVSp
namespace Go.Proofs.Ytblnpelbklfloaa
open Go.RowKit

/-- what a predicate of values says -/
def Fact.is (p : Value → Prop) : Fact := ⟨fun v _ => p v, fun _ _ _ h _ => h, true, fun _ _ _ _ _ h => h⟩
def MadeV (v : Value) : Prop := ∃ x y z b : Int, v = .agg #[.int .i64 x, .int .i64 y, .int .i64 z, .int .i64 b] ∧ Hid (MadeP x y z b)
/-- the first elements of a list that came in -/
def Head (a : Option Addr) (len m cap : Nat) : Prop := (∃ ad, a = some ad ∧ (m : Int) ≤ (cap : Int)) ∨ (a = none ∧ len = 0 ∧ m = 0 ∧ cap = 0)
theorem list12 {xs : List Int} (h : xs.length = 4 * 3) : ∃ a b c d e f g i j k l m, xs = [a, b, c, d, e, f, g, i, j, k, l, m] := by
  match xs, h with
  | [a, b, c, d, e, f, g, i, j, k, l, m], _ => exact ⟨a, b, c, d, e, f, g, i, j, k, l, m, rfl⟩
theorem push_ok {x y z b n c : Int} (h1 : valid x y z b = true) (h2 : valid x y z c = true) (h3 : wrap64 (b + n) = c) :
    (.tuple #[Pl (puX x y z b n) (puY x y z b n) (puZ x y z b n) (puB x y z b n), .bool (puO x y z b n)] : Value) = .tuple #[Pl x y z c, .bool true] := by
  have h : puO x y z b n = true := by simp [puO, h1, h2, h3]
  simp [puX, puY, puZ, puB, h, h3]
theorem sgn_l (n : Int) (w : World) : Calls Try.prog 42 #[.int .i64 n] w (Gives w (.int .i64 (sdI n))) := by
  unfold sdI
  by_cases h : n < 0
  · rw [if_pos h]
    go_enter Try.func42, Try.ntmps42
    go_wp2_with fail
    go_ret
    exact ⟨rfl, Below.refl _ _⟩
  · rw [if_neg h]
    go_enter Try.func42, Try.ntmps42
    go_wp2_with fail
    go_ret
    exact ⟨rfl, Below.refl _ _⟩
theorem eqv4 {α : Type} {a b c d : Prop} [Decidable a] [Decidable b] [Decidable c] [Decidable d] (F : Bool → α) {bb : Bool} (h : decide (a ∧ b ∧ c ∧ d) = bb) :
    (if a then if b then if c then if d then F true else F false else F false else F false else F false) = F bb := by
  subst h
  by_cases ha : a <;> by_cases hb : b <;> by_cases hc : c <;> by_cases hd : d <;> simp [ha, hb, hc, hd]
section
variable {p1 p2 p3 p4 q1 q2 q3 q4 : Int}
theorem point_facts {h1 h2 h3 : Nat} {r pb s1 s2 s3 k1 k2 k3 d1 d2 d3 y1 y2 y3 : Int} (jp : Hid (MadeP p1 p2 p3 p4)) (hb1 : h1 ≤ 12) (hb2 : h2 ≤ 12) (hb3 : h3 ≤ 12) (hr : Hid (rchI p1 p2 p3 h1 h2 h3 = r)) (hpb : Hid (p4 + r = pb))
    (hs1 : Hid (sdI p1 = s1)) (hs2 : Hid (sdI p2 = s2)) (hs3 : Hid (sdI p3 = s3)) (hk1 : Hid (s1 * (h1 : Int) = k1)) (hk2 : Hid (s2 * (h2 : Int) = k2)) (hk3 : Hid (s3 * (h3 : Int) = k3))
    (fn1 : Hid (d1.natAbs ≤ h1)) (fn2 : Hid (d2.natAbs ≤ h2)) (fn3 : Hid (d3.natAbs ≤ h3)) (hy : Hid (P24 y1 y2 y3)) :
    ∃ (n1 n2 n3 m1 m2 m3 sv sn : Int) (bn bm : Bool), Hid (∀ w, Calls Try.prog 15 #[V y1 y2 y3, V d1 d2 d3] w (Gives w (V n1 n2 n3))) ∧
      Hid (∀ w, Calls Try.prog 15 #[V y1 y2 y3, V k1 k2 k3] w (Gives w (V m1 m2 m3))) ∧
      Hid (∀ w, Calls Try.prog 33 #[Pl p1 p2 p3 p4, V y1 y2 y3] w (Gives w (.int .i64 sv))) ∧
      Hid (∀ w, Calls Try.prog 33 #[Pl p1 p2 p3 pb, V n1 n2 n3] w (Gives w (.int .i64 sn))) ∧
      Hid (bm = true → ∀ w, Calls Try.prog 33 #[Pl p1 p2 p3 pb, V m1 m2 m3] w (Gives w (.int .i64 sv))) ∧
      Hid (∀ w, Calls Try.prog 13 #[V n1 n2 n3] w (Gives w (.bool bn))) ∧
      Hid (∀ w, Calls Try.prog 13 #[V m1 m2 m3] w (Gives w (.bool bm))) ∧
      Hid (decide (sv ≤ 0) = true → bn = true → sn ≤ 0) := by
  obtain ⟨i1, i2, i3, -⟩ := jp.out.i64
  have e1 := hs1.out
  have e2 := hs2.out
  have e3 := hs3.out
  have f1 := hk1.out
  have f2 := hk2.out
  have f3 := hk3.out
  have g1 := hr.out
  have g2 := hpb.out
  subst e1 e2 e3 f1 f2 f3 g1 g2
  refine ⟨_, _, _, _, _, _, _, _, _, _, hideV fun w => add_p y1 y2 y3 d1 d2 d3 w, hideV fun w => add_p y1 y2 y3 _ _ _ w, hideV fun w => side_p p1 p2 p3 p4 y1 y2 y3 i1 i2 i3 w, hideV fun w => side_p p1 p2 p3 _ _ _ _ i1 i2 i3 w, ?_, hideV fun w => in_p _ _ _ w, hideV fun w => in_p _ _ _ w, ?_⟩
  · exact hideV fun h w => Gives.to (by rw [jp.out.edge hb1 hb2 hb3 hy.out h]) (side_p p1 p2 p3 _ _ _ _ i1 i2 i3 w)
  · exact hideV fun h h' => jp.out.near hb1 hb2 hb3 hy.out fn1.out fn2.out fn3.out h' (of_decide_eq_true h)
theorem order_facts {r pb : Int} (_jp : Hid (MadeP p1 p2 p3 p4)) (_jq : Hid (MadeP q1 q2 q3 q4)) (hr : 0 ≤ r) (hpb : Hid (p4 + r = pb)) :
    ∃ (c0 c1 : Int) (bb : Bool), Hid (∀ w, Calls Try.prog 37 #[Pl p1 p2 p3 p4, Pl q1 q2 q3 q4] w (Gives w (.int .i64 (wrap64 (-c0))))) ∧
      Hid (∀ w, Calls Try.prog 37 #[Pl q1 q2 q3 q4, Pl p1 p2 p3 p4] w (Gives w (.int .i64 c0))) ∧
      Hid (∀ w, Calls Try.prog 37 #[Pl q1 q2 q3 q4, Pl p1 p2 p3 pb] w (Gives w (.int .i64 c1))) ∧
      Hid ((wrap64 (-c0) == 0) = bb) ∧ Hid (decide (p1 = q1 ∧ p2 = q2 ∧ p3 = q3 ∧ p4 = q4) = bb) ∧ Hid (¬ 0 < c0 → c1 ≤ 0) := by
  have g2 := hpb.out
  subst g2
  refine ⟨cmpI q1 q2 q3 q4 p1 p2 p3 p4, cmpI q1 q2 q3 q4 p1 p2 p3 (p4 + r), _, hideV fun w => Gives.to (congrArg (Value.int .i64) (cmp_back (x := p1) (y := p2) (z := p3) (b := p4))) (compare_p p1 p2 p3 p4 q1 q2 q3 q4 w), hideV fun w => compare_p q1 q2 q3 q4 p1 p2 p3 p4 w, hideV fun w => compare_p q1 q2 q3 q4 p1 p2 p3 _ w, hideV rfl, ?_, ?_⟩
  · refine hideV ?_
    rw [← cmp_back, Bool.eq_iff_iff, decide_eq_true_eq, beq_iff_eq]
    exact cmp_zero.symm
  · exact hideV fun h => cmp_later hr (by omega)
end
end Go.Proofs.Ytblnpelbklfloaa
