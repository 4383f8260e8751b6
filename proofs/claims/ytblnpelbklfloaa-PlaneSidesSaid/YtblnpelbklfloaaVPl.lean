/- plane's functions without a drawn region that calls. -/
import Derived.Test.YtblnpelbklfloaaVDag
namespace Go.Proofs.Ytblnpelbklfloaa
open Go.RowKit

/-- an int's bounds -/
def I64 (x : Int) : Prop := -9223372036854775808 ≤ x ∧ x ≤ 9223372036854775807
theorem li3 (w : World) (x y z : Int) (t : TypeId) (b : Nat) (hb : w.heap.size = b) : Li (w.alloc (.cells #[.int .i64 x, .int .i64 y, .int .i64 z] t)) b [x, y, z] := by
  subst hb
  intro j hj
  match j, hj with
  | 0, _ | 1, _ | 2, _ => simp [go_sem]
theorem li1 (w : World) (x : Int) (t : TypeId) (b : Nat) (hb : w.heap.size = b) : Li (w.alloc (.cells #[.int .i64 x] t)) b [x] := by
  subst hb
  intro j hj
  match j, hj with
  | 0, _ => simp [go_sem]
def in3 (m x y z : Int) : Bool := [x, y, z].all (inL m)
theorem within3 (m x y z : Int) (h0 : 0 ≤ m) (h1 : m ≤ 1099511627776) (w : World) (b : Nat) (hb : w.heap.size = b) (t : TypeId) :
    Calls Try.prog 45 #[.int .i64 m, .slice (some ⟨b, 0, none⟩) 3 3] (w.alloc (.cells #[.int .i64 x, .int .i64 y, .int .i64 z] t)) fun e w' => e = .returned (.bool (in3 m x y z)) ∧ w' = w.alloc (.cells #[.int .i64 x, .int .i64 y, .int .i64 z] t) :=
  within_p m h0 h1 [x, y, z] 3 b rfl (by decide) _ (li3 w x y z t b hb)
theorem within1 (m x : Int) (h0 : 0 ≤ m) (h1 : m ≤ 1099511627776) (w : World) (b : Nat) (hb : w.heap.size = b) (t : TypeId) :
    Calls Try.prog 45 #[.int .i64 m, .slice (some ⟨b, 0, none⟩) 1 1] (w.alloc (.cells #[.int .i64 x] t)) fun e w' => e = .returned (.bool (inL m x)) ∧ w' = w.alloc (.cells #[.int .i64 x] t) :=
  (within_p m h0 h1 [x] 1 b rfl (by decide) _ (li1 w x t b hb)).mono fun e w' h => ⟨by rw [h.1]; simp, h.2⟩
/-- the greatest integer that divides all three; 0 where the least int is among them -/
def dv3 (x y z : Int) : Nat := dvs [x, y, z]
theorem divisor3 (x y z : Int) (hx : I64 x) (hy : I64 y) (hz : I64 z) (w : World) (b : Nat) (hb : w.heap.size = b) (t : TypeId) :
    Calls Try.prog 50 #[.slice (some ⟨b, 0, none⟩) 3 3] (w.alloc (.cells #[.int .i64 x, .int .i64 y, .int .i64 z] t)) (Gives (w.alloc (.cells #[.int .i64 x, .int .i64 y, .int .i64 z] t)) (.int .i64 (dv3 x y z : Int))) :=
  divisor_p [x, y, z] 3 b rfl (by decide) (fun c hc => by simp at hc; rcases hc with rfl | rfl | rfl; exact hx; exact hy; exact hz) _ (li3 w x y z t b hb)
theorem dv3_le {x y z : Int} (hx : I64 x) (hy : I64 y) (hz : I64 z) : dv3 x y z ≤ 9223372036854775807 := by
  unfold dv3 dvs
  split
  · omega
  · rename_i h
    simp at h
    simp only [List.foldl, Nat.gcd_zero_left]
    exact g3_le (x := x) (y := y) (z := z) (by unfold I64 at hx; omega) (by unfold I64 at hy; omega) (by unfold I64 at hz; omega)

theorem pi4 (w : World) (x y z b a c d e : Int) (t : TypeId) (k : Nat) (hb : w.heap.size = k) : Pi2 (w.alloc (.cells #[.int .i64 x, .int .i64 a, .int .i64 y, .int .i64 c, .int .i64 z, .int .i64 d, .int .i64 b, .int .i64 e] t)) k [(x, a), (y, c), (z, d), (b, e)] := by
  subst hb
  intro j hj
  match j, hj with
  | 0, _ | 1, _ | 2, _ | 3, _ => simp [go_sem]
theorem order4 (x y z b a c d e : Int) (w : World) (k : Nat) (hb : w.heap.size = k) (t : TypeId) :
    Calls Try.prog 51 #[.slice (some ⟨k, 0, none⟩) 4 4] (w.alloc (.cells #[.int .i64 x, .int .i64 a, .int .i64 y, .int .i64 c, .int .i64 z, .int .i64 d, .int .i64 b, .int .i64 e] t)) (Gives (w.alloc (.cells #[.int .i64 x, .int .i64 a, .int .i64 y, .int .i64 c, .int .i64 z, .int .i64 d, .int .i64 b, .int .i64 e] t)) (.int .i64 (ordL [(x, a), (y, c), (z, d), (b, e)]))) :=
  order_p [(x, a), (y, c), (z, d), (b, e)] 4 k rfl (by decide) _ (pi4 w x y z b a c d e t k hb)
theorem pi1 (w : World) (x a : Int) (t : TypeId) (k : Nat) (hb : w.heap.size = k) : Pi2 (w.alloc (.cells #[.int .i64 x, .int .i64 a] t)) k [(x, a)] := by
  subst hb
  intro j hj
  match j, hj with
  | 0, _ => simp [go_sem]
theorem order1 (x a : Int) (w : World) (k : Nat) (hb : w.heap.size = k) (t : TypeId) :
    Calls Try.prog 51 #[.slice (some ⟨k, 0, none⟩) 1 1] (w.alloc (.cells #[.int .i64 x, .int .i64 a] t)) (Gives (w.alloc (.cells #[.int .i64 x, .int .i64 a] t)) (.int .i64 (ordL [(x, a)]))) :=
  order_p [(x, a)] 1 k rfl (by decide) _ (pi1 w x a t k hb)

set_option maxRecDepth 100000 in
set_option maxHeartbeats 1000000 in
theorem in_p (x y z : Int) (w : World) : Calls Try.prog 13 #[V x y z] w (Gives w (.bool (in3 24 x y z))) := by
  unfold V
  go_enter Try.func13, Try.ntmps13
  go_wp2_with fail
  refine (within3 24 x y z (by decide) (by decide) _ _ (by simp) _).mono ?_
  rintro e w1 ⟨rfl, rfl⟩
  go_wp2_with fail
  go_ret
  exact ⟨rfl, by repeat (first | exact Below.refl _ _ | refine Below.alloc ?_ (by simp; try omega) _ | refine Below.setCell ?_ (by simp; try omega) _)⟩

/-- is a plane valid -/
def valid (x y z b : Int) : Bool := in3 4608 x y z && inL 2097152 b && decide (dv3 x y z = 1)
set_option maxRecDepth 100000 in
set_option maxHeartbeats 1000000 in
theorem valid_p (x y z b : Int) (hx : I64 x) (hy : I64 y) (hz : I64 z) (w : World) : Calls Try.prog 29 #[Pl x y z b] w (Gives w (.bool (valid x y z b))) := by
  unfold Pl
  go_enter Try.func29, Try.ntmps29
  go_wp2_with fail
  refine (within3 4608 x y z (by decide) (by decide) _ _ (by simp) _).mono ?_
  rintro e w1 ⟨rfl, rfl⟩
  cases h1 : in3 4608 x y z
  · have hr : valid x y z b = false := by simp [valid, h1]
    go_wp2_with fail
    go_ret
    exact ⟨by rw [hr]; rfl, by repeat (first | exact Below.refl _ _ | refine Below.alloc ?_ (by simp; try omega) _ | refine Below.setCell ?_ (by simp; try omega) _)⟩
  · go_wp2_with fail
    refine (within1 2097152 b (by decide) (by decide) _ _ (by simp) _).mono ?_
    rintro e w1 ⟨rfl, rfl⟩
    cases h2 : inL 2097152 b
    · have hr : valid x y z b = false := by simp [valid, h1, h2]
      go_wp2_with fail
      go_ret
      exact ⟨by rw [hr]; rfl, by repeat (first | exact Below.refl _ _ | refine Below.alloc ?_ (by simp; try omega) _ | refine Below.setCell ?_ (by simp; try omega) _)⟩
    · go_wp2_with fail
      refine (divisor3 x y z hx hy hz _ _ (by simp) _).mono ?_
      rintro e w2 ⟨rfl, hk⟩
      have hB : Below w.heap.size w w2 := Below.trans (by repeat (first | exact Below.refl _ _ | refine Below.alloc ?_ (by simp; try omega) _ | refine Below.setCell ?_ (by simp; try omega) _)) (hk.mono (by simp; try omega))
      clear hk
      have hr : valid x y z b = decide (dv3 x y z = 1) := by simp [valid, h1, h2]
      have hd := dv3_le hx hy hz
      obtain ⟨d, hd1⟩ : ∃ d, dv3 x y z = d := ⟨_, rfl⟩
      rw [hd1] at hr hd
      rw [hd1]
      by_cases h3 : d = 1
      · subst h3
        have HR := hideV hr
        clear hr hd1
        go_wp2_with fail
        go_ret
        exact ⟨by rw [HR.out]; rfl, hB⟩
      · have HR : Hid (valid x y z b = false) := hr.trans (decide_eq_false h3)
        have h4 : ((d : Int) == 1) = false := by rw [beq_eq_false_iff_ne]; omega
        clear hr hd1 h3
        go_wp2_with fail
        go_ret
        exact ⟨by rw [HR.out]; rfl, hB⟩

set_option maxRecDepth 100000 in
set_option maxHeartbeats 1000000 in
theorem compare_p (x y z b a c d e : Int) (w : World) : Calls Try.prog 37 #[Pl x y z b, Pl a c d e] w (Gives w (.int .i64 (ordL [(x, a), (y, c), (z, d), (b, e)]))) := by
  unfold Pl
  go_enter Try.func37, Try.ntmps37
  go_wp2_with fail
  refine (order4 x y z b a c d e _ _ (by simp) _).mono ?_
  rintro e w2 ⟨rfl, hk⟩
  have hB : Below w.heap.size w w2 := Below.trans (by repeat (first | exact Below.refl _ _ | refine Below.alloc ?_ (by simp; try omega) _ | refine Below.setCell ?_ (by simp; try omega) _)) (hk.mono (by simp; try omega))
  clear hk
  go_wp2_with fail
  go_ret
  exact ⟨rfl, hB⟩
end Go.Proofs.Ytblnpelbklfloaa
