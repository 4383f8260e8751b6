/- Several texts in one. -/
import Derived.Test.YtgenaicmjddjcaaGreatDoorPText
import Derived.Test.YtgenaicmjddjcaaGreatDoorPRef
namespace Go.Proofs.YtgenaicmjddjcaaGreatDoor
open Go.RowKit Go.Shelf
theorem NumPost.lit {w : World} {z : Int} {e : Ending} {w' : World} (h : NumPost w z e w') (s : Bool) (n : Nat) (hs : decide (z < 0) = s) (hn : dlen z.natAbs = n) :
 ∃ (a : Option Addr) (c : Nat), e = .returned (.tuple #[.agg #[.bool s, .slice a n c], .bool true]) ∧ IsN w' s a n z ∧ Below w.heap.size w w' := by
 obtain ⟨s', a, n', c, rfl, hN, -, hb⟩ := h
 obtain rfl : s' = s := hN.sign.trans hs
 obtain rfl : n' = n := hN.dig.len.trans hn
 exact ⟨a, c, rfl, hN, hb⟩
structure Held (w : World) (B : Nat) (s : Bool) (a : Option Addr) (n c : Nat) (z : Int) : Prop where
 box : Box2 w B (.bool s) (.slice a n c)
 num : IsN w s a n z
theorem Held.below {w w' : World} {B : Nat} {s : Bool} {a : Option Addr} {n c : Nat} {z : Int} (h : Held w B s a n c z) (t : Below w.heap.size w w') : Held w' B s a n c z := ⟨h.box.below t h.box.lt, h.num.below t⟩
theorem Held.new {w : World} {s : Bool} {a : Option Addr} {n : Nat} {z : Int} (c : Nat) (h : IsN w s a n z) (t : TypeId) : Held (w.alloc (Obj.cells #[.bool s, .slice a n c] t)) w.heap.size s a n c z :=
 ⟨Box2.new _ _ _ _, h.below ((Below.refl _ w).alloc (Nat.le_refl _) _)⟩
theorem below_alloc (w : World) (o : Obj) : Below w.heap.size w (w.alloc o) := (Below.refl _ w).alloc (Nat.le_refl _) _

end Go.Proofs.YtgenaicmjddjcaaGreatDoor

namespace Go.Proofs.YtgenaicmjddjcaaGreatDoor
open Go.RowKit Go.Shelf

theorem Fan.holds {K : Nat} {w0 w : World} {U V : Nat → Value} {B : Nat → Nat} {s : Nat → Bool} {a : Nat → Option Addr} {n c : Nat → Nat} {z : Nat → Int} (h : Fan K w0 (fun _ => true) (fun _ => true) (fun _ => true) U V B s a n c z w) {k : Nat} (hk : k < K) :
 ∃ (b : Nat) (s' : Bool) (a' : Option Addr) (n' c' : Nat) (z' : Int), U k = .pointer (some ⟨b, 0, none⟩) ∧ Held w b s' a' n' c' z' ∧ n' ≤ 6 ∧ w0.heap.size ≤ b :=
 ⟨B k, s k, a k, n k, c k, z k, (h.var k hk rfl).1, ⟨h.box1 k hk rfl rfl, (h.num k hk rfl).2.1⟩, (h.num k hk rfl).2.2.1, (h.var k hk rfl).2⟩

theorem two_nums {w Z W' : World} {s1 s2 : Bool} {a1 a2 : Option Addr} {n1 c1 n2 c2 : Nat} {z1 z2 : Int} {t : TypeId}
 (hZ : (w.alloc (Obj.cells #[.bool false, .slice none 0 0] t)).alloc (Obj.cells #[.bool false, .slice none 0 0] t) = Z)
 (hW : (((Z.setCell ⟨w.heap.size, 0, none⟩ (.bool s1)).setCell ⟨w.heap.size, 1, none⟩ (.slice a1 n1 c1)).setCell ⟨w.heap.size + 1, 0, none⟩ (.bool s2)).setCell ⟨w.heap.size + 1, 1, none⟩ (.slice a2 n2 c2) = W')
 (N1 : IsN w s1 a1 n1 z1) (N2 : IsN w s2 a2 n2 z2) :
 Held W' w.heap.size s1 a1 n1 c1 z1 ∧ Held W' (w.heap.size + 1) s2 a2 n2 c2 z2 ∧ Below w.heap.size w W' ∧ Box2 Z w.heap.size (.bool false) (.slice none 0 0) ∧ Box2 Z (w.heap.size + 1) (.bool false) (.slice none 0 0) ∧ W'.heap.size = w.heap.size + 1 + 1 := by
 have b1 : Box2 Z w.heap.size (.bool false) (.slice none 0 0) := by rw [← hZ]; exact (Box2.new w _ _ t).alloc _
 have b2 : Box2 Z (w.heap.size + 1) (.bool false) (.slice none 0 0) := by
  have := Box2.new (w.alloc (Obj.cells #[.bool false, .slice none 0 0] t)) (.bool false) (.slice none 0 0) t
  rw [World.size_alloc, hZ] at this; exact this
 have kZ : Below w.heap.size w Z := by rw [← hZ]; exact (below_alloc w _).trans ((below_alloc _ _).mono (by simp))
 have k : Below w.heap.size w W' := by
  rw [← hW]; exact below_set2 (below_set2 kZ (Nat.le_refl _) _ _) (Nat.le_succ _) _ _
 have e1 := (b1.set (.bool s1) (.slice a1 n1 c1)).other (.bool s2) (.slice a2 n2 c2) (B := w.heap.size + 1) (by omega)
 have e2 := (b2.other (.bool s1) (.slice a1 n1 c1) (B := w.heap.size) (by omega)).set (.bool s2) (.slice a2 n2 c2)
 rw [hW] at e1 e2
 exact ⟨⟨e1, N1.below k⟩, ⟨e2, N2.below k⟩, k, b1, b2, by rw [← hW, ← hZ]; simp⟩

structure Four (w : World) (b : Nat) (v0 v1 v2 v3 : Value) : Prop where
 c0 : w.cell? ⟨b, 0, none⟩ = some v0
 c1 : w.cell? ⟨b, 1, none⟩ = some v1
 c2 : w.cell? ⟨b, 2, none⟩ = some v2
 c3 : w.cell? ⟨b, 3, none⟩ = some v3
theorem Four.below {w w' : World} {b : Nat} {v0 v1 v2 v3 : Value} (h : Four w b v0 v1 v2 v3) (t : Below w.heap.size w w') : Four w' b v0 v1 v2 v3 :=
 ⟨(t.cell (p := ⟨b, 0, none⟩) (lt_of_cell h.c0)).trans h.c0, (t.cell (p := ⟨b, 1, none⟩) (lt_of_cell h.c1)).trans h.c1, (t.cell (p := ⟨b, 2, none⟩) (lt_of_cell h.c2)).trans h.c2, (t.cell (p := ⟨b, 3, none⟩) (lt_of_cell h.c3)).trans h.c3⟩
theorem Four.new (w : World) (v0 v1 v2 v3 : Value) (t : TypeId) : Four (w.alloc (Obj.cells #[v0, v1, v2, v3] t)) w.heap.size v0 v1 v2 v3 := ⟨by simp [go_sem], by simp [go_sem], by simp [go_sem], by simp [go_sem]⟩
end Go.Proofs.YtgenaicmjddjcaaGreatDoor

