/- facts that the law NumDivisors wants of quotients and greatest common divisors. -/
import Derived.Test.YtgenaicmjddjcaaGreatDoorPRef
import Derived.Test.YtgenaicmjddjcaaGreatDoorSanity
namespace Go.Proofs.YtgenaicmjddjcaaGreatDoor
open Go.RowKit Go.Shelf

theorem Fan.holds {K : Nat} {w0 w : World} {U V : Nat → Value} {B : Nat → Nat} {s : Nat → Bool} {a : Nat → Option Addr} {n c : Nat → Nat} {z : Nat → Int} (h : Fan K w0 (fun _ => true) (fun _ => true) (fun _ => true) U V B s a n c z w) {k : Nat} (hk : k < K) :
 ∃ (b : Nat) (s' : Bool) (a' : Option Addr) (n' c' : Nat) (z' : Int), U k = .pointer (some ⟨b, 0, none⟩) ∧ Held w b s' a' n' c' z' ∧ n' ≤ 6 ∧ w0.heap.size ≤ b :=
 ⟨B k, s k, a k, n k, c k, z k, (h.var k hk rfl).1, ⟨h.box1 k hk rfl rfl, (h.num k hk rfl).2.1⟩, (h.num k hk rfl).2.2.1, (h.var k hk rfl).2⟩

structure Four (w : World) (b : Nat) (v0 v1 v2 v3 : Value) : Prop where
 c0 : w.cell? ⟨b, 0, none⟩ = some v0
 c1 : w.cell? ⟨b, 1, none⟩ = some v1
 c2 : w.cell? ⟨b, 2, none⟩ = some v2
 c3 : w.cell? ⟨b, 3, none⟩ = some v3
theorem Four.below {w w' : World} {b : Nat} {v0 v1 v2 v3 : Value} (h : Four w b v0 v1 v2 v3) (t : Below w.heap.size w w') : Four w' b v0 v1 v2 v3 :=
 ⟨(t.cell (p := ⟨b, 0, none⟩) (lt_of_cell h.c0)).trans h.c0, (t.cell (p := ⟨b, 1, none⟩) (lt_of_cell h.c1)).trans h.c1, (t.cell (p := ⟨b, 2, none⟩) (lt_of_cell h.c2)).trans h.c2, (t.cell (p := ⟨b, 3, none⟩) (lt_of_cell h.c3)).trans h.c3⟩
theorem Four.new (w : World) (v0 v1 v2 v3 : Value) (t : TypeId) : Four (w.alloc (Obj.cells #[v0, v1, v2, v3] t)) w.heap.size v0 v1 v2 v3 := ⟨by simp [go_sem], by simp [go_sem], by simp [go_sem], by simp [go_sem]⟩
end Go.Proofs.YtgenaicmjddjcaaGreatDoor
