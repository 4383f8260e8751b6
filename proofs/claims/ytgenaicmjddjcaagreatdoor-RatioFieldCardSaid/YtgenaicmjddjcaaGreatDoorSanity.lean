/- the law's sanity: it is true. -/
import Derived.Test.YtgenaicmjddjcaaGreatDoorPText
namespace Go.Proofs.YtgenaicmjddjcaaGreatDoor
open Go.RowKit Go.Shelf
structure Held (w : World) (B : Nat) (s : Bool) (a : Option Addr) (n c : Nat) (z : Int) : Prop where
 box : Box2 w B (.bool s) (.slice a n c)
 num : IsN w s a n z
theorem Held.below {w w' : World} {B : Nat} {s : Bool} {a : Option Addr} {n c : Nat} {z : Int} (h : Held w B s a n c z) (t : Below w.heap.size w w') : Held w' B s a n c z := ⟨h.box.below t h.box.lt, h.num.below t⟩
theorem Held.new {w : World} {s : Bool} {a : Option Addr} {n : Nat} {z : Int} (c : Nat) (h : IsN w s a n z) (t : TypeId) : Held (w.alloc (Obj.cells #[.bool s, .slice a n c] t)) w.heap.size s a n c z :=
 ⟨Box2.new _ _ _ _, h.below ((Below.refl _ w).alloc (Nat.le_refl _) _)⟩
theorem below_alloc (w : World) (o : Obj) : Below w.heap.size w (w.alloc o) := (Below.refl _ w).alloc (Nat.le_refl _) _

end Go.Proofs.YtgenaicmjddjcaaGreatDoor
