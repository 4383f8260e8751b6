/- Several texts in one. -/
import Derived.Test.YtgenaicmjddjcaaGreatDoorPTxB
import Derived.Test.YtgenaicmjddjcaaGreatDoorPRg
import Derived.Test.YtgenaicmjddjcaaGreatDoorPRef
import Derived.Test.YtgenaicmjddjcaaGreatDoorPRf
/- What Parse finds is what the reference's Parse finds: the number of the digits, if its text is the string. -/
namespace Go.Proofs.YtgenaicmjddjcaaGreatDoor
open Go.RowKit Go.Shelf

end Go.Proofs.YtgenaicmjddjcaaGreatDoor

/- The reference's plus, the second digits possibly with zeros at the end. -/
namespace Go.Proofs.YtgenaicmjddjcaaGreatDoor
open Go.RowKit Go.Shelf

structure WideD (w : World) (a : Option Addr) (n x : Nat) : Prop where
 len : dlen x ≤ n
 dig : Dig w a n (dgt x)
theorem WideD.below {w w' : World} {a : Option Addr} {n x : Nat} (h : WideD w a n x) (t : Below w.heap.size w w') : WideD w' a n x := ⟨h.len, h.dig.below t⟩
end Go.Proofs.YtgenaicmjddjcaaGreatDoor

/- The reference's Parse of whatever string. -/
namespace Go.Proofs.YtgenaicmjddjcaaGreatDoor
open Go.RowKit Go.Shelf

end Go.Proofs.YtgenaicmjddjcaaGreatDoor

