/- the reference's Add and Mul with the capacity of what they hand back. -/
import Derived.Test.YtgenaicmjddjcaaGreatDoorPRg
namespace Go.Proofs.YtgenaicmjddjcaaGreatDoor
open Go.RowKit Go.Shelf

theorem radd_c (sa sb : Bool) (aa ab : Option Addr) (na nb ca cb : Nat) (z v : Int) (hna : na ≤ 64) (hnb : nb ≤ 64) (hf : dlen (z + v).natAbs ≤ 64) (w : World) (ha : IsN w sa aa na z) (hb : IsN w sb ab nb v) :
 Calls Tryz.prog 96 #[.agg #[.bool sa, .slice aa na ca], .agg #[.bool sb, .slice ab nb cb]] w (CapPost w (z + v)) :=
 (radd_argC sa sb aa ab na nb ca cb (some z) (some v) w ⟨ha, hna⟩ ⟨hb, hnb⟩).mono fun _ _ h => by
   have e : addO (some z) (some v) = some (z + v) := fitO_some hf
   rw [e] at h; exact h.cap
theorem rmul_c (sa sb : Bool) (aa ab : Option Addr) (na nb ca cb : Nat) (z v : Int) (hna : na ≤ 64) (hnb : nb ≤ 64) (hf : dlen (z * v).natAbs ≤ 64) (w : World) (ha : IsN w sa aa na z) (hb : IsN w sb ab nb v) :
 Calls Tryz.prog 95 #[.agg #[.bool sa, .slice aa na ca], .agg #[.bool sb, .slice ab nb cb]] w (CapPost w (z * v)) :=
 (rmul_argC sa sb aa ab na nb ca cb (some z) (some v) w ⟨ha, hna⟩ ⟨hb, hnb⟩).mono fun _ _ h => by
   have e : mulO (some z) (some v) = some (z * v) := fitO_some hf
   rw [e] at h; exact h.cap
theorem rsub_c (sa sb : Bool) (aa ab : Option Addr) (na nb ca cb : Nat) (x y : Int) (hna : na ≤ 64) (hnb : nb ≤ 64) (w : World) (ha : IsN w sa aa na x) (hb : IsN w sb ab nb y) (hf : dlen (x - y).natAbs ≤ 64) :
 Calls Tryz.prog 124 #[.agg #[.bool sa, .slice aa na ca], .agg #[.bool sb, .slice ab nb cb]] w (CapPost w (x - y)) :=
 (rsub_argC sa sb aa ab na nb ca cb (some x) (some y) w ⟨ha, hna⟩ ⟨hb, hnb⟩).mono fun _ _ h => by
   have e : subO (some x) (some y) = some (x - y) := fitO_some hf
   rw [e] at h; exact h.cap
end Go.Proofs.YtgenaicmjddjcaaGreatDoor
