/- Several texts in one. -/
import Derived.Test.YtgenaicmjddjcaaGreatDoorPRf
import Derived.Test.YtgenaicmjddjcaaGreatDoorPNumC
/- num's Right, Add, Mul, Sub, Int and Cmp of any Nums. -/
namespace Go.Proofs.YtgenaicmjddjcaaGreatDoor
open Go.RowKit Go.Shelf

theorem right_arg (s : Bool) (a : Option Addr) (n c : Nat) (o : Option Int) (w : World) (h : Arg w s a n o) :
 Calls Tryz.prog 63 #[.agg #[.bool s, .slice a n c]] w fun e w' => e = .returned (.bool o.isSome) ∧ Below w.heap.size w w' := by
 cases o with
 | some z => exact right_yes s a n c z h.2 w h.1
 | none =>
   obtain ⟨f, h1, h2, h3⟩ := h
   refine (right_any s a n c f h2 w h1).mono ?_
   rintro e w' ⟨rfl, hb⟩
   exact ⟨by rw [h3]; rfl, hb⟩
theorem no_store {w w4 : World} {B : Nat} {u0 u1 : Value} (hb : Box2 w4 B u0 u1) (hB : w.heap.size ≤ B) (h4 : Below w.heap.size w w4) :
 Box2 ((w4.setCell ⟨B, 0, none⟩ (.bool false)).setCell ⟨B, 1, none⟩ (.slice none 0 0)) B (.bool false) (.slice none 0 0) ∧ Below w.heap.size w ((w4.setCell ⟨B, 0, none⟩ (.bool false)).setCell ⟨B, 1, none⟩ (.slice none 0 0)) :=
 ⟨hb.set _ _, below_set2 h4 hB _ _⟩

theorem number_over (neg : Bool) (a : Option Addr) (n cap v : Nat) (hcap : n ≤ cap) (hfit : 64 < n) (hn : n ≤ 1099511627776) (w : World) (hd : IsD w a n v) :
 Calls Tryz.prog 73 #[.bool neg, .slice a n cap] w fun e w' => e = .returned (.tuple #[.agg #[.bool false, .slice none 0 0], .bool false]) ∧ Below w.heap.size w w' := by
 have hv : valF (dgt v) n = v := by rw [hd.len, valF_dlen]
 exact number_unfit neg a n cap (dgt v) hn hcap (fun _ _ => dgt_lt _ _) w hd.dig (by rw [hv, ← hd.len]; exact hfit)
end Go.Proofs.YtgenaicmjddjcaaGreatDoor

/- num's Sub, Int and Cmp of any Nums. -/
namespace Go.Proofs.YtgenaicmjddjcaaGreatDoor
open Go.RowKit Go.Shelf

end Go.Proofs.YtgenaicmjddjcaaGreatDoor

