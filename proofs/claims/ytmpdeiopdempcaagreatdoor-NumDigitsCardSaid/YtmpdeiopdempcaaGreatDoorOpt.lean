/- Any Num as an argument, and what a call hands back that may find no right Num. -/
import Derived.Test.YtmpdeiopdempcaaGreatDoorRingM
import Derived.Test.YtmpdeiopdempcaaGreatDoorNumN
import Derived.Test.YtmpdeiopdempcaaGreatDoorNumO
import Derived.Test.YtmpdeiopdempcaaGreatDoorFan
namespace Go.Proofs.YtmpdeiopdempcaaGreatDoor
open Go.RowKit Go.Shelf

/-- a Num that is right and stands for z (some z), or is not right (none) -/
def Arg (w : World) (s : Bool) (a : Option Addr) (n : Nat) : Option Int → Prop
  | some z => IsN w s a n z ∧ n ≤ 64
  | none => ∃ f, Dig w a n f ∧ n ≤ 140737488355328 ∧ rightB s n f = false
theorem Arg.below {w w' : World} {s : Bool} {a : Option Addr} {n : Nat} {o : Option Int} (h : Arg w s a n o) (t : Below w.heap.size w w') : Arg w' s a n o := by
  cases o with
  | some z => exact ⟨h.1.below t, h.2⟩
  | none => obtain ⟨f, h1, h2, h3⟩ := h; exact ⟨f, h1.below t, h2, h3⟩
theorem IsN.arg {w : World} {s : Bool} {a : Option Addr} {n : Nat} {z : Int} (h : IsN w s a n z) (hn : n ≤ 64) : Arg w s a n (some z) := ⟨h, hn⟩
/-- digits as they are -/
theorem arg_of {w : World} {s : Bool} {a : Option Addr} {n : Nat} {f : Nat → Nat} (h : Dig w a n f) (hf : ∀ j, j < n → f j < 4294967296) (hn : n ≤ 140737488355328) : ∃ o, Arg w s a n o := by
  by_cases hr : rightB s n f = true
  · unfold rightB at hr
    by_cases h0 : n = 0
    · subst h0
      have hs : s = false := by simpa using hr
      exact ⟨some 0, ⟨by rw [hs]; rfl, ⟨dlen_zero.symm, .inl rfl⟩⟩, by omega⟩
    · rw [if_neg h0] at hr
      obtain ⟨h64, htop⟩ := of_decide_eq_true hr
      have hl : dlen (valF f n) = n := dlen_valF hf (.inr htop)
      have hD : IsD w a n (valF f n) := ⟨hl.symm, h.congr fun j hj => (dgt_valF hf hj).symm⟩
      exact ⟨some (signed s (valF f n)), IsN.mk' hD fun _ e => h0 (by rw [← hl, e]; exact dlen_zero), h64⟩
  · exact ⟨none, f, h, hn, by simpa using hr⟩

def fitO (z : Int) : Option Int := if dlen z.natAbs ≤ 64 then some z else none
def addO : Option Int → Option Int → Option Int
  | some x, some y => fitO (x + y)
  | _, _ => none
def subO : Option Int → Option Int → Option Int
  | some x, some y => fitO (x - y)
  | _, _ => none
def mulO : Option Int → Option Int → Option Int
  | some x, some y => fitO (x * y)
  | _, _ => none
def intO : Option Int → Option Int
  | some z => if -9223372036854775808 ≤ z ∧ z ≤ 9223372036854775807 then some z else none
  | none => none
def cmpO : Option Int → Option Int → Int
  | some x, some y => cmpZ x y
  | _, _ => 0
theorem addO_none (x : Option Int) : addO x none = none := by cases x <;> rfl
theorem subO_none (x : Option Int) : subO x none = none := by cases x <;> rfl
theorem mulO_none (x : Option Int) : mulO x none = none := by cases x <;> rfl
theorem cmpO_none (x : Option Int) : cmpO x none = 0 := by cases x <;> rfl
theorem fitO_some {z : Int} (h : dlen z.natAbs ≤ 64) : fitO z = some z := if_pos h
theorem fitO_none {z : Int} (h : ¬ dlen z.natAbs ≤ 64) : fitO z = none := if_neg h

/-- what a call hands back that makes a right Num, or none -/
def OptPost (w : World) (o : Option Int) (e : Ending) (w' : World) : Prop :=
  ∃ (s : Bool) (a : Option Addr) (n c : Nat), e = .returned (.tuple #[.agg #[.bool s, .slice a n c], .bool o.isSome]) ∧ IsN w' s a n (o.getD 0) ∧ n ≤ 64 ∧ (n = 0 ∨ Fresh w a) ∧ Below w.heap.size w w'
/-- no Num -/
def NoPost (w : World) (e : Ending) (w' : World) : Prop := e = .returned (.tuple #[.agg #[.bool false, .slice none 0 0], .bool false]) ∧ Below w.heap.size w w'
theorem zero_num (w : World) : IsN w false none 0 0 := ⟨rfl, ⟨dlen_zero.symm, .inl rfl⟩⟩
theorem NoPost.opt {w w' : World} {e : Ending} {o : Option Int} (h : NoPost w e w') (ho : o = none) : OptPost w o e w' := by
  subst ho
  exact ⟨false, none, 0, 0, h.1, zero_num _, by omega, .inl rfl, h.2⟩
theorem NumPost.opt {w w' : World} {e : Ending} {z : Int} (h : NumPost w z e w') (hz : dlen z.natAbs ≤ 64) : OptPost w (some z) e w' := by
  obtain ⟨s, a, n, c, rfl, hN, hf, hb⟩ := h
  exact ⟨s, a, n, c, rfl, hN, by rw [hN.dig.len]; exact hz, hf, hb⟩
end Go.Proofs.YtmpdeiopdempcaaGreatDoor
