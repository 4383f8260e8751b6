/- One cell of a variable is stored. -/
import Derived.Test.YtblnpelbklfloaaVGen
namespace Go.Proofs.Ytblnpelbklfloaa
open Go.RowKit

theorem Cel.set1 {w : World} {b : Nat} (v : Value) : ∀ {l : List Value} {o j : Nat}, Cel w b o l → j < l.length → Cel (w.setCell ⟨b, o + j, none⟩ v) b o (l.set j v)
  | [], _, _, _, h => by simp at h
  | u :: l, o, 0, h, _ => ⟨⟨World.cell?_setCell_same' _ _ _ (by rw [Nat.add_zero, h.1.1]; rfl), (World.frozen?_setCell _ _ _ _).trans h.1.2⟩, h.2.setLow (by omega)⟩
  | u :: l, o, j + 1, h, hj => by
    refine ⟨⟨(cell_setCell_ne _ _ _ _ (fun e => by have := congrArg Addr.off e; simp at this) rfl rfl).trans h.1.1, (World.frozen?_setCell _ _ _ _).trans h.1.2⟩, ?_⟩
    have := Cel.set1 v (j := j) h.2 (by simpa using hj)
    rwa [show o + 1 + j = o + (j + 1) by omega] at this
theorem Var.set1 {w : World} {b : Nat} {l : List Value} (h : Var w b l) (j : Nat) (v : Value) (hj : j < l.length) : Var (w.setCell ⟨b, j, none⟩ v) b (l.set j v) := by
  refine ⟨by rw [World.size_setCell]; exact h.1, ?_⟩
  have := h.2.set1 v hj
  rwa [Nat.zero_add] at this
end Go.Proofs.Ytblnpelbklfloaa
