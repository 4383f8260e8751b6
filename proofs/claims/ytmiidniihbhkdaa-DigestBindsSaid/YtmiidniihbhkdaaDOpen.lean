/- A list of strings among the arguments. -/
import Derived.Test.YtmiidniihbhkdaaDOf
import Derived.Deep.Strs
import Derived.WideShapes
import Derived.ChangeShapes
namespace Go.Proofs.Ytmiidniihbhkdaa
open Go.ChangeShapes Go.WideShapes Go.RowKit Go.Deep

theorem cellsS : Try.prog.cellsOf 9 = 1 := by kernel_rfl
theorem open_list {H : Type} {enc : TypeId × Value → H} {W : World} {r : Reach} {b0 : Nat} {v : Value} {d : DataW H} {ps : List MemPlace} (hval : Value.okWide Try.prog W r b0 29 v) (h : DataW.Trod enc Try.prog W 0 (fun _ => true) true 29 v d ps) :
    ∃ (a : Option Addr) (n c : Nat) (S : Nat → ByteArray), v = .slice a n c ∧ n ≤ 9223372036854775807 ∧ (∀ j, j < n → (S j).size ≤ 9223372036854775807) ∧ Strs W a n S := by
  obtain ⟨a, n, c, rfl⟩ := okWide_slice Try.underlying29 hval
  obtain ⟨fuel, hf⟩ := h
  rcases open_strs Try.underlying29 Try.underlying9 cellsS hf with ⟨hcs, _⟩ | ⟨a', len', cap', m, Sx, hcs, _, hl, hm, hmm, _, hcell⟩
  · simp [Value.cells] at hcs
    obtain ⟨rfl, rfl, rfl⟩ := hcs
    exact ⟨none, 0, 0, fun _ => ByteArray.empty, rfl, by omega, fun j hj => absurd hj (by omega), .inl rfl⟩
  · simp [Value.cells] at hcs
    obtain ⟨rfl, rfl, rfl⟩ := hcs
    unfold maxLen at hm hcell
    simp only [if_true] at hmm
    subst hmm
    obtain ⟨b, off, spot⟩ := a'
    refine ⟨_, _, _, Sx, rfl, by omega, fun j hj => (hcell j (by omega)).2, ?_⟩
    by_cases hn0 : n = 0
    · exact .inl hn0
    · have hspot : spot = none := by simpa [Addr.add] using World.cell?_spot (hcell 0 (by omega)).1
      subst hspot
      exact .inr ⟨b, off, rfl, fun j hj => by
        have h := (hcell j (by omega)).1
        rwa [show (⟨b, off, none⟩ : Addr).add j = ⟨b, off + j, none⟩ from by
          rcases Nat.eq_zero_or_pos j with rfl | hp
          · rfl
          · simp [Addr.add, Nat.ne_of_gt hp]] at h⟩
end Go.Proofs.Ytmiidniihbhkdaa
