/- A region that draws its order, whose operations give known values, and one of which stores some cells of a variable that was there. -/
import Derived.Test.YtblnpelbklfloaaVDag
import Derived.Test.YtblnpelbklfloaaVSet
namespace Go.Proofs.Ytblnpelbklfloaa
open Go.RowKit

/-- a list with others in the place of the elements from o on -/
def spl : List Value → Nat → List Value → List Value
  | us, _, [] => us
  | us, o, v :: vs => spl (us.set o v) (o + 1) vs
theorem Var.spl {b : Nat} : ∀ {vs us : List Value} {w : World} {o : Nat}, Var w b us → o + vs.length ≤ us.length → Var (putC b w o vs) b (spl us o vs)
  | [], _, _, _, h, _ => h
  | v :: vs, us, w, o, h, hl => by
    refine Var.spl (vs := vs) (h.set1 o v ?_) ?_
    · simp at hl; omega
    · simp at hl ⊢; omega
theorem Keep.putAt {S : List Nat} {a w : World} (h : Keep S a w) {b : Nat} (hb : b ∈ S) (o : Nat) (l : List Value) : Keep S a (putC b w o l) := by
  obtain ⟨r1, r2, r3⟩ := putC_rest b l w o
  exact ⟨r1.trans h.os, r2.trans h.tape, r3.trans h.output, by rw [putC_size]; exact h.size, fun k hk hS => (putC_block (fun e => by subst e; exact hS hb) l w o).trans (h.block k hk hS)⟩
/-- THE REGION: FV the values of its operations, D what they wait for, s the one that stores the value of c in block b from o on, la the others -/
theorem dagO {P : Program} {ops : Array Oper} {Q : Exit → Act → World → Prop} {S : World → Prop} (hS : ∀ w, S w) (n : Nat) (hn : ops.size = n) (A : (Nat → Value) → Act) (FV : List Value) (D : List (List Nat)) (s c b o : Nat) (Z : List Value) (la : List Nat) (w0 : World)
    (htopo : (ops.toList.zipIdx.all fun p => p.1.after.all fun e => !Region.binds .any e || decide (e.on < p.2)) = true) (hwait : ((List.range n).all fun i => waitsB ops i (D.getD i [])) = true)
    (hla : ((List.range n).filter (· != s) == la) = true) (hc : (decide (s < n) && decide (c < n) && (c != s) && (D.getD s []).contains c) = true)
    (hlen : o + (vc (FV.getD c undef)).length ≤ Z.length) (h0 : Var w0 b Z)
    (hop : Each la fun i => ∀ (X : Nat → Value) (w : World) (H : Act → World → Prop), Keep [b] w0 w → (∀ j ∈ D.getD i [], j ≠ s → X j = FV.getD j undef) →
      (∀ w' : World, Below w.heap.size w w' → H (A (upd X i (FV.getD i undef))) w') → wpOp P ops Q i H (A X) w)
    (hin : ∀ (X : Nat → Value) (w : World) (H : Act → World → Prop), Var w b Z → (∀ j ∈ D.getD s [], j ≠ s → X j = FV.getD j undef) → H (A X) (putC b w o (vc (FV.getD c undef))) → wpOp P ops Q s H (A X) w)
    (hend : ∀ (X : Nat → Value) (w : World), (∀ i, i < n → i ≠ s → X i = FV.getD i undef) → Keep [b] w0 w → Var w b (spl Z o (vc (FV.getD c undef))) → Q .normal (A X) w)
    (X : Nat → Value) (l : Array Bool) (fuel : Nat) (hl : l.size = n) (hfuel : l.toList.count false ≤ fuel) (hfree : ∀ i, i < n → l.getD i false = false) :
    wpAnyH P .any ops Q S fuel l (A X) w0 := by
  have hla := beq_iff_eq.1 hla
  subst hla
  simp only [Bool.and_eq_true, decide_eq_true_eq] at hc
  obtain ⟨⟨⟨hs, -⟩, -⟩, -⟩ := hc
  have hwait := waits_all (D := fun i => D.getD i []) hwait
  refine wpAnyH_inv (I := fun l x w => l.size = n ∧ ∃ X, x = A X ∧ (∀ i, i < n → i ≠ s → l.getD i false = true → X i = FV.getD i undef) ∧ Keep [b] w0 w ∧ Var w b (if l.getD s false then Go.Proofs.Ytblnpelbklfloaa.spl Z o (vc (FV.getD c undef)) else Z))
    (fun l x w h => h.1.trans hn.symm) (fun l x w h => hS w) ?_ ?_ fuel l _ _ hfuel
    ⟨hl, X, rfl, fun i hi _ h => (by rw [hfree i hi] at h; cases h), Keep.refl _ _, by rw [hfree s hs]; exact h0⟩
  · rintro l x w ⟨hls, X, rfl, hX, hK, hV⟩ i hi
    obtain ⟨h0', oo, ho, -⟩ := mem_ready.1 hi
    have hilt : i < n := by rw [← hn]; exact (Array.getElem?_eq_some_iff.1 ho).1
    have hD := waits_of (hwait i hilt) hi
    have hLi : l.getD i false = false := by rw [getD_flip (by omega) false true]; exact h0'
    have hi' : (l.setIfInBounds i true).getD i false = true := getD_set_same h0' false
    have hne : ∀ j, j ≠ i → (l.setIfInBounds i true).getD j false = l.getD j false := fun j hj => getD_set_ne false (Ne.symm hj)
    have hjn : ∀ j ∈ D.getD i [], j < n := fun j hj => by
      have h1 := hD j hj
      rcases Nat.lt_or_ge j n with h | h
      · exact h
      · rw [Array.getD_eq_getD_getElem?, Array.getElem?_eq_none (by omega)] at h1; cases h1
    have hs' : (l.setIfInBounds i true).size = n := by simpa using hls
    have hXD : ∀ j ∈ D.getD i [], j ≠ s → X j = FV.getD j undef := fun j hj hjs => hX j (hjn j hj) hjs (hD j hj)
    by_cases his : i = s
    · subst his
      rw [hLi] at hV
      refine hin X w _ hV hXD ⟨hs', X, rfl, fun j hj hjs hL => hX j hj hjs (by rw [← hne j hjs]; exact hL), hK.putAt (by simp) _ _, ?_⟩
      rw [hi']
      exact (show Var w b Z from hV).spl hlen
    · refine hop i (List.mem_filter.2 ⟨List.mem_range.2 hilt, by simpa using his⟩) X w _ hK hXD fun w' hb => ⟨hs', _, rfl, fun j hj hjs hL => ?_, hK.then hb, ?_⟩
      · by_cases e : j = i
        · subst e; rw [upd_same]
        · rw [upd_ne _ _ e]; exact hX j hj hjs (by rw [← hne j e]; exact hL)
      · rw [hne s (Ne.symm his)]
        exact hV.below hb
  · rintro l x w ⟨hls, X, rfl, hX, hK, hV⟩ hr
    have hall := all_in htopo hr
    have hT : ∀ i, i < n → l.getD i false = true := fun i hi => by rw [getD_flip (by omega) false true]; exact hall i (by omega)
    refine hend X w (fun i hi his => hX i hi his (hT i hi)) hK ?_
    rw [hT s hs] at hV
    exact hV
end Go.Proofs.Ytblnpelbklfloaa
