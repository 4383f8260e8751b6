/- signed, Made and raised with the capacity of what they hand back. -/
import Derived.Test.YtgenaicmjddjcaaGreatDoorPRf
import Derived.Laws.OwnMore
import Derived.Laws.AppendOwn
namespace Go.Proofs.YtgenaicmjddjcaaGreatDoor
open Go.RowKit Go.Shelf

def CapPost (w : World) (z : Int) (e : Ending) (w' : World) : Prop :=
 ∃ (s : Bool) (a : Option Addr) (n cap : Nat), e = .returned (.tuple #[.agg #[.bool s, .slice a n cap], .bool true]) ∧ IsN w' s a n z ∧ (n = 0 ∨ Fresh w a) ∧ Below w.heap.size w w' ∧ n ≤ cap

set_option maxRecDepth 100000 in
set_option maxHeartbeats 2000000 in
theorem rsigned_cap (neg : Bool) (a : Option Addr) (L cap : Nat) (f : Nat → Nat) (hL : L ≤ 1099511627776) (hcap : L ≤ cap) (hf : ∀ j, j < L → f j < 4294967296) (w : World) (hd : Dig w a L f) (hfit : dlen (valF f L) ≤ 64) :
 Calls Tryz.prog 60 #[.bool neg, .slice a L cap] w (CapPost w (signed neg (valF f L))) := by
 obtain ⟨i0, hi, hz0, hz1, hz2⟩ := info_parts info_u32
 have HI := hide hi
 have HZ := hide (And.intro hz0 (And.intro hz1 hz2))
 have HF := hide hf
 have bC : Box2 (w.alloc (Obj.cells #[.bool false, .slice none 0 0] 25)) w.heap.size (.bool false) (.slice none 0 0) := Box2.new _ _ _ _
 have hB0 : Below w.heap.size w (w.alloc (Obj.cells #[.bool false, .slice none 0 0] 25)) := (Below.refl _ w).alloc (Nat.le_refl _) _
 clear hi hz0 hz1 hz2 hf
 go_enter Tryz.func60, Tryz.ntmps60
 go_wp2_with fail
 obtain ⟨W0, hW0⟩ : ∃ W0, w.alloc (Obj.cells #[.bool false, .slice none 0 0] 25) = W0 := ⟨_, rfl⟩
 rw [hW0] at bC hB0 ⊢
 clear hW0
 have hd0 := hd.below hB0
 refine (rtrim_any a L cap f hL hcap HF.out W0 hd0).mono ?_
 rintro e w1 ⟨a1, c1, rfl, ha1, hc1, rfl⟩
 obtain ⟨V, hV⟩ : ∃ V, valF f L = V := ⟨_, rfl⟩
 rw [hV] at ha1 hc1 hfit
 have HV := hide hV
 obtain ⟨n, hn⟩ : ∃ n, dlen V = n := ⟨_, rfl⟩
 rw [hV, hn]
 rw [hn] at ha1 hc1 hfit
 have HN := hide hn
 clear hV hn
 by_cases h0 : n = 0
 · subst h0
   have hV0 : V = 0 := dlen_eq_zero.1 HN.out
   have HV0 := hide hV0
   clear hV0
   have bC0 := bC
   obtain ⟨c0, c1', z0, z1⟩ := bC
   have kC := bC0.set (.bool false) (.slice none 0 0)
   have kB := below_set2 hB0 (B := w.heap.size) (Nat.le_refl _) (.bool false) (.slice none 0 0)
   obtain ⟨q0, q1, -, -⟩ := kC
   have Q := hide (And.intro q0 q1)
   clear q0 q1
   go_wp2
   obtain ⟨q0, q1⟩ := Q.out
   refine bodyPost_ret (v := .tuple #[.agg #[.bool false, .slice none 0 0], .bool true]) (by simp [results, Tryz.results60, go_sem, q0, q1]) rfl ⟨_, _, _, _, rfl, ?_, .inl rfl, kB, Nat.le_refl _⟩
   rw [HV.out, HV0.out]
   exact ⟨by simp [signed], ⟨by simp [signed, dlen_zero], .inl rfl⟩⟩
 · obtain rfl : a1 = a := by rcases ha1 with h | h; exact h; exact absurd h h0
   have hnL : n ≤ L := by rw [← HN.out, ← HV.out]; exact dlen_le_iff.2 (valF_lt HF.out)
   obtain ⟨b, off, rfl, hc⟩ := (hd0.mono hnL).at (by omega)
   have hnb : ((n : Int) == 0) = false := by simp; omega
   have HC := hide hc
   have bC0 := bC
   have hbw := bC.lt
   obtain ⟨c0, c1', z0, z1⟩ := bC
   clear hc hd0 hd ha1
   go_wp2_with (at_builtin; refine wpList_append_own _ rfl _ _ 23 rfl w1.heap.size 68 i0 (.int .u32 0) 1 4 Tryz.underlying23 HI.out HZ.out.1 HZ.out.2.1 HZ.out.2.2 rfl (by decide) (.slice (some ⟨w1.heap.size, 0, none⟩) 0 0) 0 [] rfl (World.ownsRow_made w1 #[] 0 (Nat.le_refl _) (by unfold maxLen; omega) rfl) ⟨b, off, none⟩ n c1 (digVals f n) rfl (by rw [digVals_length]; omega) ?c1 (digVals_one f n) ?c3 ?c4 ?c5 ?_)
   case c1 =>
    intro j u hj
    have hjn : j < n := by have := (List.getElem?_eq_some_iff.1 hj).1; rw [digVals_length] at this; exact this
    rw [digVals_get f hjn] at hj
    cases hj
    have := (HC.out.below (below_alloc' w1 (Obj.cells #[] 68)) (.inr (by have := HC.out.lt (by omega); exact this))) j hjn
    rw [← this]; congr 1; unfold Addr.add; split <;> simp_all
   case c3 => unfold maxLen; omega
   case c4 => omega
   case c5 => simp
   intro v' w2 hown hgrow _
   obtain ⟨g, c, rfl, hg, hgc, hcg⟩ := owns_digs hown (by omega)
   have HGC : Hid (n ≤ c) := hide (by first | exact hgc | omega)
   have hbk : w2.heap[w.heap.size]? = w1.heap[w.heap.size]? := by
    rw [hgrow.block w.heap.size (by rw [World.size_alloc]; omega) (fun e => by have e' : w.heap.size = w1.heap.size := Option.some.inj e; omega), Below.heap_alloc w1 _ _ hbw]
   have bC2 : Box2 w2 w.heap.size (.bool false) (.slice none 0 0) := ⟨by rw [cell_of_block_eq hbk]; exact bC0.c0, by rw [cell_of_block_eq hbk]; exact bC0.c1, by rw [frozen_of_block_eq hbk]; exact bC0.z0, by rw [frozen_of_block_eq hbk]; exact bC0.z1⟩
   have hB2 : Below w.heap.size w w2 := (hB0.alloc hB0.size _).grown hgrow (by rw [World.size_alloc]; omega) (fun k e => by have e' : w1.heap.size = k := Option.some.inj e; omega)
   have hfn : ∀ j, j < n → f j < 4294967296 := fun j hj => HF.out j (by omega)
   have hVn : valF f n = V := by
    rw [← HV.out]
    refine (valF_drop hnL fun j h1 h2 => ?_).symm
    have h3 := dgt_valF HF.out h2
    rw [HV.out] at h3
    rw [← h3]; unfold dgt
    rw [Nat.div_eq_of_lt (Nat.lt_of_lt_of_le (lt_bp_dlen V) (bp_le (by rw [HN.out]; exact h1)))]
   have hI : IsD w2 (some ⟨g, 0, none⟩) n V := by
    refine ⟨HN.out.symm, .inr ⟨g, 0, rfl, hcg.congr fun j hj => ?_⟩⟩
    rw [← hVn, dgt_valF hfn hj]
   have hV0 : V ≠ 0 := fun e => h0 (by rw [← HN.out, e, dlen_zero])
   have hN2 : IsN w2 neg (some ⟨g, 0, none⟩) n (signed neg V) := IsN.mk' hI (fun _ => hV0)
   obtain ⟨hbx, hN, hBB⟩ := num_store (cap := c) bC2 (Nat.le_refl _) hB2 hN2 (.inr fun ad e => by cases e; show g ≠ _; omega)
   have Q := hide (And.intro hbx (And.intro hN hBB))
   obtain ⟨r0, r1, y0, y1⟩ := bC2
   clear hbx hN hBB hI hN2 hVn hfn hcg hown hgrow hnb c0 c1' z0 z1
   go_wp2
   obtain ⟨⟨q0, q1, -, -⟩, hN, hBB⟩ := Q.out
   refine bodyPost_ret (v := .tuple #[.agg #[.bool neg, .slice (some ⟨g, 0, none⟩) n c], .bool true]) (by simp [results, Tryz.results60, go_sem, q0, q1]) rfl ⟨_, _, _, _, rfl, ?_, .inr fun ad e => by cases e; show _ ≤ g; omega, hBB, HGC.out⟩
   rw [HV.out]; exact hN

end Go.Proofs.YtgenaicmjddjcaaGreatDoor
