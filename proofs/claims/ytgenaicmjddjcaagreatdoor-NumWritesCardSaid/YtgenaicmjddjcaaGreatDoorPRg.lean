/- Several texts in one. -/
import Derived.Test.YtgenaicmjddjcaaGreatDoorPRf
import Derived.Test.YtgenaicmjddjcaaGreatDoorPAd
import Derived.Test.YtgenaicmjddjcaaGreatDoorRdE
/- The reference's signed, whether it fits or not; its Add and Mul of any Nums. -/
namespace Go.Proofs.YtgenaicmjddjcaaGreatDoor
open Go.RowKit Go.Shelf

set_option maxRecDepth 100000 in
set_option maxHeartbeats 2000000 in
theorem rsigned_no (neg : Bool) (a : Option Addr) (L cap : Nat) (f : Nat → Nat) (hL : L ≤ 1099511627776) (hcap : L ≤ cap) (hf : ∀ j, j < L → f j < 4294967296) (w : World) (hd : Dig w a L f) (hun : ¬ dlen (valF f L) ≤ 64) :
 Calls Tryz.prog 60 #[.bool neg, .slice a L cap] w (NoPost w) := by
 have HF := hide hf
 have bC : Box2 (w.alloc (Obj.cells #[.bool false, .slice none 0 0] 25)) w.heap.size (.bool false) (.slice none 0 0) := Box2.new _ _ _ _
 have hB0 : Below w.heap.size w (w.alloc (Obj.cells #[.bool false, .slice none 0 0] 25)) := (Below.refl _ w).alloc (Nat.le_refl _) _
 clear hf
 go_enter Tryz.func60, Tryz.ntmps60
 go_wp2_with fail
 obtain ⟨W0, hW0⟩ : ∃ W0, w.alloc (Obj.cells #[.bool false, .slice none 0 0] 25) = W0 := ⟨_, rfl⟩
 rw [hW0] at bC hB0 ⊢
 clear hW0
 refine (rtrim_any a L cap f hL hcap HF.out W0 (hd.below hB0)).mono ?_
 rintro e w1 ⟨a1, c1, rfl, ha1, hc1, rfl⟩
 obtain ⟨n, hn⟩ : ∃ n, dlen (valF f L) = n := ⟨_, rfl⟩
 rw [hn] at ha1 hc1 hun ⊢
 clear hn ha1
 have hun' : (64 : Int) < n := by omega
 have K := hide (no_store bC (by omega) hB0)
 obtain ⟨r0, r1, z0, z1⟩ := bC
 go_wp2
 obtain ⟨⟨q0, q1, -, -⟩, hBB⟩ := K.out
 exact bodyPost_ret (v := .tuple #[.agg #[.bool false, .slice none 0 0], .bool false]) (by simp [results, Tryz.results60, go_sem, q0, q1]) rfl ⟨rfl, hBB⟩
def OptPostC (w : World) (o : Option Int) (e : Ending) (w' : World) : Prop :=
 ∃ (s : Bool) (a : Option Addr) (n c : Nat), e = .returned (.tuple #[.agg #[.bool s, .slice a n c], .bool o.isSome]) ∧ IsN w' s a n (o.getD 0) ∧ n ≤ 64 ∧ (n = 0 ∨ Fresh w a) ∧ Below w.heap.size w w' ∧ n ≤ c
theorem OptPostC.opt {w w' : World} {e : Ending} {o : Option Int} (h : OptPostC w o e w') : OptPost w o e w' := by
 obtain ⟨s, a, n, c, h1, h2, h3, h4, h5, -⟩ := h
 exact ⟨s, a, n, c, h1, h2, h3, h4, h5⟩
theorem NoPost.optC {w w' : World} {e : Ending} {o : Option Int} (h : NoPost w e w') (ho : o = none) : OptPostC w o e w' := by
 subst ho
 exact ⟨false, none, 0, 0, h.1, zero_num _, by omega, .inl rfl, h.2, Nat.le_refl _⟩
theorem CapPost.optC {w w' : World} {e : Ending} {z : Int} (h : CapPost w z e w') (hz : dlen z.natAbs ≤ 64) : OptPostC w (some z) e w' := by
 obtain ⟨s, a, n, c, rfl, hN, hf, hb, hc⟩ := h
 exact ⟨s, a, n, c, rfl, hN, by rw [hN.dig.len]; exact hz, hf, hb, hc⟩
theorem OptPostC.cap {w w' : World} {e : Ending} {z : Int} (h : OptPostC w (some z) e w') : CapPost w z e w' := by
 obtain ⟨s, a, n, c, h1, h2, -, h4, h5, h6⟩ := h
 exact ⟨s, a, n, c, h1, h2, h4, h5, h6⟩
theorem rsigned_optC (neg : Bool) (a : Option Addr) (L cap : Nat) (f : Nat → Nat) (hL : L ≤ 1099511627776) (hcap : L ≤ cap) (hf : ∀ j, j < L → f j < 4294967296) (w : World) (hd : Dig w a L f) :
 Calls Tryz.prog 60 #[.bool neg, .slice a L cap] w (OptPostC w (fitO (signed neg (valF f L)))) := by
 by_cases h : dlen (valF f L) ≤ 64
 · have h' : dlen (signed neg (valF f L)).natAbs ≤ 64 := by rw [signed_abs]; exact h
   rw [fitO_some h']
   exact (rsigned_cap neg a L cap f hL hcap hf w hd h).mono fun e w' hp => hp.optC h'
 · rw [fitO_none (by rw [signed_abs]; exact h)]
   exact (rsigned_no neg a L cap f hL hcap hf w hd h).mono fun e w' hp => hp.optC rfl
theorem rsigned_numC (neg : Bool) (a : Option Addr) (n cap v : Nat) (hcap : n ≤ cap) (hn : n ≤ 1099511627776) (w : World) (hd : IsD w a n v) {O : Option Int} (HO : Hid (fitO (signed neg v) = O)) :
 Calls Tryz.prog 60 #[.bool neg, .slice a n cap] w (OptPostC w O) := by
 have := rsigned_optC neg a n cap (dgt v) hn hcap (fun _ _ => dgt_lt _ _) w hd.dig
 rw [hd.len, valF_dlen, ← hd.len, HO.out] at this
 exact this
theorem rsigned_num (neg : Bool) (a : Option Addr) (n cap v : Nat) (hcap : n ≤ cap) (hn : n ≤ 1099511627776) (w : World) (hd : IsD w a n v) {O : Option Int} (HO : Hid (fitO (signed neg v) = O)) :
 Calls Tryz.prog 60 #[.bool neg, .slice a n cap] w (OptPost w O) := (rsigned_numC neg a n cap v hcap hn w hd HO).mono fun _ _ h => h.opt
end Go.Proofs.YtgenaicmjddjcaaGreatDoor

/- The reference's word, Int and Cmp of any Nums. -/
namespace Go.Proofs.YtgenaicmjddjcaaGreatDoor
open Go.RowKit Go.Shelf

end Go.Proofs.YtgenaicmjddjcaaGreatDoor

/- The reference's negated and Sub of any Nums. -/
namespace Go.Proofs.YtgenaicmjddjcaaGreatDoor
open Go.RowKit Go.Shelf

end Go.Proofs.YtgenaicmjddjcaaGreatDoor
