/- The reference's Gcd. -/
import Derived.Test.YtgenaicmjddjcaaGreatDoorRdD
import Derived.Deep.LoopGhost
namespace Go.Proofs.YtgenaicmjddjcaaGreatDoor
open Go.RowKit Go.Shelf

theorem three_boxes (w : World) (u0 u1 v0 v1 : Value) (t : TypeId) {W0 : World} (hW : ((w.alloc (Obj.cells #[u0, u1] t)).alloc (Obj.cells #[v0, v1] t)).alloc (Obj.cells #[.bool false, .slice none 0 0] t) = W0) :
 Box2 W0 w.heap.size u0 u1 ∧ Box2 W0 (w.heap.size + 1) v0 v1 ∧ Box2 W0 (w.heap.size + 1 + 1) (.bool false) (.slice none 0 0) ∧ Below w.heap.size w W0 := by
 subst hW
 refine ⟨((Box2.new w _ _ _).alloc _).alloc _, ?_, ?_, (((Below.refl _ w).alloc (Nat.le_refl _) _).alloc (by simp) _).alloc (by simp; omega) _⟩
 · have := (Box2.new (w.alloc (Obj.cells #[u0, u1] t)) v0 v1 t).alloc (Obj.cells #[.bool false, .slice none 0 0] t)
   rw [World.size_alloc] at this; exact this
 · have := Box2.new ((w.alloc (Obj.cells #[u0, u1] t)).alloc (Obj.cells #[v0, v1] t)) (.bool false) (.slice none 0 0) t
   rw [World.size_alloc, World.size_alloc] at this; exact this

set_option maxRecDepth 100000 in
set_option maxHeartbeats 4000000 in
theorem rgcd_num (sa sb : Bool) (aa ab : Option Addr) (na nb ca cb : Nat) (za zb : Int) (hna : na ≤ 64) (hnb : nb ≤ 64) (hca : na ≤ ca) (hcb : nb ≤ cb) (w : World) (ha : IsN w sa aa na za) (hb : IsN w sb ab nb zb) :
 Calls Tryz.prog 91 #[.agg #[.bool sa, .slice aa na ca], .agg #[.bool sb, .slice ab nb cb]] w (NumPost w (Int.gcd za zb)) := by
 go_enter Tryz.func91, Tryz.ntmps91
 go_wp2_with fail
 obtain ⟨W0, hW0⟩ : ∃ W0, ((w.alloc (Obj.cells #[.bool sa, .slice aa na ca] 25)).alloc (Obj.cells #[.bool sb, .slice ab nb cb] 25)).alloc (Obj.cells #[.bool false, .slice none 0 0] 25) = W0 := ⟨_, rfl⟩
 obtain ⟨bA, bB, bC, hB⟩ := three_boxes w _ _ _ _ _ hW0
 rw [hW0]
 clear hW0
 refine (rright_yes sa aa na ca za hna _ (ha.below hB)).mono ?_
 rintro e w1 ⟨rfl, hk⟩
 have hB := hB.trans (hk.mono hB.size)
 have bA := bA.below hk bA.lt
 have bB := bB.below hk bB.lt
 have bC := bC.below hk bC.lt
 clear hk
 obtain ⟨b0, b1, -, -⟩ := id bB
 go_wp2_with fail
 clear b0 b1
 refine (rright_yes sb ab nb cb zb hnb _ (hb.below hB)).mono ?_
 rintro e w2 ⟨rfl, hk⟩
 have hB := hB.trans (hk.mono hB.size)
 have bA := bA.below hk bA.lt
 have bB := bB.below hk bB.lt
 have bC := bC.below hk bC.lt
 clear hk
 have hX := (ha.dig.below hB)
 have hY := (hb.dig.below hB)
 obtain ⟨a0, a1, -, -⟩ := id bA
 obtain ⟨b0, b1, -, -⟩ := id bB
 go_wp2_with fail
 clear a0 a1 b0 b1
 go_loopg [6, 7] zb.natAbs (fun gk p q wr => ∃ (X Y : Nat) (ax : Option Addr) (nx cx : Nat) (ay : Option Addr) (ny cy : Nat), p = .slice ax nx cx ∧ q = .slice ay ny cy ∧ gk = Y ∧ IsD wr ax nx X ∧ IsD wr ay ny Y ∧ nx ≤ 64 ∧ ny ≤ 64 ∧ nx ≤ cx ∧ ny ≤ cy ∧ Nat.gcd X Y = Int.gcd za zb ∧ Below w2.heap.size w2 wr)
 case atStart => exact ⟨za.natAbs, zb.natAbs, aa, na, ca, ab, nb, cb, rfl, rfl, rfl, hX, hY, hna, hnb, hca, hcb, rfl, Below.refl _ _⟩
 case round =>
  obtain ⟨X, Y, ax, nx, cx, ay, ny, cy, rfl, rfl, hgk, hX1, hY1, hnx, hny, hcx, hcy, hg, hr⟩ := hrel
  have HG := hide hg
  have HGK := hide hgk
  clear hg hgk
  rcases Nat.eq_zero_or_pos ny with h0 | h0
  · subst h0
    have hY0 : Y = 0 := dlen_eq_zero.1 hY1.len.symm
    have hgx : X = Int.gcd za zb := by rw [← HG.out, hY0, Nat.gcd_zero_right]
    have HGX := hide hgx
    clear hY0 hgx
    have bC1 := bC.below hr bC.lt
    have hBr := hB.trans (hr.mono hB.size)
    go_wp2_with fail
    refine (rsigned_isd false ax nx cx X hcx hnx wr hX1).mono ?_
    rintro e w4 ⟨s4, a4, n4, c4, rfl, hn4, hf4, hb4⟩
    have bC4 := bC1.below hb4 bC1.lt
    have hBw4 := hBr.trans (hb4.mono hBr.size)
    have hlt2 := bC1.lt
    obtain ⟨hbx, hN, hBB⟩ := num_store (cap := c4) bC4 (by omega) hBw4 hn4 (hf4.imp id fun h ad e => by have := h ad e; omega)
    have hN' := hide hN
    clear hN
    obtain ⟨q0, q1, -, -⟩ := hbx
    obtain ⟨r0, r1, z0, z1⟩ := bC4
    have hsz := hBr.size
    go_wp2
    refine bodyPost_ret (v := .tuple #[.agg #[.bool s4, .slice a4 n4 c4], .bool true]) (by simp [results, Tryz.results91, go_sem, q0, q1]) rfl ⟨_, _, _, _, rfl, ?_, hf4.imp id fun h ad e => Nat.le_trans hsz (h ad e), hBB⟩
    have := hN'.out
    rw [HGX.out] at this
    simpa [signed] using this
  · have hY0 : 0 < Y := Nat.pos_of_ne_zero fun e => by have := hY1.len; rw [e, dlen_zero] at this; omega
    have hd : decide (0 < ny) = true := by simp; omega
    go_wp2_with fail
    refine (rdivide_any ax ay X Y nx ny cx cy (by omega) (by omega) hcx wr hX1 hY1 hY0).mono ?_
    rintro e w4 ⟨aq, nq, cq, ar, nr, cr, rfl, -, hr4, -, hcr, hk⟩
    have hY4 := hY1.below hk
    have hr2 := hr.trans (hk.mono hr.size)
    have hm : X % Y < Y := Nat.mod_lt _ hY0
    have hnr : nr ≤ 64 := by rw [hr4.len]; exact Nat.le_trans (dlen_mono (Nat.le_of_lt hm)) (by rw [← hY1.len]; exact hny)
    have HMl := hide hm
    clear hm
    go_wp2_with fail
    go_roundg (X % Y)
    case measure =>
     have h1 := HGK.out
     have h2 := HMl.out
     omega
    case rel =>
     refine ⟨Y, X % Y, ay, ny, cy, ar, nr, cr, rfl, rfl, rfl, hY4, hr4, hny, hnr, hcy, hcr, ?_, hr2⟩
     rw [← HG.out, Nat.gcd_comm X Y, Nat.gcd_rec Y X, Nat.gcd_comm]
end Go.Proofs.YtgenaicmjddjcaaGreatDoor
