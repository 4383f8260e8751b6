/- Several texts in one. -/
import Derived.Test.YtikepnocefdmnaaGreatDoorRbC
namespace Go.Proofs.YtikepnocefdmnaaGreatDoor
open Go.RowKit Go.Shelf

theorem rzero_r (w : World) : Calls Tryz.prog 55 #[.int .i64 0] w fun e w' => ∃ (s : Bool) (a : Option Addr) (n c : Nat), e = .returned (.agg #[.bool s, .slice a n c]) ∧ IsN w' s a n 0 ∧ Below w.heap.size w w' :=
 (whole_r 0 (by decide) (by decide) w).mono fun _ _ ⟨s, a, n, c, he, hN, _, _, hk⟩ => ⟨s, a, n, c, he, hN, hk⟩
theorem rsub_num (sa sb : Bool) (aa ab : Option Addr) (na nb ca cb : Nat) (x y : Int) (hna : na ≤ 64) (hnb : nb ≤ 64) (w : World) (ha : IsN w sa aa na x) (hb : IsN w sb ab nb y) (hf : dlen (x - y).natAbs ≤ 64) :
 Calls Tryz.prog 94 #[.agg #[.bool sa, .slice aa na ca], .agg #[.bool sb, .slice ab nb cb]] w (NumPost w (x - y)) := by
 have h := rsub_arg sa sb aa ab na nb ca cb (some x) (some y) w ⟨ha, hna⟩ ⟨hb, hnb⟩
 rw [show subO (some x) (some y) = some (x - y) from fitO_some hf] at h
 exact h.mono fun _ _ ⟨s, a, n, c, he, hN, _, hfr, hk⟩ => ⟨s, a, n, c, he, hN, hfr, hk⟩
set_option maxRecDepth 100000 in
set_option maxHeartbeats 4000000 in
theorem ropp_r (s : Bool) (a : Option Addr) (n c : Nat) (z : Int) (hn : n ≤ 64) (w : World) (h : IsN w s a n z) :
 Calls Tryz.prog 63 #[.agg #[.bool s, .slice a n c]] w (OnePost w (-z)) := by
 have hfit : dlen (0 - z).natAbs ≤ 64 := by rw [show (0 - z).natAbs = z.natAbs by omega, ← h.dig.len]; exact hn
 go_enter Tryz.func63, Tryz.ntmps63
 go_wp2_with fail
 have hB := (below_alloc w (Obj.cells #[.bool s, .slice a n c] 25)).trans ((below_alloc _ (Obj.cells #[.bool false, .slice none 0 0] 25)).mono (by simp))
 have hX : Box2 ((w.alloc (Obj.cells #[.bool s, .slice a n c] 25)).alloc (Obj.cells #[.bool false, .slice none 0 0] 25)) w.heap.size (.bool s) (.slice a n c) := (Box2.new w _ _ _).alloc _
 have hC : Box2 ((w.alloc (Obj.cells #[.bool s, .slice a n c] 25)).alloc (Obj.cells #[.bool false, .slice none 0 0] 25)) (w.heap.size + 1) (.bool false) (.slice none 0 0) := by
  have := Box2.new (w.alloc (Obj.cells #[.bool s, .slice a n c] 25)) (.bool false) (.slice none 0 0) 25
  rw [World.size_alloc] at this; exact this
 obtain ⟨W0, hW0⟩ : ∃ W0, (w.alloc (Obj.cells #[.bool s, .slice a n c] 25)).alloc (Obj.cells #[.bool false, .slice none 0 0] 25) = W0 := ⟨_, rfl⟩
 rw [hW0] at hB hX hC ⊢
 clear hW0
 have hB : Below w.heap.size w W0.drew := hB.drew
 have hX : Box2 W0.drew w.heap.size (.bool s) (.slice a n c) := hX.below (Below.drew (Below.refl _ _)) hX.lt
 have hC : Box2 W0.drew (w.heap.size + 1) (.bool false) (.slice none 0 0) := hC.below (Below.drew (Below.refl _ _)) hC.lt
 have hN := h.below hB
 obtain ⟨RR, hRR⟩ : ∃ RR : Act → World → Prop, RR = (fun x w' => ∃ (Bv : Nat) (sv : Bool) (av : Option Addr) (nv cv : Nat) (y5 y6 y7 y8 y9 y10 : Value), x = ⟨#[.agg #[.bool s, .slice a n c], .pointer (some ⟨w.heap.size, 0, none⟩), .pointer (some ⟨w.heap.size + 1, 0, none⟩), .pointer (some ⟨Bv, 0, none⟩), .bool true, y5, y6, y7, y8, y9, y10, undef], []⟩ ∧ Held w' Bv sv av nv cv (0 - z) ∧ nv ≤ 64 ∧ (nv = 0 ∨ ∀ ad, av = some ad → W0.drew.heap.size ≤ ad.block) ∧ Below W0.drew.heap.size W0.drew w') := ⟨_, rfl⟩
 have HRR := hide hRR
 clear hRR
 refine Code.wp_mono (Q := fun e x w' => e = Exit.normal ∧ RR x w') ?imp ?reg
 case reg =>
  refine wp_region_held_drew (S := fun w' => Below W0.drew.heap.size W0.drew w') (by kernel_rfl) (Below.refl _ _) (fun hHeld => ?_)
  obtain ⟨WE, hWE⟩ : ∃ WE, W0.drew = WE := ⟨_, rfl⟩
  rw [hWE] at hX hN hHeld HRR ⊢
  clear hWE
  have hlt := hX.lt
  obtain ⟨px, py, -, -⟩ := hX
  refine tk 1 (.agg #[.bool s, .slice a n c]) 7 rfl rfl ?_ (Or.inl ⟨by rfl, fun w' hSw => by have qa := (hSw.cell (p := ⟨w.heap.size, 0, none⟩) hlt).trans px; have qb := (hSw.cell (p := ⟨w.heap.size, 1, none⟩) hlt).trans py; go_simp⟩) (hQ := fun _ _ _ h => by cases h.1)
  simp only [Act.put, pA, pB, pC]
  refine wpAnyH_twoR 0 6 (by kernel_rfl) ?_ ?_
  · refine wpOp_call (i := 0) (f := 55) (args := #[.int .i64 0]) 6 rfl rfl (by rfl) (by go_simp) ?_
    refine (rzero_r _).mono ?_
    rintro e wo ⟨so, ao, no, co, rfl, No, ko⟩
    have hbo : Below WE.heap.size WE wo := hHeld.trans (ko.mono hHeld.size)
    have kno : no ≤ 64 := by rw [No.dig.len]; exact Nat.le_trans (dlen_le_two (by decide)) (by decide)
    refine ⟨_, rfl, hbo, ?_⟩
    simp only [Act.put, pA, pB, pC]
    refine wpAnyH_twoR 2 6 (by kernel_rfl) ?_ ?_
    · refine wpOp_call (i := 2) (f := 94) (args := #[.agg #[.bool so, .slice ao no co], .agg #[.bool s, .slice a n c]]) 8 rfl rfl (by rfl) (by go_simp) ?_
      refine (rsub_num so s ao a no n co c 0 z kno hn _ No (hN.below hbo) hfit).mono ?_
      rintro e wm ⟨sv, av, nv, cv, rfl, Nm, hfm, km⟩
      have hbm : Below WE.heap.size WE wm := hbo.trans (km.mono hbo.size)
      have knv : nv ≤ 64 := by rw [Nm.dig.len]; exact hfit
      have hfv : nv = 0 ∨ ∀ ad, av = some ad → WE.heap.size ≤ ad.block := hfm.imp id fun h ad e => Nat.le_trans hbo.size (h ad e)
      refine ⟨_, rfl, hbm, ?_⟩
      simp only [Act.put, pA, pB, pC]
      refine tk 3 (.tuple #[.agg #[.bool sv, .slice av nv cv], .bool true]) 5 rfl rfl ?_ (hQ := fun _ _ _ h => by cases h.1)
      simp only [Act.put, pA, pB, pC]
      refine tk 4 (.agg #[.bool sv, .slice av nv cv]) 9 rfl rfl ?_ (hQ := fun _ _ _ h => by cases h.1)
      simp only [Act.put, pA, pB, pC]
      refine tk 5 (.bool true) 10 rfl rfl ?_ (hQ := fun _ _ _ h => by cases h.1)
      simp only [Act.put, pA, pB, pC]
      refine wpAnyH_one 6 (by kernel_rfl) ?_
      have hold := Nm.old (Nat.le_refl _)
      refine wpOp_run (i := 6) rfl ?_
      go_simp
      have bx := Box2.new wm (.bool false) (.slice none 0 0) 25
      have hka := below_alloc' wm (Obj.cells #[.bool false, .slice none 0 0] 25)
      have hba : Below WE.heap.size WE (wm.alloc (Obj.cells #[.bool false, .slice none 0 0] 25)) := hbm.trans (hka.mono hbm.size)
      have hsa : (wm.alloc (Obj.cells #[.bool false, .slice none 0 0] 25)).heap.size = wm.heap.size + 1 := World.size_alloc _ _
      obtain ⟨wa, hwa⟩ : ∃ wa, wm.alloc (Obj.cells #[.bool false, .slice none 0 0] 25) = wa := ⟨_, rfl⟩
      rw [hwa] at bx hka hba hsa ⊢
      clear hwa
      refine ⟨hba, ?_⟩
      have Nm := Nm.below hka
      have hbx2 := bx.set (.bool sv) (.slice av nv cv)
      have hN2 := Nm.set2 bx (.bool sv) (.slice av nv cv) hold
      have hbf := below_set2 hba (B := wm.heap.size) hbm.size (.bool sv) (.slice av nv cv)
      have HQ := hide (And.intro hbx2 (And.intro hN2 hbf))
      obtain ⟨r0, r1, z0, z1⟩ := bx
      refine wpAnyH_one 7 (by kernel_rfl) ?_
      refine wpOp_run (i := 7) rfl ?_
      go_simp
      refine wpAnyH_one 8 (by kernel_rfl) ?_
      refine wpOp_run (i := 8) rfl ?_
      go_simp
      refine wpAnyH_done (by kernel_rfl) ?_ _
      refine ⟨rfl, ?_⟩
      rw [HRR.out]
      exact ⟨_, sv, av, nv, cv, _, _, _, _, _, _, rfl, ⟨HQ.out.1, HQ.out.2.1⟩, knv, hfv, HQ.out.2.2⟩
    · refine wpOp_run (i := 6) rfl ?_
      go_simp
      have bx := Box2.new wo (.bool false) (.slice none 0 0) 25
      have hka := below_alloc' wo (Obj.cells #[.bool false, .slice none 0 0] 25)
      have hba : Below WE.heap.size WE (wo.alloc (Obj.cells #[.bool false, .slice none 0 0] 25)) := hbo.trans (hka.mono hbo.size)
      have hsa : (wo.alloc (Obj.cells #[.bool false, .slice none 0 0] 25)).heap.size = wo.heap.size + 1 := World.size_alloc _ _
      obtain ⟨wa, hwa⟩ : ∃ wa, wo.alloc (Obj.cells #[.bool false, .slice none 0 0] 25) = wa := ⟨_, rfl⟩
      rw [hwa] at bx hka hba hsa ⊢
      clear hwa
      refine ⟨hba, ?_⟩
      have No := No.below hka
      refine wpAnyH_one 2 (by kernel_rfl) ?_
      refine wpOp_call (i := 2) (f := 94) (args := #[.agg #[.bool so, .slice ao no co], .agg #[.bool s, .slice a n c]]) 8 rfl rfl (by rfl) (by go_simp) ?_
      refine (rsub_num so s ao a no n co c 0 z kno hn _ No (hN.below hba) hfit).mono ?_
      rintro e wm ⟨sv, av, nv, cv, rfl, Nm, hfm, km⟩
      have hbm : Below WE.heap.size WE wm := hba.trans (km.mono hba.size)
      have knv : nv ≤ 64 := by rw [Nm.dig.len]; exact hfit
      have hfv : nv = 0 ∨ ∀ ad, av = some ad → WE.heap.size ≤ ad.block := hfm.imp id fun h ad e => Nat.le_trans hba.size (h ad e)
      refine ⟨_, rfl, hbm, ?_⟩
      simp only [Act.put, pA, pB, pC]
      refine tk 3 (.tuple #[.agg #[.bool sv, .slice av nv cv], .bool true]) 5 rfl rfl ?_ (hQ := fun _ _ _ h => by cases h.1)
      simp only [Act.put, pA, pB, pC]
      refine tk 4 (.agg #[.bool sv, .slice av nv cv]) 9 rfl rfl ?_ (hQ := fun _ _ _ h => by cases h.1)
      simp only [Act.put, pA, pB, pC]
      refine tk 5 (.bool true) 10 rfl rfl ?_ (hQ := fun _ _ _ h => by cases h.1)
      simp only [Act.put, pA, pB, pC]
      have bx := bx.below km bx.lt
      have hbx2 := bx.set (.bool sv) (.slice av nv cv)
      have hN2 := Nm.set2 bx (.bool sv) (.slice av nv cv) (hfm.imp id fun h ad e => by have := h ad e; omega)
      have hbf := below_set2 hbm (B := wo.heap.size) hbo.size (.bool sv) (.slice av nv cv)
      have HQ := hide (And.intro hbx2 (And.intro hN2 hbf))
      obtain ⟨r0, r1, z0, z1⟩ := bx
      refine wpAnyH_one 7 (by kernel_rfl) ?_
      refine wpOp_run (i := 7) rfl ?_
      go_simp
      refine wpAnyH_one 8 (by kernel_rfl) ?_
      refine wpOp_run (i := 8) rfl ?_
      go_simp
      refine wpAnyH_done (by kernel_rfl) ?_ _
      refine ⟨rfl, ?_⟩
      rw [HRR.out]
      exact ⟨_, sv, av, nv, cv, _, _, _, _, _, _, rfl, ⟨HQ.out.1, HQ.out.2.1⟩, knv, hfv, HQ.out.2.2⟩
  · refine wpOp_run (i := 6) rfl ?_
    go_simp
    have bx := Box2.new WE (.bool false) (.slice none 0 0) 25
    have hka := below_alloc' WE (Obj.cells #[.bool false, .slice none 0 0] 25)
    have hba : Below WE.heap.size WE (WE.alloc (Obj.cells #[.bool false, .slice none 0 0] 25)) := hHeld.trans (hka.mono hHeld.size)
    have hsa : (WE.alloc (Obj.cells #[.bool false, .slice none 0 0] 25)).heap.size = WE.heap.size + 1 := World.size_alloc _ _
    obtain ⟨wa, hwa⟩ : ∃ wa, WE.alloc (Obj.cells #[.bool false, .slice none 0 0] 25) = wa := ⟨_, rfl⟩
    rw [hwa] at bx hka hba hsa ⊢
    clear hwa
    refine ⟨hba, ?_⟩
    refine wpAnyH_one 0 (by kernel_rfl) ?_
    refine wpOp_call (i := 0) (f := 55) (args := #[.int .i64 0]) 6 rfl rfl (by rfl) (by go_simp) ?_
    refine (rzero_r _).mono ?_
    rintro e wo ⟨so, ao, no, co, rfl, No, ko⟩
    have hbo : Below WE.heap.size WE wo := hba.trans (ko.mono hba.size)
    have kno : no ≤ 64 := by rw [No.dig.len]; exact Nat.le_trans (dlen_le_two (by decide)) (by decide)
    refine ⟨_, rfl, hbo, ?_⟩
    simp only [Act.put, pA, pB, pC]
    have bx := bx.below ko bx.lt
    have hso := ko.size
    refine wpAnyH_one 2 (by kernel_rfl) ?_
    refine wpOp_call (i := 2) (f := 94) (args := #[.agg #[.bool so, .slice ao no co], .agg #[.bool s, .slice a n c]]) 8 rfl rfl (by rfl) (by go_simp) ?_
    refine (rsub_num so s ao a no n co c 0 z kno hn _ No (hN.below hbo) hfit).mono ?_
    rintro e wm ⟨sv, av, nv, cv, rfl, Nm, hfm, km⟩
    have hbm : Below WE.heap.size WE wm := hbo.trans (km.mono hbo.size)
    have knv : nv ≤ 64 := by rw [Nm.dig.len]; exact hfit
    have hfv : nv = 0 ∨ ∀ ad, av = some ad → WE.heap.size ≤ ad.block := hfm.imp id fun h ad e => Nat.le_trans hbo.size (h ad e)
    refine ⟨_, rfl, hbm, ?_⟩
    simp only [Act.put, pA, pB, pC]
    refine tk 3 (.tuple #[.agg #[.bool sv, .slice av nv cv], .bool true]) 5 rfl rfl ?_ (hQ := fun _ _ _ h => by cases h.1)
    simp only [Act.put, pA, pB, pC]
    refine tk 4 (.agg #[.bool sv, .slice av nv cv]) 9 rfl rfl ?_ (hQ := fun _ _ _ h => by cases h.1)
    simp only [Act.put, pA, pB, pC]
    refine tk 5 (.bool true) 10 rfl rfl ?_ (hQ := fun _ _ _ h => by cases h.1)
    simp only [Act.put, pA, pB, pC]
    have bx := bx.below km bx.lt
    have hbx2 := bx.set (.bool sv) (.slice av nv cv)
    have hN2 := Nm.set2 bx (.bool sv) (.slice av nv cv) (hfm.imp id fun h ad e => by have := h ad e; omega)
    have hbf := below_set2 hbm (B := WE.heap.size) (Nat.le_refl _) (.bool sv) (.slice av nv cv)
    have HQ := hide (And.intro hbx2 (And.intro hN2 hbf))
    obtain ⟨r0, r1, z0, z1⟩ := bx
    refine wpAnyH_one 7 (by kernel_rfl) ?_
    refine wpOp_run (i := 7) rfl ?_
    go_simp
    refine wpAnyH_one 8 (by kernel_rfl) ?_
    refine wpOp_run (i := 8) rfl ?_
    go_simp
    refine wpAnyH_done (by kernel_rfl) ?_ _
    refine ⟨rfl, ?_⟩
    rw [HRR.out]
    exact ⟨_, sv, av, nv, cv, _, _, _, _, _, _, rfl, ⟨HQ.out.1, HQ.out.2.1⟩, knv, hfv, HQ.out.2.2⟩
 case imp =>
  rintro e x W5 ⟨rfl, hr⟩
  rw [HRR.out] at hr
  obtain ⟨Bv, sv, av, nv, cv, y5, y6, y7, y8, y9, y10, rfl, H5, k5, hf5, hkeep⟩ := hr
  clear HRR RR
  have hC5 := hC.below hkeep hC.lt
  have hB5 := hB.trans (hkeep.mono hB.size)
  have hne : w.heap.size + 1 ≠ Bv ∨ True := .inr trivial
  have hlt5 := hC.lt
  have hNv := H5.num.set2 hC5 (.bool sv) (.slice av nv cv) (hf5.imp id fun h ad e => by have := h ad e; omega)
  have hBv := below_set2 hB5 (B := w.heap.size + 1) (by omega) (.bool sv) (.slice av nv cv)
  have hQv := hC5.set (.bool sv) (.slice av nv cv)
  have hw0 := hB.size
  have K := hide (And.intro hQv (And.intro hNv hBv))
  obtain ⟨p0, p1, -, -⟩ := H5.box
  obtain ⟨r0, r1, z0, z1⟩ := hC5
  clear hQv hNv hBv hne
  go_wp2
  obtain ⟨⟨q0, q1, -, -⟩, hNN, hBB⟩ := K.out
  exact bodyPost_ret (v := .agg #[.bool sv, .slice av nv cv]) (by simp [results, Tryz.results63, go_sem, q0, q1]) rfl ⟨sv, av, nv, cv, rfl, by rw [show -z = 0 - z by omega]; exact hNN, k5, hf5.imp id fun h ad e => Nat.le_trans hw0 (h ad e), hBB⟩
end Go.Proofs.YtikepnocefdmnaaGreatDoor

namespace Go.Proofs.YtikepnocefdmnaaGreatDoor
open Go.RowKit Go.Shelf

theorem Quad.set0 {w : World} {b : Nat} {v0 v1 v2 v3 : Value} (u0 u1 : Value) (h : Quad w b v0 v1 v2 v3) {W : World}
 (hW : (w.setCell ⟨b, 0, none⟩ u0).setCell ⟨b, 1, none⟩ u1 = W) : Quad W b u0 u1 v2 v3 ∧ Touch b 0 4 w W := by
 subst hW
 have ne : ∀ i j : Nat, i ≠ j → (⟨b, i, none⟩ : Addr) ≠ ⟨b, j, none⟩ := fun i j hij e => hij (by have := congrArg Addr.off e; simpa using this)
 have fz : ∀ k, ((w.setCell ⟨b, 0, none⟩ u0).setCell ⟨b, 1, none⟩ u1).frozen? ⟨b, k, none⟩ = w.frozen? ⟨b, k, none⟩ := fun k => by
  rw [World.frozen?_setCell, World.frozen?_setCell]
 refine ⟨⟨⟨?_, ?_, ?_, ?_⟩, (fz 0).trans h.z0, (fz 1).trans h.z1, (fz 2).trans h.z2, (fz 3).trans h.z3⟩, ?_⟩
 · rw [cell_setCell_ne _ _ _ _ (ne 0 1 (by decide)) rfl rfl]
   exact World.cell?_setCell_same' _ _ _ (by rw [h.four.c0]; rfl)
 · exact World.cell?_setCell_same' _ _ _ (by rw [cell_setCell_ne _ _ _ _ (ne 1 0 (by decide)) rfl rfl, h.four.c1]; rfl)
 · rw [cell_setCell_ne _ _ _ _ (ne 2 1 (by decide)) rfl rfl, cell_setCell_ne _ _ _ _ (ne 2 0 (by decide)) rfl rfl]; exact h.four.c2
 · rw [cell_setCell_ne _ _ _ _ (ne 3 1 (by decide)) rfl rfl, cell_setCell_ne _ _ _ _ (ne 3 0 (by decide)) rfl rfl]; exact h.four.c3
 · exact (Touch.setCell w u0 (Nat.le_refl _) (by omega)).trans (Touch.setCell _ u1 (by omega) (by omega))
theorem Quad.set2 {w : World} {b : Nat} {v0 v1 v2 v3 : Value} (u2 u3 : Value) (h : Quad w b v0 v1 v2 v3) {W : World}
 (hW : (w.setCell ⟨b, 2, none⟩ u2).setCell ⟨b, 3, none⟩ u3 = W) : Quad W b v0 v1 u2 u3 ∧ Touch b 0 4 w W := by
 subst hW
 have ne : ∀ i j : Nat, i ≠ j → (⟨b, i, none⟩ : Addr) ≠ ⟨b, j, none⟩ := fun i j hij e => hij (by have := congrArg Addr.off e; simpa using this)
 have fz : ∀ k, ((w.setCell ⟨b, 2, none⟩ u2).setCell ⟨b, 3, none⟩ u3).frozen? ⟨b, k, none⟩ = w.frozen? ⟨b, k, none⟩ := fun k => by
  rw [World.frozen?_setCell, World.frozen?_setCell]
 refine ⟨⟨⟨?_, ?_, ?_, ?_⟩, (fz 0).trans h.z0, (fz 1).trans h.z1, (fz 2).trans h.z2, (fz 3).trans h.z3⟩, ?_⟩
 · rw [cell_setCell_ne _ _ _ _ (ne 0 3 (by decide)) rfl rfl, cell_setCell_ne _ _ _ _ (ne 0 2 (by decide)) rfl rfl]; exact h.four.c0
 · rw [cell_setCell_ne _ _ _ _ (ne 1 3 (by decide)) rfl rfl, cell_setCell_ne _ _ _ _ (ne 1 2 (by decide)) rfl rfl]; exact h.four.c1
 · rw [cell_setCell_ne _ _ _ _ (ne 2 3 (by decide)) rfl rfl]
   exact World.cell?_setCell_same' _ _ _ (by rw [h.four.c2]; rfl)
 · exact World.cell?_setCell_same' _ _ _ (by rw [cell_setCell_ne _ _ _ _ (ne 3 2 (by decide)) rfl rfl, h.four.c3]; rfl)
 · exact (Touch.setCell w u2 (by omega) (by omega)).trans (Touch.setCell _ u3 (by omega) (by omega))
set_option maxRecDepth 100000 in
set_option maxHeartbeats 16000000 in
theorem rofR_neg (s1 s2 : Bool) (a1 a2 : Option Addr) (n1 n2 c1 c2 : Nat) (n d : Int) (k1 : n1 ≤ 64) (k2 : n2 ≤ 64) (l1 : n1 ≤ c1) (l2 : n2 ≤ c2) (hd0 : d < 0) (w : World) (h1 : IsN w s1 a1 n1 n) (h2 : IsN w s2 a2 n2 d) :
 Calls Tryz.prog 25 #[.agg #[.bool s1, .slice a1 n1 c1], .agg #[.bool s2, .slice a2 n2 c2]] w (RatPost w (some (Rat.divInt n d))) := by
 have HD := hide hd0
 have HZ : Hid (((Int.gcd n d : Nat) : Int) ≠ 0) := hide fun e => by
  have h : Int.gcd n d ≠ 0 := fun h => by have := (Int.gcd_eq_zero_iff.1 h).2; omega
  omega
 have HC : Hid (cmpZ d 0 = -1) := hide (by unfold cmpZ; rw [if_pos (by omega)])
 have HR : Hid (-(n / ((Int.gcd n d : Nat) : Int)) = (Rat.divInt n d).num ∧ -(d / ((Int.gcd n d : Nat) : Int)) = ((Rat.divInt n d).den : Int)) := hide (by
  obtain ⟨e1, e2⟩ := rat_divInt n d (by omega)
  rw [show ofG n d = -((Int.gcd n d : Nat) : Int) from if_pos hd0] at e1 e2
  rw [Int.ediv_neg] at e1 e2
  exact ⟨e1.symm, e2.symm⟩)
 obtain ⟨g, hg⟩ : ∃ g, ((Int.gcd n d : Nat) : Int) = g := ⟨_, rfl⟩
 rw [hg] at HZ HR
 have HG := hide hg
 clear hd0 hg
 go_enter Tryz.func25, Tryz.ntmps25
 go_wp2_with fail
 obtain ⟨W1, hW1⟩ : ∃ W1, ((w.alloc (Obj.cells #[.bool s1, .slice a1 n1 c1] 25)).alloc (Obj.cells #[.bool s2, .slice a2 n2 c2] 25)).alloc (Obj.cells #[.bool false, .slice none 0 0, .bool false, .slice none 0 0] 27) = W1 := ⟨_, rfl⟩
 obtain ⟨bA, bB, qC, hB⟩ := rof_boxes w _ _ _ _ _ _ hW1
 have h1 := h1.below hB
 have h2 := h2.below hB
 try rw [hW1]
 clear hW1
 have hB := hB.drew
 have h1 := h1.below (Below.drew (Below.refl W1.heap.size W1))
 have h2 := h2.below (Below.drew (Below.refl W1.heap.size W1))
 have bA : Box2 W1.drew _ _ _ := bA.below (Below.drew (Below.refl _ _)) bA.lt
 have bB : Box2 W1.drew _ _ _ := bB.below (Below.drew (Below.refl _ _)) bB.lt
 have qC := qC.below (Below.drew (Below.refl W1.heap.size W1))
 refine wp_region_held_drew (S := fun w' => Below (W1.drew.heap.size) W1.drew w') (by kernel_rfl) (Below.refl _ _) (fun hHeld => ?_)
 obtain ⟨WE, hWE⟩ : ∃ W, W1.drew = W := ⟨_, rfl⟩
 rw [hWE] at hB h1 h2 bA bB qC hHeld ⊢
 clear hWE
 have hE := Below.refl WE.heap.size WE
 have lA := bA.lt
 have lB := bB.lt
 obtain ⟨x10, x11, -, -⟩ := id bA
 obtain ⟨x20, x21, -, -⟩ := id bB
 refine tk 0 (.agg #[.bool s1, .slice a1 n1 c1]) 9 rfl rfl ?_ (Or.inl ⟨by rfl, fun w' hSw => by have q0 := (hSw.cell (p := ⟨w.heap.size, 0, none⟩) lA).trans x10; have q1 := (hSw.cell (p := ⟨w.heap.size, 1, none⟩) lA).trans x11; go_simp⟩)
 simp only [Act.put, pA, pB, pC]
 refine wpAnyH_one 1 (by kernel_rfl) ?_
 refine wpOp_call (i := 1) (f := 67) (args := #[.agg #[.bool s1, .slice a1 n1 c1]]) 10 rfl rfl (by rfl) (by go_simp) ?_
 refine (rright_yes s1 a1 n1 c1 n k1 WE h1).mono ?_
 rintro e r1 ⟨rfl, hk⟩
 have hE := hE.trans (hk.mono hE.size)
 have h1 := h1.below hk
 have h2 := h2.below hk
 have qC := qC.below hk
 have bA := bA.below hk bA.lt
 have bB := bB.below hk bB.lt
 refine ⟨_, rfl, hE, ?_⟩
 simp only [Act.put, pA, pB, pC]
 refine tk 2 (.bool false) 11 rfl rfl ?_
 simp only [Act.put, pA, pB, pC]
 refine tk 3 (.bool false) 12 rfl rfl ?_
 simp only [Act.put, pA, pB, pC]
 refine tk 4 (.agg #[.bool s2, .slice a2 n2 c2]) 13 rfl rfl ?_ (Or.inl ⟨by rfl, fun w' hSw => by have q0 := (hSw.cell (p := ⟨w.heap.size + 1, 0, none⟩) lB).trans x20; have q1 := (hSw.cell (p := ⟨w.heap.size + 1, 1, none⟩) lB).trans x21; go_simp⟩)
 simp only [Act.put, pA, pB, pC]
 refine wpAnyH_one 5 (by kernel_rfl) ?_
 refine wpOp_call (i := 5) (f := 67) (args := #[.agg #[.bool s2, .slice a2 n2 c2]]) 14 rfl rfl (by rfl) (by go_simp) ?_
 refine (rright_yes s2 a2 n2 c2 d k2 r1 h2).mono ?_
 rintro e r2 ⟨rfl, hk⟩
 have hE := hE.trans (hk.mono hE.size)
 have h1 := h1.below hk
 have h2 := h2.below hk
 have qC := qC.below hk
 have bA := bA.below hk bA.lt
 have bB := bB.below hk bB.lt
 refine ⟨_, rfl, hE, ?_⟩
 simp only [Act.put, pA, pB, pC]
 refine tk 6 (.bool false) 15 rfl rfl ?_
 simp only [Act.put, pA, pB, pC]
 refine tk 7 (.bool false) 16 rfl rfl ?_
 simp only [Act.put, pA, pB, pC]
 refine tk 8 (.bool false) 17 rfl rfl ?_
 simp only [Act.put, pA, pB, pC]
 refine tk 9 (.agg #[.bool s2, .slice a2 n2 c2]) 18 rfl rfl ?_ (Or.inl ⟨by rfl, fun w' hSw => by have q0 := (hSw.cell (p := ⟨w.heap.size + 1, 0, none⟩) lB).trans x20; have q1 := (hSw.cell (p := ⟨w.heap.size + 1, 1, none⟩) lB).trans x21; go_simp⟩)
 simp only [Act.put, pA, pB, pC]
 refine wpAnyH_one 10 (by kernel_rfl) ?_
 refine wpOp_call (i := 10) (f := 55) (args := #[.int .i64 0]) 19 rfl rfl (by rfl) (by go_simp) ?_
 refine (whole_r 0 (by decide) (by decide) r2).mono ?_
 rintro e r3 ⟨s6, a6, n6, c6, rfl, N6, k6, -, hk⟩
 have hE := hE.trans (hk.mono hE.size)
 have h1 := h1.below hk
 have h2 := h2.below hk
 have qC := qC.below hk
 have bA := bA.below hk bA.lt
 have bB := bB.below hk bB.lt
 refine ⟨_, rfl, hE, ?_⟩
 simp only [Act.put, pA, pB, pC]
 refine wpAnyH_one 11 (by kernel_rfl) ?_
 have cc := rcmp_any s2 s6 a2 a6 n2 n6 c2 c6 d 0 k2 k6 r3 h2 N6
 rw [HC.out] at cc
 refine wpOp_call (i := 11) (f := 54) (args := #[.agg #[.bool s2, .slice a2 n2 c2], .agg #[.bool s6, .slice a6 n6 c6]]) 20 rfl rfl (by rfl) (by go_simp) ?_
 refine (cc).mono ?_
 rintro e r4 ⟨rfl, hk⟩
 clear cc
 have hE := hE.trans (hk.mono hE.size)
 have h1 := h1.below hk
 have h2 := h2.below hk
 have qC := qC.below hk
 have N6 := N6.below hk
 have bA := bA.below hk bA.lt
 have bB := bB.below hk bB.lt
 clear N6
 refine ⟨_, rfl, hE, ?_⟩
 simp only [Act.put, pA, pB, pC]
 refine tk 12 (.bool false) 21 rfl rfl ?_
 simp only [Act.put, pA, pB, pC]
 refine tk 13 (.bool false) 22 rfl rfl ?_
 simp only [Act.put, pA, pB, pC]
 refine wpAnyH_done (by kernel_rfl) ?_ _
 clear x10 x11 x20 x21 lA lB
 have hB := hB.trans (hE.mono hB.size)
 clear hE hHeld
 obtain ⟨x10, x11, -, -⟩ := id bA
 obtain ⟨x20, x21, -, -⟩ := id bB
 go_wp2_with fail
 clear x10 x11 x20 x21
 have cc := rgcd_num s1 s2 a1 a2 n1 n2 c1 c2 n d k1 k2 l1 l2 r4 h1 h2
 rw [HG.out] at cc
 refine cc.mono ?_
 clear cc
 rintro e u1 ⟨s6, a6, n6, c6, rfl, N6, -, hk⟩
 have k6 : n6 ≤ 64 := by rw [N6.dig.len, ← HG.out]; exact gcd_fit h1 h2 k1 k2
 have hB := hB.trans (hk.mono hB.size)
 have h1 := h1.below hk
 have h2 := h2.below hk
 have bA := bA.below hk bA.lt
 have bB := bB.below hk bB.lt
 have qC := qC.below hk
 clear hk
 obtain ⟨Z6, hZ6⟩ : ∃ Z, u1.alloc (Obj.cells #[.bool false, .slice none 0 0] 25) = Z := ⟨_, rfl⟩
 obtain ⟨W6, hW6⟩ : ∃ W, (Z6.setCell ⟨u1.heap.size, 0, none⟩ (.bool s6)).setCell ⟨u1.heap.size, 1, none⟩ (.slice a6 n6 c6) = W := ⟨_, rfl⟩
 obtain ⟨H6, hk, bx6⟩ := num_new (c := c6) hZ6 hW6 N6
 clear N6
 obtain ⟨B6, hB6⟩ : ∃ B, u1.heap.size = B := ⟨_, rfl⟩
 have lq6 := qC.lt
 rw [hB6] at lq6
 have hB := hB.trans (hk.mono hB.size)
 have h1 := h1.below hk
 have h2 := h2.below hk
 have bA := bA.below hk bA.lt
 have bB := bB.below hk bB.lt
 have qC := qC.below hk
 clear hk
 rw [hB6] at hW6 H6 bx6
 obtain ⟨y60, y61, yz60, yz61⟩ := id bx6
 go_wp2_with fail
 try rw [hW6]
 try rw [hB6]
 clear hW6 hB6
 clear y60 y61 yz60 yz61
 have hB := hB.drew
 have h1 := h1.below (Below.drew (Below.refl W6.heap.size W6))
 have h2 := h2.below (Below.drew (Below.refl W6.heap.size W6))
 have H6 := H6.below (Below.drew (Below.refl W6.heap.size W6))
 have bA : Box2 W6.drew _ _ _ := bA.below (Below.drew (Below.refl _ _)) bA.lt
 have bB : Box2 W6.drew _ _ _ := bB.below (Below.drew (Below.refl _ _)) bB.lt
 have qC := qC.below (Below.drew (Below.refl W6.heap.size W6))
 refine wp_region_held_drew (S := fun w' => Below (B6 + 1) W6.drew w') (by kernel_rfl) (Below.refl _ _) (fun hHeld => ?_)
 obtain ⟨WF, hWE⟩ : ∃ W, W6.drew = W := ⟨_, rfl⟩
 rw [hWE] at hB h1 h2 H6 bA bB qC hHeld ⊢
 clear hWE
 have hE := Below.refl WF.heap.size WF
 have lS : B6 + 1 ≤ WF.heap.size := H6.box.lt
 have lG : B6 < B6 + 1 := by omega
 have lA : w.heap.size < B6 + 1 := by omega
 have lB : w.heap.size + 1 < B6 + 1 := by omega
 obtain ⟨x10, x11, -, -⟩ := id bA
 obtain ⟨x20, x21, -, -⟩ := id bB
 obtain ⟨x30, x31, -, -⟩ := id H6.box
 refine tk 0 (.agg #[.bool s1, .slice a1 n1 c1]) 30 rfl rfl ?_ (Or.inl ⟨by rfl, fun w' hSw => by have q0 := (hSw.cell (p := ⟨w.heap.size, 0, none⟩) lA).trans x10; have q1 := (hSw.cell (p := ⟨w.heap.size, 1, none⟩) lA).trans x11; go_simp⟩)
 simp only [Act.put, pA, pB, pC]
 refine tk 1 (.agg #[.bool s6, .slice a6 n6 c6]) 31 rfl rfl ?_ (Or.inl ⟨by rfl, fun w' hSw => by have q0 := (hSw.cell (p := ⟨B6, 0, none⟩) lG).trans x30; have q1 := (hSw.cell (p := ⟨B6, 1, none⟩) lG).trans x31; go_simp⟩)
 simp only [Act.put, pA, pB, pC]
 refine tk 3 (.agg #[.bool s2, .slice a2 n2 c2]) 33 rfl rfl ?_ (Or.inl ⟨by rfl, fun w' hSw => by have q0 := (hSw.cell (p := ⟨w.heap.size + 1, 0, none⟩) lB).trans x20; have q1 := (hSw.cell (p := ⟨w.heap.size + 1, 1, none⟩) lB).trans x21; go_simp⟩)
 simp only [Act.put, pA, pB, pC]
 refine tk 4 (.agg #[.bool s6, .slice a6 n6 c6]) 34 rfl rfl ?_ (Or.inl ⟨by rfl, fun w' hSw => by have q0 := (hSw.cell (p := ⟨B6, 0, none⟩) lG).trans x30; have q1 := (hSw.cell (p := ⟨B6, 1, none⟩) lG).trans x31; go_simp⟩)
 simp only [Act.put, pA, pB, pC]
 refine wpAnyH_twoR 2 7 (by kernel_rfl) ?g1 ?g2
 case' g1 =>
  refine wpOp_call (i := 2) (f := 61) (args := #[.agg #[.bool s1, .slice a1 n1 c1], .agg #[.bool s6, .slice a6 n6 c6]]) 32 rfl rfl (by rfl) (by go_simp) ?_
  refine (over_r s1 s6 a1 a6 n1 n6 c1 c6 n g k1 k6 l1 HZ WF h1 H6.num).mono ?_
  rintro e r1 ⟨s8, a8, n8, c8, rfl, N8, k8, hk⟩
  have hE := hE.trans (hk.mono hE.size)
  have h1 := h1.below hk
  have h2 := h2.below hk
  have H6 := H6.below hk
  have qC := qC.below hk
  have bB := bB.below hk bB.lt
  have hS : Below (B6 + 1) WF r1 := hE.mono lS
  refine ⟨_, rfl, hS, ?_⟩
  simp only [Act.put, pA, pB, pC]
  refine wpAnyH_twoR 5 7 (by kernel_rfl) ?g3 ?g4
  case' g3 =>
   refine wpOp_call (i := 5) (f := 61) (args := #[.agg #[.bool s2, .slice a2 n2 c2], .agg #[.bool s6, .slice a6 n6 c6]]) 35 rfl rfl (by rfl) (by go_simp) ?_
   refine (over_r s2 s6 a2 a6 n2 n6 c2 c6 d g k2 k6 l2 HZ r1 h2 H6.num).mono ?_
   rintro e r2 ⟨s9, a9, n9, c9, rfl, N9, k9, hk⟩
   have hE := hE.trans (hk.mono hE.size)
   have h1 := h1.below hk
   have h2 := h2.below hk
   have H6 := H6.below hk
   have qC := qC.below hk
   have N8 := N8.below hk
   have bB := bB.below hk bB.lt
   have hS : Below (B6 + 1) WF r2 := hE.mono lS
   refine ⟨_, rfl, hS, ?_⟩
   simp only [Act.put, pA, pB, pC]
   refine tk 6 (.agg #[.bool s8, .slice a8 n8 c8, .bool s9, .slice a9 n9 c9]) 36 rfl rfl ?_
   simp only [Act.put, pA, pB, pC]
   refine wpAnyH_one 7 (by kernel_rfl) ?_
   refine wpOp_run (i := 7) rfl ?_
   go_simp
   have qr := Quad.new r2 (Value.bool false) (Value.slice none 0 0) (Value.bool false) (Value.slice none 0 0) 27
   have hk := below_alloc' r2 (Obj.cells #[.bool false, .slice none 0 0, .bool false, .slice none 0 0] 27)
   obtain ⟨r3, hw⟩ : ∃ W, r2.alloc (Obj.cells #[.bool false, .slice none 0 0, .bool false, .slice none 0 0] 27) = W := ⟨_, rfl⟩
   obtain ⟨bqr, hbb⟩ : ∃ b, r2.heap.size = b := ⟨_, rfl⟩
   have gqr : WF.heap.size ≤ bqr := by rw [← hbb]; exact hE.size
   rw [hw] at hk qr ⊢
   have hE := hE.trans (hk.mono hE.size)
   have h1 := h1.below hk
   have h2 := h2.below hk
   have H6 := H6.below hk
   have qC := qC.below hk
   have N8 := N8.below hk
   have N9 := N9.below hk
   have bB := bB.below hk bB.lt
   rw [hbb] at qr ⊢
   clear hw hbb hk
   have hS : Below (B6 + 1) WF r3 := hE.mono lS
   refine ⟨hS, ?_⟩
   refine wpAnyH_one 8 (by kernel_rfl) ?_
   obtain ⟨Wz, hWz⟩ : ∃ W, (((r3.setCell ⟨bqr, 0, none⟩ (.bool s8)).setCell ⟨bqr, 1, none⟩ (.slice a8 n8 c8)).setCell ⟨bqr, 2, none⟩ (.bool s9)).setCell ⟨bqr, 3, none⟩ (.slice a9 n9 c9) = W := ⟨_, rfl⟩
   have lqr : w.heap.size + 1 + 1 < bqr := by omega
   obtain ⟨hQ, hT⟩ := qr.set _ _ _ _ hWz
   have qC := qC.touch (by omega) hT
   have bB' : Box2 Wz (w.heap.size + 1) (.bool s2) (.slice a2 n2 c2) := by
    have hb := hT.block (w.heap.size + 1) bB.lt (by omega)
    exact ⟨(cell_of_block_eq hb _).trans bB.c0, (cell_of_block_eq hb _).trans bB.c1, (frozen_of_block_eq hb _).trans bB.z0, (frozen_of_block_eq hb _).trans bB.z1⟩
   have N8 := N8.quad qr.four hT
   have N9 := N9.quad qr.four hT
   have h2 := h2.quad qr.four hT
   have hSz : Below WF.heap.size WF ((((r3.setCell ⟨bqr, 0, none⟩ (.bool s8)).setCell ⟨bqr, 1, none⟩ (.slice a8 n8 c8)).setCell ⟨bqr, 2, none⟩ (.bool s9)).setCell ⟨bqr, 3, none⟩ (.slice a9 n9 c9)) := below_set4 hE gqr _ _ _ _
   have hS := hSz.mono lS
   have HWz := hide hWz
   have K := hide (And.intro hQ (And.intro qC (And.intro bB' (And.intro N8 (And.intro N9 (And.intro h2 hSz))))))
   clear hWz hT hQ bB' N8 N9 h2
   obtain ⟨⟨x90, x91, x92, x93⟩, z90, z91, z92, z93⟩ := id qr
   refine wpOp_run (i := 8) rfl ?_
   go_simp
   refine wpAnyH_done (by kernel_rfl) ?_ _
   obtain ⟨we1, rfl⟩ : ∃ W, W = r3 := ⟨_, rfl⟩
  case' g4 =>
   refine wpOp_run (i := 7) rfl ?_
   go_simp
   have qr := Quad.new r1 (Value.bool false) (Value.slice none 0 0) (Value.bool false) (Value.slice none 0 0) 27
   have hk := below_alloc' r1 (Obj.cells #[.bool false, .slice none 0 0, .bool false, .slice none 0 0] 27)
   obtain ⟨r4, hw⟩ : ∃ W, r1.alloc (Obj.cells #[.bool false, .slice none 0 0, .bool false, .slice none 0 0] 27) = W := ⟨_, rfl⟩
   obtain ⟨bqr, hbb⟩ : ∃ b, r1.heap.size = b := ⟨_, rfl⟩
   have gqr : WF.heap.size ≤ bqr := by rw [← hbb]; exact hE.size
   rw [hw] at hk qr ⊢
   have hE := hE.trans (hk.mono hE.size)
   have h1 := h1.below hk
   have h2 := h2.below hk
   have H6 := H6.below hk
   have qC := qC.below hk
   have N8 := N8.below hk
   have bB := bB.below hk bB.lt
   rw [hbb] at qr ⊢
   clear hw hbb hk
   have hS : Below (B6 + 1) WF r4 := hE.mono lS
   refine ⟨hS, ?_⟩
   refine wpAnyH_one 5 (by kernel_rfl) ?_
   refine wpOp_call (i := 5) (f := 61) (args := #[.agg #[.bool s2, .slice a2 n2 c2], .agg #[.bool s6, .slice a6 n6 c6]]) 35 rfl rfl (by rfl) (by go_simp) ?_
   refine (over_r s2 s6 a2 a6 n2 n6 c2 c6 d g k2 k6 l2 HZ r4 h2 H6.num).mono ?_
   rintro e r5 ⟨s9, a9, n9, c9, rfl, N9, k9, hk⟩
   have hE := hE.trans (hk.mono hE.size)
   have h1 := h1.below hk
   have h2 := h2.below hk
   have H6 := H6.below hk
   have qC := qC.below hk
   have N8 := N8.below hk
   have qr := qr.below hk
   have bB := bB.below hk bB.lt
   have hS : Below (B6 + 1) WF r5 := hE.mono lS
   refine ⟨_, rfl, hS, ?_⟩
   simp only [Act.put, pA, pB, pC]
   refine tk 6 (.agg #[.bool s8, .slice a8 n8 c8, .bool s9, .slice a9 n9 c9]) 36 rfl rfl ?_
   simp only [Act.put, pA, pB, pC]
   refine wpAnyH_one 8 (by kernel_rfl) ?_
   obtain ⟨Wz, hWz⟩ : ∃ W, (((r5.setCell ⟨bqr, 0, none⟩ (.bool s8)).setCell ⟨bqr, 1, none⟩ (.slice a8 n8 c8)).setCell ⟨bqr, 2, none⟩ (.bool s9)).setCell ⟨bqr, 3, none⟩ (.slice a9 n9 c9) = W := ⟨_, rfl⟩
   have lqr : w.heap.size + 1 + 1 < bqr := by omega
   obtain ⟨hQ, hT⟩ := qr.set _ _ _ _ hWz
   have qC := qC.touch (by omega) hT
   have bB' : Box2 Wz (w.heap.size + 1) (.bool s2) (.slice a2 n2 c2) := by
    have hb := hT.block (w.heap.size + 1) bB.lt (by omega)
    exact ⟨(cell_of_block_eq hb _).trans bB.c0, (cell_of_block_eq hb _).trans bB.c1, (frozen_of_block_eq hb _).trans bB.z0, (frozen_of_block_eq hb _).trans bB.z1⟩
   have N8 := N8.quad qr.four hT
   have N9 := N9.quad qr.four hT
   have h2 := h2.quad qr.four hT
   have hSz : Below WF.heap.size WF ((((r5.setCell ⟨bqr, 0, none⟩ (.bool s8)).setCell ⟨bqr, 1, none⟩ (.slice a8 n8 c8)).setCell ⟨bqr, 2, none⟩ (.bool s9)).setCell ⟨bqr, 3, none⟩ (.slice a9 n9 c9)) := below_set4 hE gqr _ _ _ _
   have hS := hSz.mono lS
   have HWz := hide hWz
   have K := hide (And.intro hQ (And.intro qC (And.intro bB' (And.intro N8 (And.intro N9 (And.intro h2 hSz))))))
   clear hWz hT hQ bB' N8 N9 h2
   obtain ⟨⟨x90, x91, x92, x93⟩, z90, z91, z92, z93⟩ := id qr
   refine wpOp_run (i := 8) rfl ?_
   go_simp
   refine wpAnyH_done (by kernel_rfl) ?_ _
   obtain ⟨we1, rfl⟩ : ∃ W, W = r5 := ⟨_, rfl⟩
 case' g2 =>
  refine wpOp_run (i := 7) rfl ?_
  go_simp
  have qr := Quad.new WF (Value.bool false) (Value.slice none 0 0) (Value.bool false) (Value.slice none 0 0) 27
  have hk := below_alloc' WF (Obj.cells #[.bool false, .slice none 0 0, .bool false, .slice none 0 0] 27)
  obtain ⟨r6, hw⟩ : ∃ W, WF.alloc (Obj.cells #[.bool false, .slice none 0 0, .bool false, .slice none 0 0] 27) = W := ⟨_, rfl⟩
  obtain ⟨bqr, hbb⟩ : ∃ b, WF.heap.size = b := ⟨_, rfl⟩
  have gqr : WF.heap.size ≤ bqr := by rw [← hbb]; exact hE.size
  rw [hw] at hk qr ⊢
  have hE := hE.trans (hk.mono hE.size)
  have h1 := h1.below hk
  have h2 := h2.below hk
  have H6 := H6.below hk
  have qC := qC.below hk
  have bB := bB.below hk bB.lt
  rw [hbb] at qr ⊢
  clear hw hbb hk
  have hS : Below (B6 + 1) WF r6 := hE.mono lS
  refine ⟨hS, ?_⟩
  refine wpAnyH_one 2 (by kernel_rfl) ?_
  refine wpOp_call (i := 2) (f := 61) (args := #[.agg #[.bool s1, .slice a1 n1 c1], .agg #[.bool s6, .slice a6 n6 c6]]) 32 rfl rfl (by rfl) (by go_simp) ?_
  refine (over_r s1 s6 a1 a6 n1 n6 c1 c6 n g k1 k6 l1 HZ r6 h1 H6.num).mono ?_
  rintro e r7 ⟨s8, a8, n8, c8, rfl, N8, k8, hk⟩
  have hE := hE.trans (hk.mono hE.size)
  have h1 := h1.below hk
  have h2 := h2.below hk
  have H6 := H6.below hk
  have qC := qC.below hk
  have qr := qr.below hk
  have bB := bB.below hk bB.lt
  have hS : Below (B6 + 1) WF r7 := hE.mono lS
  refine ⟨_, rfl, hS, ?_⟩
  simp only [Act.put, pA, pB, pC]
  refine wpAnyH_one 5 (by kernel_rfl) ?_
  refine wpOp_call (i := 5) (f := 61) (args := #[.agg #[.bool s2, .slice a2 n2 c2], .agg #[.bool s6, .slice a6 n6 c6]]) 35 rfl rfl (by rfl) (by go_simp) ?_
  refine (over_r s2 s6 a2 a6 n2 n6 c2 c6 d g k2 k6 l2 HZ r7 h2 H6.num).mono ?_
  rintro e r8 ⟨s9, a9, n9, c9, rfl, N9, k9, hk⟩
  have hE := hE.trans (hk.mono hE.size)
  have h1 := h1.below hk
  have h2 := h2.below hk
  have H6 := H6.below hk
  have qC := qC.below hk
  have N8 := N8.below hk
  have qr := qr.below hk
  have bB := bB.below hk bB.lt
  have hS : Below (B6 + 1) WF r8 := hE.mono lS
  refine ⟨_, rfl, hS, ?_⟩
  simp only [Act.put, pA, pB, pC]
  refine tk 6 (.agg #[.bool s8, .slice a8 n8 c8, .bool s9, .slice a9 n9 c9]) 36 rfl rfl ?_
  simp only [Act.put, pA, pB, pC]
  refine wpAnyH_one 8 (by kernel_rfl) ?_
  obtain ⟨Wz, hWz⟩ : ∃ W, (((r8.setCell ⟨bqr, 0, none⟩ (.bool s8)).setCell ⟨bqr, 1, none⟩ (.slice a8 n8 c8)).setCell ⟨bqr, 2, none⟩ (.bool s9)).setCell ⟨bqr, 3, none⟩ (.slice a9 n9 c9) = W := ⟨_, rfl⟩
  have lqr : w.heap.size + 1 + 1 < bqr := by omega
  obtain ⟨hQ, hT⟩ := qr.set _ _ _ _ hWz
  have qC := qC.touch (by omega) hT
  have bB' : Box2 Wz (w.heap.size + 1) (.bool s2) (.slice a2 n2 c2) := by
   have hb := hT.block (w.heap.size + 1) bB.lt (by omega)
   exact ⟨(cell_of_block_eq hb _).trans bB.c0, (cell_of_block_eq hb _).trans bB.c1, (frozen_of_block_eq hb _).trans bB.z0, (frozen_of_block_eq hb _).trans bB.z1⟩
  have N8 := N8.quad qr.four hT
  have N9 := N9.quad qr.four hT
  have h2 := h2.quad qr.four hT
  have hSz : Below WF.heap.size WF ((((r8.setCell ⟨bqr, 0, none⟩ (.bool s8)).setCell ⟨bqr, 1, none⟩ (.slice a8 n8 c8)).setCell ⟨bqr, 2, none⟩ (.bool s9)).setCell ⟨bqr, 3, none⟩ (.slice a9 n9 c9)) := below_set4 hE gqr _ _ _ _
  have hS := hSz.mono lS
  have HWz := hide hWz
  have K := hide (And.intro hQ (And.intro qC (And.intro bB' (And.intro N8 (And.intro N9 (And.intro h2 hSz))))))
  clear hWz hT hQ bB' N8 N9 h2
  obtain ⟨⟨x90, x91, x92, x93⟩, z90, z91, z92, z93⟩ := id qr
  refine wpOp_run (i := 8) rfl ?_
  go_simp
  refine wpAnyH_done (by kernel_rfl) ?_ _
  obtain ⟨we1, rfl⟩ : ∃ W, W = r8 := ⟨_, rfl⟩
 all_goals
  rw [HWz.out]
  obtain ⟨hQ, qC, bB, N8, N9, h2, hSz⟩ := K.out
  rw [HWz.out] at hSz
  clear K HWz hE x90 x91 x92 x93 z90 z91 z92 z93 qr x10 x11 x20 x21 x30 x31 lA lB lG lS hS hHeld
  have hB := hB.trans (hSz.mono hB.size)
  clear hSz
  go_wp2_with fail
  have hB := hB.drew
  have N8 := N8.below (Below.drew (Below.refl Wz.heap.size Wz))
  have N9 := N9.below (Below.drew (Below.refl Wz.heap.size Wz))
  have h2 := h2.below (Below.drew (Below.refl Wz.heap.size Wz))
  have hQ := hQ.below (Below.drew (Below.refl Wz.heap.size Wz))
  have bB : Box2 Wz.drew _ _ _ := bB.below (Below.drew (Below.refl _ _)) bB.lt
  have qC := qC.below (Below.drew (Below.refl Wz.heap.size Wz))
  refine wp_region_held_drew (S := fun w' => Below (Wz.drew.heap.size) Wz.drew w') (by kernel_rfl) (Below.refl _ _) (fun hHeld => ?_)
  obtain ⟨WG, hWE⟩ : ∃ W, Wz.drew = W := ⟨_, rfl⟩
  rw [hWE] at hB N8 N9 h2 hQ bB qC hHeld ⊢
  clear hWE
  have hE := Below.refl WG.heap.size WG
  have lB := bB.lt
  obtain ⟨x20, x21, -, -⟩ := id bB
  refine tk 0 (.agg #[.bool s2, .slice a2 n2 c2]) 37 rfl rfl ?_ (Or.inl ⟨by rfl, fun w' hSw => by have q0 := (hSw.cell (p := ⟨w.heap.size + 1, 0, none⟩) lB).trans x20; have q1 := (hSw.cell (p := ⟨w.heap.size + 1, 1, none⟩) lB).trans x21; go_simp⟩)
  simp only [Act.put, pA, pB, pC]
  refine wpAnyH_one 1 (by kernel_rfl) ?_
  refine wpOp_call (i := 1) (f := 55) (args := #[.int .i64 0]) 38 rfl rfl (by rfl) (by go_simp) ?_
  refine (whole_r 0 (by decide) (by decide) WG).mono ?_
  rintro e r1 ⟨s7, a7, n7, c7, rfl, N7, k7, -, hk⟩
  have hE := hE.trans (hk.mono hE.size)
  have N8 := N8.below hk
  have N9 := N9.below hk
  have h2 := h2.below hk
  have hQ := hQ.below hk
  have qC := qC.below hk
  refine ⟨_, rfl, hE, ?_⟩
  simp only [Act.put, pA, pB, pC]
  refine wpAnyH_one 2 (by kernel_rfl) ?_
  have cc := rcmp_any s2 s7 a2 a7 n2 n7 c2 c7 d 0 k2 k7 r1 h2 N7
  rw [HC.out] at cc
  refine wpOp_call (i := 2) (f := 54) (args := #[.agg #[.bool s2, .slice a2 n2 c2], .agg #[.bool s7, .slice a7 n7 c7]]) 39 rfl rfl (by rfl) (by go_simp) ?_
  refine (cc).mono ?_
  rintro e r2 ⟨rfl, hk⟩
  clear cc
  have hE := hE.trans (hk.mono hE.size)
  have N8 := N8.below hk
  have N9 := N9.below hk
  have h2 := h2.below hk
  have hQ := hQ.below hk
  have qC := qC.below hk
  have N7 := N7.below hk
  refine ⟨_, rfl, hE, ?_⟩
  simp only [Act.put, pA, pB, pC]
  refine tk 3 (.bool true) 40 rfl rfl ?_
  simp only [Act.put, pA, pB, pC]
  refine wpAnyH_done (by kernel_rfl) ?_ _
  clear x20 x21 lB
  have hB := hB.trans (hE.mono hB.size)
  clear hE hHeld bB h2
  have lqc := qC.lt
  have gq : w.heap.size + 1 + 1 < bqr := lqr
  obtain ⟨⟨x70, x71, x72, x73⟩, -, -, -, -⟩ := id hQ
  go_wp2_with fail
  clear x70 x71 x72 x73
  refine (ropp_r s8 a8 n8 c8 (n / g) k8 r2 N8).mono ?_
  rintro e v1 ⟨s11, a11, n11, c11, rfl, N11, k11, -, hk⟩
  have hB := hB.trans (hk.mono hB.size)
  have N8 := N8.below hk
  have N9 := N9.below hk
  have hQ := hQ.below hk
  have qC := qC.below hk
  clear hk
  clear N8
  obtain ⟨V1, hV1⟩ : ∃ W, (v1.setCell ⟨bqr, 0, none⟩ (.bool s11)).setCell ⟨bqr, 1, none⟩ (.slice a11 n11 c11) = W := ⟨_, rfl⟩
  obtain ⟨hQn, hT⟩ := hQ.set0 _ _ hV1
  have qC := qC.touch (Nat.ne_of_lt gq) hT
  have hB : Below w.heap.size w V1 := by rw [← hV1]; exact (hB.setCell (p := ⟨bqr, 0, none⟩) (by show w.heap.size ≤ bqr; omega) _).setCell (p := ⟨bqr, 1, none⟩) (by show w.heap.size ≤ bqr; omega) _
  have N9 := N9.quad hQ.four hT
  have N11 := N11.quad hQ.four hT
  have ho := id hQ
  have hQ := hQn
  clear hQn hT
  obtain ⟨⟨x80, x81, x82, x83⟩, z80, z81, z82, z83⟩ := id ho
  obtain ⟨⟨x70, x71, x72, x73⟩, -, -, -, -⟩ := id hQ
  go_wp2_with fail
  try rw [hV1]
  clear hV1
  clear x80 x81 x82 x83 z80 z81 z82 z83 x70 x71 x72 x73
  clear ho
  refine (ropp_r s9 a9 n9 c9 (d / g) k9 V1 N9).mono ?_
  rintro e v2 ⟨s12, a12, n12, c12, rfl, N12, k12, -, hk⟩
  have hB := hB.trans (hk.mono hB.size)
  have N9 := N9.below hk
  have hQ := hQ.below hk
  have qC := qC.below hk
  have N11 := N11.below hk
  clear hk
  clear N9
  obtain ⟨V2, hV2⟩ : ∃ W, (v2.setCell ⟨bqr, 2, none⟩ (.bool s12)).setCell ⟨bqr, 3, none⟩ (.slice a12 n12 c12) = W := ⟨_, rfl⟩
  obtain ⟨hQn, hT⟩ := hQ.set2 _ _ hV2
  have qC := qC.touch (Nat.ne_of_lt gq) hT
  have hB : Below w.heap.size w V2 := by rw [← hV2]; exact (hB.setCell (p := ⟨bqr, 2, none⟩) (by show w.heap.size ≤ bqr; omega) _).setCell (p := ⟨bqr, 3, none⟩) (by show w.heap.size ≤ bqr; omega) _
  have N11 := N11.quad hQ.four hT
  have N12 := N12.quad hQ.four hT
  have ho := id hQ
  have hQ := hQn
  clear hQn hT
  have P1 := N11
  have P2 := N12
  obtain ⟨Wz, hWz⟩ : ∃ W, (((V2.setCell ⟨w.heap.size + 1 + 1, 0, none⟩ (.bool s11)).setCell ⟨w.heap.size + 1 + 1, 1, none⟩ (.slice a11 n11 c11)).setCell ⟨w.heap.size + 1 + 1, 2, none⟩ (.bool s12)).setCell ⟨w.heap.size + 1 + 1, 3, none⟩ (.slice a12 n12 c12) = W := ⟨_, rfl⟩
  obtain ⟨hQ, hT⟩ := qC.set _ _ _ _ hWz
  have hBz : Below w.heap.size w Wz := by rw [← hWz]; exact below_set4 hB (by omega) _ _ _ _
  have P1 := P1.quad qC.four hT
  have P2 := P2.quad qC.four hT
  have K := hide (And.intro hQ (And.intro P1 (And.intro P2 hBz)))
  have HWz := hide hWz
  clear hQ hBz hWz hT P1 P2
  obtain ⟨⟨x90, x91, x92, x93⟩, z90, z91, z92, z93⟩ := id qC
  obtain ⟨⟨x70, x71, x72, x73⟩, -, -, -, -⟩ := id hQ
  obtain ⟨⟨x60, x61, x62, x63⟩, z60, z61, z62, z63⟩ := id ho
  go_wp2
  try rw [hV2]
  obtain ⟨⟨⟨q0, q1, q2, q3⟩, -, -, -, -⟩, P1, P2, hBB⟩ := K.out
  rw [HWz.out]
  exact bodyPost_ret (v := .tuple #[.agg #[.bool s11, .slice a11 n11 c11, .bool s12, .slice a12 n12 c12], .bool true]) (by simp [results, Tryz.results25, go_sem, q0, q1, q2, q3]) rfl ⟨_, _, _, _, _, _, _, _, rfl, by rw [HR.out.1] at P1; exact P1, by rw [HR.out.2] at P2; exact P2, k11, k12, hBB⟩
theorem rofR_any (s1 s2 : Bool) (a1 a2 : Option Addr) (n1 n2 c1 c2 : Nat) (n d : Int) (k1 : n1 ≤ 64) (k2 : n2 ≤ 64) (l1 : n1 ≤ c1) (l2 : n2 ≤ c2) (hd : d ≠ 0) (w : World) (h1 : IsN w s1 a1 n1 n) (h2 : IsN w s2 a2 n2 d) :
 Calls Tryz.prog 25 #[.agg #[.bool s1, .slice a1 n1 c1], .agg #[.bool s2, .slice a2 n2 c2]] w (RatPost w (some (Rat.divInt n d))) := by
 by_cases h : 0 < d
 · exact rofR_pos s1 s2 a1 a2 n1 n2 c1 c2 n d k1 k2 l1 l2 h w h1 h2
 · exact rofR_neg s1 s2 a1 a2 n1 n2 c1 c2 n d k1 k2 l1 l2 (by omega) w h1 h2
end Go.Proofs.YtikepnocefdmnaaGreatDoor

