/- ratio's opposite. -/
import Derived.Test.YtgenaicmjddjcaaGreatDoorRaA
namespace Go.Proofs.YtgenaicmjddjcaaGreatDoor
open Go.RowKit Go.Shelf

theorem wpAnyH_twoR {P : Program} {md : Region.Mode} {ops : Array Oper} {Q : Exit → Act → World → Prop} {S : World → Prop} {fuel : Nat} {l : Array Bool} {a : Act} {w : World} (i j : Nat) (hr : Region.ready md ops l = [i, j])
 (h : wpOp P ops Q i (fun a' w' => S w' ∧ wpAnyH P md ops Q S fuel (l.setIfInBounds i true) a' w') a w) (h' : wpOp P ops Q j (fun a' w' => S w' ∧ wpAnyH P md ops Q S fuel (l.setIfInBounds j true) a' w') a w) : wpAnyH P md ops Q S (fuel + 1) l a w := by
 refine ⟨fun h0 => ?_, fun k hk => ?_⟩
 · rw [hr] at h0; cases h0
 · rw [hr] at hk
   rcases List.mem_cons.1 hk with rfl | hk
   · exact h
   · obtain rfl : k = j := by simpa using hk
     exact h'
def OnePost (w : World) (z : Int) (e : Ending) (w' : World) : Prop :=
 ∃ (s : Bool) (a : Option Addr) (n c : Nat), e = .returned (.agg #[.bool s, .slice a n c]) ∧ IsN w' s a n z ∧ n ≤ 64 ∧ (n = 0 ∨ Fresh w a) ∧ Below w.heap.size w w'

set_option maxRecDepth 100000 in
set_option maxHeartbeats 4000000 in
theorem opposite_any (s : Bool) (a : Option Addr) (n c : Nat) (z : Int) (hn : n ≤ 64) (w : World) (h : IsN w s a n z) :
 Calls Tryz.prog 86 #[.agg #[.bool s, .slice a n c]] w (OnePost w (-z)) := by
 have hfit : dlen (0 - z).natAbs ≤ 64 := by rw [show (0 - z).natAbs = z.natAbs by omega, ← h.dig.len]; exact hn
 go_enter Tryz.func86, Tryz.ntmps86
 go_wp2_with fail
 have hB := (below_alloc w (Obj.cells #[.bool s, .slice a n c] 25)).trans ((below_alloc _ (Obj.cells #[.bool false, .slice none 0 0] 25)).mono (by simp))
 have hX : Box2 ((w.alloc (Obj.cells #[.bool s, .slice a n c] 25)).alloc (Obj.cells #[.bool false, .slice none 0 0] 25)) w.heap.size (.bool s) (.slice a n c) := (Box2.new w _ _ _).alloc _
 have hC : Box2 ((w.alloc (Obj.cells #[.bool s, .slice a n c] 25)).alloc (Obj.cells #[.bool false, .slice none 0 0] 25)) (w.heap.size + 1) (.bool false) (.slice none 0 0) := by
  have := Box2.new (w.alloc (Obj.cells #[.bool s, .slice a n c] 25)) (.bool false) (.slice none 0 0) 25
  rw [World.size_alloc] at this; exact this
 obtain ⟨W0, hW0⟩ : ∃ W0, (w.alloc (Obj.cells #[.bool s, .slice a n c] 25)).alloc (Obj.cells #[.bool false, .slice none 0 0] 25) = W0 := ⟨_, rfl⟩
 rw [hW0] at hB hX hC ⊢
 clear hW0
 have hB : Below w.heap.size w W0.drew := hB.drew
 have hX : Box2 W0.drew w.heap.size (.bool s) (.slice a n c) := hX.below (Below.drew (Below.refl _ _)) hX.lt
 have hC : Box2 W0.drew (w.heap.size + 1) (.bool false) (.slice none 0 0) := hC.below (Below.drew (Below.refl _ _)) hC.lt
 have hN := h.below hB
 obtain ⟨RR, hRR⟩ : ∃ RR : Act → World → Prop, RR = (fun x w' => ∃ (Bv : Nat) (sv : Bool) (av : Option Addr) (nv cv : Nat) (y5 y6 y7 y8 y9 y10 : Value), x = ⟨#[.agg #[.bool s, .slice a n c], .pointer (some ⟨w.heap.size, 0, none⟩), .pointer (some ⟨w.heap.size + 1, 0, none⟩), .pointer (some ⟨Bv, 0, none⟩), .bool true, y5, y6, y7, y8, y9, y10, undef], []⟩ ∧ Held w' Bv sv av nv cv (0 - z) ∧ nv ≤ 64 ∧ (nv = 0 ∨ ∀ ad, av = some ad → W0.drew.heap.size ≤ ad.block) ∧ Below W0.drew.heap.size W0.drew w') := ⟨_, rfl⟩
 have HRR := hide hRR
 clear hRR
 refine Code.wp_mono (Q := fun e x w' => e = Exit.normal ∧ RR x w') ?imp ?reg
 case reg =>
  refine wp_region_held_drew (S := fun w' => Below W0.drew.heap.size W0.drew w') (by kernel_rfl) (Below.refl _ _) (fun hHeld => ?_)
  obtain ⟨WE, hWE⟩ : ∃ WE, W0.drew = WE := ⟨_, rfl⟩
  rw [hWE] at hX hN hHeld HRR ⊢
  clear hWE
  have hlt := hX.lt
  obtain ⟨px, py, -, -⟩ := hX
  refine tk 1 (.agg #[.bool s, .slice a n c]) 7 rfl rfl ?_ (Or.inl ⟨by rfl, fun w' hSw => by have qa := (hSw.cell (p := ⟨w.heap.size, 0, none⟩) hlt).trans px; have qb := (hSw.cell (p := ⟨w.heap.size, 1, none⟩) hlt).trans py; go_simp⟩) (hQ := fun _ _ _ h => by cases h.1)
  simp only [Act.put, pA, pB, pC]
  refine wpAnyH_twoR 0 6 (by kernel_rfl) ?_ ?_
  · refine wpOp_call (i := 0) (f := 54) (args := #[.int .i64 0]) 6 rfl rfl (by rfl) (by go_simp) ?_
    refine (of_any 0 (by decide) (by decide) _).mono ?_
    rintro e wo ⟨so, ao, no, co, rfl, No, ko⟩
    have hbo : Below WE.heap.size WE wo := hHeld.trans (ko.mono hHeld.size)
    have kno : no ≤ 64 := by rw [No.dig.len]; exact Nat.le_trans (dlen_le_two (by decide)) (by decide)
    refine ⟨_, rfl, hbo, ?_⟩
    simp only [Act.put, pA, pB, pC]
    refine wpAnyH_twoR 2 6 (by kernel_rfl) ?_ ?_
    · refine wpOp_call (i := 2) (f := 53) (args := #[.agg #[.bool so, .slice ao no co], .agg #[.bool s, .slice a n c]]) 8 rfl rfl (by rfl) (by go_simp) ?_
      refine (sub_any so s ao a no n co c 0 z kno hn _ No (hN.below hbo) hfit).mono ?_
      rintro e wm ⟨sv, av, nv, cv, rfl, Nm, hfm, km⟩
      have hbm : Below WE.heap.size WE wm := hbo.trans (km.mono hbo.size)
      have knv : nv ≤ 64 := by rw [Nm.dig.len]; exact hfit
      have hfv : nv = 0 ∨ ∀ ad, av = some ad → WE.heap.size ≤ ad.block := hfm.imp id fun h ad e => Nat.le_trans hbo.size (h ad e)
      refine ⟨_, rfl, hbm, ?_⟩
      simp only [Act.put, pA, pB, pC]
      refine tk 3 (.tuple #[.agg #[.bool sv, .slice av nv cv], .bool true]) 5 rfl rfl ?_ (hQ := fun _ _ _ h => by cases h.1)
      simp only [Act.put, pA, pB, pC]
      refine tk 4 (.agg #[.bool sv, .slice av nv cv]) 9 rfl rfl ?_ (hQ := fun _ _ _ h => by cases h.1)
      simp only [Act.put, pA, pB, pC]
      refine tk 5 (.bool true) 10 rfl rfl ?_ (hQ := fun _ _ _ h => by cases h.1)
      simp only [Act.put, pA, pB, pC]
      refine wpAnyH_one 6 (by kernel_rfl) ?_
      have hold := Nm.old (Nat.le_refl _)
      refine wpOp_run (i := 6) rfl ?_
      go_simp
      have bx := Box2.new wm (.bool false) (.slice none 0 0) 25
      have hka := below_alloc' wm (Obj.cells #[.bool false, .slice none 0 0] 25)
      have hba : Below WE.heap.size WE (wm.alloc (Obj.cells #[.bool false, .slice none 0 0] 25)) := hbm.trans (hka.mono hbm.size)
      have hsa : (wm.alloc (Obj.cells #[.bool false, .slice none 0 0] 25)).heap.size = wm.heap.size + 1 := World.size_alloc _ _
      obtain ⟨wa, hwa⟩ : ∃ wa, wm.alloc (Obj.cells #[.bool false, .slice none 0 0] 25) = wa := ⟨_, rfl⟩
      rw [hwa] at bx hka hba hsa ⊢
      clear hwa
      refine ⟨hba, ?_⟩
      have Nm := Nm.below hka
      have hbx2 := bx.set (.bool sv) (.slice av nv cv)
      have hN2 := Nm.set2 bx (.bool sv) (.slice av nv cv) hold
      have hbf := below_set2 hba (B := wm.heap.size) hbm.size (.bool sv) (.slice av nv cv)
      have HQ := hide (And.intro hbx2 (And.intro hN2 hbf))
      obtain ⟨r0, r1, z0, z1⟩ := bx
      refine wpAnyH_one 7 (by kernel_rfl) ?_
      refine wpOp_run (i := 7) rfl ?_
      go_simp
      refine wpAnyH_one 8 (by kernel_rfl) ?_
      refine wpOp_run (i := 8) rfl ?_
      go_simp
      refine wpAnyH_done (by kernel_rfl) ?_ _
      refine ⟨rfl, ?_⟩
      rw [HRR.out]
      exact ⟨_, sv, av, nv, cv, _, _, _, _, _, _, rfl, ⟨HQ.out.1, HQ.out.2.1⟩, knv, hfv, HQ.out.2.2⟩
    · refine wpOp_run (i := 6) rfl ?_
      go_simp
      have bx := Box2.new wo (.bool false) (.slice none 0 0) 25
      have hka := below_alloc' wo (Obj.cells #[.bool false, .slice none 0 0] 25)
      have hba : Below WE.heap.size WE (wo.alloc (Obj.cells #[.bool false, .slice none 0 0] 25)) := hbo.trans (hka.mono hbo.size)
      have hsa : (wo.alloc (Obj.cells #[.bool false, .slice none 0 0] 25)).heap.size = wo.heap.size + 1 := World.size_alloc _ _
      obtain ⟨wa, hwa⟩ : ∃ wa, wo.alloc (Obj.cells #[.bool false, .slice none 0 0] 25) = wa := ⟨_, rfl⟩
      rw [hwa] at bx hka hba hsa ⊢
      clear hwa
      refine ⟨hba, ?_⟩
      have No := No.below hka
      refine wpAnyH_one 2 (by kernel_rfl) ?_
      refine wpOp_call (i := 2) (f := 53) (args := #[.agg #[.bool so, .slice ao no co], .agg #[.bool s, .slice a n c]]) 8 rfl rfl (by rfl) (by go_simp) ?_
      refine (sub_any so s ao a no n co c 0 z kno hn _ No (hN.below hba) hfit).mono ?_
      rintro e wm ⟨sv, av, nv, cv, rfl, Nm, hfm, km⟩
      have hbm : Below WE.heap.size WE wm := hba.trans (km.mono hba.size)
      have knv : nv ≤ 64 := by rw [Nm.dig.len]; exact hfit
      have hfv : nv = 0 ∨ ∀ ad, av = some ad → WE.heap.size ≤ ad.block := hfm.imp id fun h ad e => Nat.le_trans hba.size (h ad e)
      refine ⟨_, rfl, hbm, ?_⟩
      simp only [Act.put, pA, pB, pC]
      refine tk 3 (.tuple #[.agg #[.bool sv, .slice av nv cv], .bool true]) 5 rfl rfl ?_ (hQ := fun _ _ _ h => by cases h.1)
      simp only [Act.put, pA, pB, pC]
      refine tk 4 (.agg #[.bool sv, .slice av nv cv]) 9 rfl rfl ?_ (hQ := fun _ _ _ h => by cases h.1)
      simp only [Act.put, pA, pB, pC]
      refine tk 5 (.bool true) 10 rfl rfl ?_ (hQ := fun _ _ _ h => by cases h.1)
      simp only [Act.put, pA, pB, pC]
      have bx := bx.below km bx.lt
      have hbx2 := bx.set (.bool sv) (.slice av nv cv)
      have hN2 := Nm.set2 bx (.bool sv) (.slice av nv cv) (hfm.imp id fun h ad e => by have := h ad e; omega)
      have hbf := below_set2 hbm (B := wo.heap.size) hbo.size (.bool sv) (.slice av nv cv)
      have HQ := hide (And.intro hbx2 (And.intro hN2 hbf))
      obtain ⟨r0, r1, z0, z1⟩ := bx
      refine wpAnyH_one 7 (by kernel_rfl) ?_
      refine wpOp_run (i := 7) rfl ?_
      go_simp
      refine wpAnyH_one 8 (by kernel_rfl) ?_
      refine wpOp_run (i := 8) rfl ?_
      go_simp
      refine wpAnyH_done (by kernel_rfl) ?_ _
      refine ⟨rfl, ?_⟩
      rw [HRR.out]
      exact ⟨_, sv, av, nv, cv, _, _, _, _, _, _, rfl, ⟨HQ.out.1, HQ.out.2.1⟩, knv, hfv, HQ.out.2.2⟩
  · refine wpOp_run (i := 6) rfl ?_
    go_simp
    have bx := Box2.new WE (.bool false) (.slice none 0 0) 25
    have hka := below_alloc' WE (Obj.cells #[.bool false, .slice none 0 0] 25)
    have hba : Below WE.heap.size WE (WE.alloc (Obj.cells #[.bool false, .slice none 0 0] 25)) := hHeld.trans (hka.mono hHeld.size)
    have hsa : (WE.alloc (Obj.cells #[.bool false, .slice none 0 0] 25)).heap.size = WE.heap.size + 1 := World.size_alloc _ _
    obtain ⟨wa, hwa⟩ : ∃ wa, WE.alloc (Obj.cells #[.bool false, .slice none 0 0] 25) = wa := ⟨_, rfl⟩
    rw [hwa] at bx hka hba hsa ⊢
    clear hwa
    refine ⟨hba, ?_⟩
    refine wpAnyH_one 0 (by kernel_rfl) ?_
    refine wpOp_call (i := 0) (f := 54) (args := #[.int .i64 0]) 6 rfl rfl (by rfl) (by go_simp) ?_
    refine (of_any 0 (by decide) (by decide) _).mono ?_
    rintro e wo ⟨so, ao, no, co, rfl, No, ko⟩
    have hbo : Below WE.heap.size WE wo := hba.trans (ko.mono hba.size)
    have kno : no ≤ 64 := by rw [No.dig.len]; exact Nat.le_trans (dlen_le_two (by decide)) (by decide)
    refine ⟨_, rfl, hbo, ?_⟩
    simp only [Act.put, pA, pB, pC]
    have bx := bx.below ko bx.lt
    have hso := ko.size
    refine wpAnyH_one 2 (by kernel_rfl) ?_
    refine wpOp_call (i := 2) (f := 53) (args := #[.agg #[.bool so, .slice ao no co], .agg #[.bool s, .slice a n c]]) 8 rfl rfl (by rfl) (by go_simp) ?_
    refine (sub_any so s ao a no n co c 0 z kno hn _ No (hN.below hbo) hfit).mono ?_
    rintro e wm ⟨sv, av, nv, cv, rfl, Nm, hfm, km⟩
    have hbm : Below WE.heap.size WE wm := hbo.trans (km.mono hbo.size)
    have knv : nv ≤ 64 := by rw [Nm.dig.len]; exact hfit
    have hfv : nv = 0 ∨ ∀ ad, av = some ad → WE.heap.size ≤ ad.block := hfm.imp id fun h ad e => Nat.le_trans hbo.size (h ad e)
    refine ⟨_, rfl, hbm, ?_⟩
    simp only [Act.put, pA, pB, pC]
    refine tk 3 (.tuple #[.agg #[.bool sv, .slice av nv cv], .bool true]) 5 rfl rfl ?_ (hQ := fun _ _ _ h => by cases h.1)
    simp only [Act.put, pA, pB, pC]
    refine tk 4 (.agg #[.bool sv, .slice av nv cv]) 9 rfl rfl ?_ (hQ := fun _ _ _ h => by cases h.1)
    simp only [Act.put, pA, pB, pC]
    refine tk 5 (.bool true) 10 rfl rfl ?_ (hQ := fun _ _ _ h => by cases h.1)
    simp only [Act.put, pA, pB, pC]
    have bx := bx.below km bx.lt
    have hbx2 := bx.set (.bool sv) (.slice av nv cv)
    have hN2 := Nm.set2 bx (.bool sv) (.slice av nv cv) (hfm.imp id fun h ad e => by have := h ad e; omega)
    have hbf := below_set2 hbm (B := WE.heap.size) (Nat.le_refl _) (.bool sv) (.slice av nv cv)
    have HQ := hide (And.intro hbx2 (And.intro hN2 hbf))
    obtain ⟨r0, r1, z0, z1⟩ := bx
    refine wpAnyH_one 7 (by kernel_rfl) ?_
    refine wpOp_run (i := 7) rfl ?_
    go_simp
    refine wpAnyH_one 8 (by kernel_rfl) ?_
    refine wpOp_run (i := 8) rfl ?_
    go_simp
    refine wpAnyH_done (by kernel_rfl) ?_ _
    refine ⟨rfl, ?_⟩
    rw [HRR.out]
    exact ⟨_, sv, av, nv, cv, _, _, _, _, _, _, rfl, ⟨HQ.out.1, HQ.out.2.1⟩, knv, hfv, HQ.out.2.2⟩
 case imp =>
  rintro e x W5 ⟨rfl, hr⟩
  rw [HRR.out] at hr
  obtain ⟨Bv, sv, av, nv, cv, y5, y6, y7, y8, y9, y10, rfl, H5, k5, hf5, hkeep⟩ := hr
  clear HRR RR
  have hC5 := hC.below hkeep hC.lt
  have hB5 := hB.trans (hkeep.mono hB.size)
  have hne : w.heap.size + 1 ≠ Bv ∨ True := .inr trivial
  have hlt5 := hC.lt
  have hNv := H5.num.set2 hC5 (.bool sv) (.slice av nv cv) (hf5.imp id fun h ad e => by have := h ad e; omega)
  have hBv := below_set2 hB5 (B := w.heap.size + 1) (by omega) (.bool sv) (.slice av nv cv)
  have hQv := hC5.set (.bool sv) (.slice av nv cv)
  have hw0 := hB.size
  have K := hide (And.intro hQv (And.intro hNv hBv))
  obtain ⟨p0, p1, -, -⟩ := H5.box
  obtain ⟨r0, r1, z0, z1⟩ := hC5
  clear hQv hNv hBv hne
  go_wp2
  obtain ⟨⟨q0, q1, -, -⟩, hNN, hBB⟩ := K.out
  exact bodyPost_ret (v := .agg #[.bool sv, .slice av nv cv]) (by simp [results, Tryz.results86, go_sem, q0, q1]) rfl ⟨sv, av, nv, cv, rfl, by rw [show -z = 0 - z by omega]; exact hNN, k5, hf5.imp id fun h ad e => Nat.le_trans hw0 (h ad e), hBB⟩
end Go.Proofs.YtgenaicmjddjcaaGreatDoor
