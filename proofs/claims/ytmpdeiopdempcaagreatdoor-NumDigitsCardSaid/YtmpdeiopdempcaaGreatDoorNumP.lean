/- num's Cmp. -/
import Derived.Test.YtmpdeiopdempcaaGreatDoorNumM
namespace Go.Proofs.YtmpdeiopdempcaaGreatDoor
open Go.RowKit Go.Shelf

def cmpZ (x y : Int) : Int := if x < y then -1 else if x = y then 0 else 1
theorem cmpN_cast (x y : Nat) : cmpN x y = cmpZ (x : Int) (y : Int) := by
  unfold cmpN cmpZ
  rcases Nat.lt_trichotomy x y with h | h | h
  · rw [if_pos h, if_pos (by omega)]
  · subst h; simp
  · rw [if_neg (by omega), if_neg (by omega), if_neg (by omega), if_neg (by omega)]
theorem cmpZ_neg (x y : Int) : cmpZ (-y) (-x) = cmpZ x y := by
  unfold cmpZ
  by_cases h1 : x < y
  · rw [if_pos (by omega), if_pos h1]
  · rw [if_neg (by omega), if_neg h1]
    by_cases h2 : x = y
    · rw [if_pos (by omega), if_pos h2]
    · rw [if_neg (by omega), if_neg h2]

set_option maxRecDepth 100000 in
set_option maxHeartbeats 2000000 in
theorem cmp_any (sa sb : Bool) (aa ab : Option Addr) (na nb ca cb : Nat) (za zb : Int) (hna : na ≤ 64) (hnb : nb ≤ 64) (w : World) (ha : IsN w sa aa na za) (hb : IsN w sb ab nb zb) :
    Calls Tryz.prog 26 #[.agg #[.bool sa, .slice aa na ca], .agg #[.bool sb, .slice ab nb cb]] w fun e w' => e = .returned (.int .i64 (cmpZ za zb)) ∧ Below w.heap.size w w' := by
  have hpost : (sa = true ∧ sb = true ∧ cmpN zb.natAbs za.natAbs = cmpZ za zb) ∨ (sa = true ∧ sb = false ∧ cmpZ za zb = -1) ∨ (sa = false ∧ sb = true ∧ cmpZ za zb = 1) ∨ (sa = false ∧ sb = false ∧ cmpN za.natAbs zb.natAbs = cmpZ za zb) := by
    have h1 := ha.sign
    have h2 := hb.sign
    cases sa <;> cases sb
    · have e1 : ¬ za < 0 := by intro h; simp [h] at h1
      have e2 : ¬ zb < 0 := by intro h; simp [h] at h2
      refine .inr (.inr (.inr ⟨rfl, rfl, ?_⟩)); rw [cmpN_cast]; congr 1 <;> omega
    · have e1 : ¬ za < 0 := by intro h; simp [h] at h1
      have e2 : zb < 0 := by simpa using h2.symm
      refine .inr (.inr (.inl ⟨rfl, rfl, ?_⟩)); unfold cmpZ; rw [if_neg (by omega), if_neg (by omega)]
    · have e1 : za < 0 := by simpa using h1.symm
      have e2 : ¬ zb < 0 := by intro h; simp [h] at h2
      refine .inr (.inl ⟨rfl, rfl, ?_⟩); unfold cmpZ; rw [if_pos (by omega)]
    · have e1 : za < 0 := by simpa using h1.symm
      have e2 : zb < 0 := by simpa using h2.symm
      refine .inl ⟨rfl, rfl, ?_⟩; rw [cmpN_cast, ← cmpZ_neg]; congr 1 <;> omega
  have HLA := hide ha.dig.len
  have HLB := hide hb.dig.len
  go_enter Tryz.func26, Tryz.ntmps26
  go_wp2_with fail
  obtain ⟨W0, hW0⟩ : ∃ W0, (w.alloc (Obj.cells #[Value.bool sa, Value.slice aa na ca] 27)).alloc (Obj.cells #[Value.bool sb, Value.slice ab nb cb] 27) = W0 := ⟨_, rfl⟩
  have bA : Box2 W0 w.heap.size (.bool sa) (.slice aa na ca) := by rw [← hW0]; exact (Box2.new w _ _ _).alloc _
  have bB : Box2 W0 (w.heap.size + 1) (.bool sb) (.slice ab nb cb) := by
    have := Box2.new (w.alloc (Obj.cells #[Value.bool sa, Value.slice aa na ca] 27)) (.bool sb) (.slice ab nb cb) 27
    rw [World.size_alloc] at this; rw [← hW0]; exact this
  have hsz : W0.heap.size = w.heap.size + 2 := by rw [← hW0]; simp
  have hB0 : Below w.heap.size w W0 := by rw [← hW0]; exact ((Below.refl _ w).alloc (Nat.le_refl _) _).alloc (by simp) _
  rw [hW0]
  clear hW0
  refine (right_yes sa aa na ca za hna _ (ha.below hB0)).mono ?_
  rintro e w1 ⟨rfl, hb1⟩
  have hB1 : Below w.heap.size w w1 := hB0.trans (hb1.mono (by omega))
  have bA1 := bA.below hb1 (by omega)
  have bB1 := bB.below hb1 (by omega)
  obtain ⟨b0, b1, -, -⟩ := bB1
  go_wp2_with fail
  refine (right_yes sb ab nb cb zb hnb _ (hb.below hB1)).mono ?_
  rintro e w2 ⟨rfl, hb2⟩
  have hB2 : Below w.heap.size w w2 := hB1.trans (hb2.mono hB1.size)
  have bA2 := bA1.below hb2 (by have := hb1.size; omega)
  have bB2 := bB.below (hb1.trans (hb2.mono hb1.size)) (by omega)
  clear b0 b1
  have bA2k := bA2
  have bB2k := bB2
  obtain ⟨a0, a1, -, -⟩ := bA2
  obtain ⟨b0, b1, -, -⟩ := bB2
  have hda := (ha.dig.below hB2).dig
  have hdb := (hb.dig.below hB2).dig
  have HAB := hide (And.intro hda hdb)
  clear hda hdb
  rcases hpost with ⟨rfl, rfl, hp⟩ | ⟨rfl, rfl, hp⟩ | ⟨rfl, rfl, hp⟩ | ⟨rfl, rfl, hp⟩
  · have HP := hide hp
    clear hp
    go_wp2_with fail
    have hcall := compare_any ab aa zb.natAbs za.natAbs cb ca (by rw [← HLB.out]; omega) w2 (by rw [← HLB.out]; exact HAB.out.2) (by rw [← HLA.out]; exact HAB.out.1)
    rw [← HLA.out, ← HLB.out] at hcall
    refine hcall.mono ?_
    rintro e w3 ⟨rfl, hb3⟩
    rw [HP.out]
    clear hcall
    go_wp2
    go_ret
    exact ⟨rfl, hB2.trans (hb3.mono hB2.size)⟩
  · have HP := hide hp
    clear hp
    go_wp2
    go_ret
    exact ⟨by rw [HP.out]; rfl, hB2⟩
  · have HP := hide hp
    clear hp
    go_wp2
    go_ret
    exact ⟨by rw [HP.out]; rfl, hB2⟩
  · have HP := hide hp
    clear hp
    go_wp2_with fail
    have hcall := compare_any aa ab za.natAbs zb.natAbs ca cb (by rw [← HLA.out]; omega) w2 (by rw [← HLA.out]; exact HAB.out.1) (by rw [← HLB.out]; exact HAB.out.2)
    rw [← HLA.out, ← HLB.out] at hcall
    refine hcall.mono ?_
    rintro e w3 ⟨rfl, hb3⟩
    rw [HP.out]
    clear hcall
    go_wp2
    go_ret
    exact ⟨rfl, hB2.trans (hb3.mono hB2.size)⟩
end Go.Proofs.YtmpdeiopdempcaaGreatDoor
