/- Several texts in one. -/
import Derived.Deep.RegionHeld3
import Derived.Test.YtgenaicmjddjcaaGreatDoorPNumB
/- num's Add. -/
namespace Go.Proofs.YtgenaicmjddjcaaGreatDoor
open Go.RowKit Go.Shelf

def NumPost (w : World) (z : Int) (e : Ending) (w' : World) : Prop :=
 ∃ (s : Bool) (a : Option Addr) (n cap : Nat), e = .returned (.tuple #[.agg #[.bool s, .slice a n cap], .bool true]) ∧ IsN w' s a n z ∧ (n = 0 ∨ Fresh w a) ∧ Below w.heap.size w w'

theorem IsN.fit {w : World} {s : Bool} {a : Option Addr} {n : Nat} {z : Int} (h : IsN w s a n z) (hn : n ≤ 64) : dlen z.natAbs ≤ 64 := by rw [← h.dig.len]; exact hn

theorem number_of (neg : Bool) (a : Option Addr) (n cap v : Nat) (hcap : n ≤ cap) (hfit : n ≤ 64) (w : World) (hd : IsD w a n v) :
 Calls Tryz.prog 73 #[.bool neg, .slice a n cap] w fun e w' => ∃ (s : Bool) (a' : Option Addr) (n' cap' : Nat), e = .returned (.tuple #[.agg #[.bool s, .slice a' n' cap'], .bool true]) ∧
  IsN w' s a' n' (signed neg v) ∧ (n' = 0 ∨ a' = a) ∧ Below w.heap.size w w' := by
 have hv : valF (dgt v) n = v := by rw [hd.len, valF_dlen]
 have := number_fit neg a n cap (dgt v) (by omega) hcap (fun _ _ => dgt_lt _ _) w hd.dig (by rw [hv, ← hd.len]; exact hfit)
 rw [hv] at this; exact this

set_option maxRecDepth 100000 in
set_option maxHeartbeats 2000000 in
theorem add_same (s : Bool) (aa ab : Option Addr) (na nb ca cb : Nat) (za zb : Int) (hna : na ≤ 64) (hnb : nb ≤ 64) (w : World) (ha : IsN w s aa na za) (hb : IsN w s ab nb zb) (hfit : dlen (za + zb).natAbs ≤ 64) :
 Calls Tryz.prog 102 #[.agg #[.bool s, .slice aa na ca], .agg #[.bool s, .slice ab nb cb]] w (NumPost w (za + zb)) := by
 have hz : signed s (za.natAbs + zb.natAbs) = za + zb ∧ (za + zb).natAbs = za.natAbs + zb.natAbs := by
  have h1 := ha.sign
  have h2 := hb.sign
  unfold signed
  cases s
  · have : ¬ za < 0 := by intro h; simp [h] at h1
    have : ¬ zb < 0 := by intro h; simp [h] at h2
    simp; omega
  · have : za < 0 := by simpa using h1.symm
    have : zb < 0 := by simpa using h2.symm
    simp; omega
 have HZ := hide hz
 clear hz
 go_enter Tryz.func102, Tryz.ntmps102
 go_wp2_with fail
 obtain ⟨W0, hW0⟩ : ∃ W0, ((w.alloc (Obj.cells #[.bool s, .slice aa na ca] 25)).alloc (Obj.cells #[.bool s, .slice ab nb cb] 25)).alloc (Obj.cells #[.bool false, .slice none 0 0] 25) = W0 := ⟨_, rfl⟩
 have bA : Box2 W0 w.heap.size (.bool s) (.slice aa na ca) := by rw [← hW0]; exact ((Box2.new w _ _ _).alloc _).alloc _
 have bB : Box2 W0 (w.heap.size + 1) (.bool s) (.slice ab nb cb) := by first | exact box3b hW0 | exact box2b hW0
 have bC : Box2 W0 (w.heap.size + 1 + 1) (.bool false) (.slice none 0 0) := box3c hW0
 have hsz : W0.heap.size = w.heap.size + 3 := by rw [← hW0]; simp
 have hB0 : Below w.heap.size w W0 := by rw [← hW0]; exact (((Below.refl _ w).alloc (Nat.le_refl _) _).alloc (by simp) _).alloc (by simp; omega) _
 rw [hW0]
 clear hW0
 refine (right_yes s aa na ca za hna _ (ha.below hB0)).mono ?_
 rintro e w1 ⟨rfl, hb1⟩
 have hB1 : Below w.heap.size w w1 := hB0.trans (hb1.mono (by omega))
 have bA1 := bA.below hb1 (by omega)
 have bB1 := bB.below hb1 (by omega)
 have bC1 := bC.below hb1 (by omega)
 obtain ⟨b0, b1, -, -⟩ := bB1
 go_wp2_with fail
 refine (right_yes s ab nb cb zb hnb _ (hb.below hB1)).mono ?_
 rintro e w2 ⟨rfl, hb2⟩
 have hB2 : Below w.heap.size w w2 := hB1.trans (hb2.mono hB1.size)
 have bA2 := bA1.below hb2 (by have := hb1.size; omega)
 have bB2 := bB.below (hb1.trans (hb2.mono hb1.size)) (by omega)
 have bC2 := bC1.below hb2 (by have := hb1.size; omega)
 clear b0 b1
 have bC2k := bC2
 have bA2k := bA2
 have bB2k := bB2
 obtain ⟨a0, a1, -, -⟩ := bA2
 obtain ⟨b0, b1, -, -⟩ := bB2
 obtain ⟨r0, r1, z0, z1⟩ := bC2
 go_wp2_with fail
 have hA2 : IsD w2.drew aa na za.natAbs := (ha.dig.below hB2).below (Below.drew (Below.refl _ _))
 have hB2' : IsD w2.drew ab nb zb.natAbs := (hb.dig.below hB2).below (Below.drew (Below.refl _ _))
 have hlt2 : w.heap.size + 1 + 1 < w2.heap.size := lt_of_cell r0
 go_region_held3 (fun w' => w'.cell? ⟨w.heap.size, 0, none⟩ = some (.bool s) ∧ w'.cell? ⟨w.heap.size, 1, none⟩ = some (.slice aa na ca) ∧ w'.cell? ⟨w.heap.size + 1, 1, none⟩ = some (.slice ab nb cb))
  (first | exact ⟨a0, a1, b1⟩ | exact ⟨a0', a1', b1'⟩ | exact ⟨a0'', a1'', b1''⟩ | (refine ⟨?_, ?_, ?_⟩ <;> (rw [World.cell?_setCell_far _ _ _ _ (by first | omega | (simp; done) | (simp; omega)), World.cell?_setCell_far _ _ _ _ (by first | omega | (simp; done) | (simp; omega))]; assumption)) | go_keep)
  (first
    | (go_at_call 105; refine (plus_any aa ab _ _ na nb ca cb (by omega) (by omega) _ hA2 hB2').mono ?_; rintro e w3 ⟨a3, n3, cap3, rfl, hd3, hcap3, hfr3, hb3⟩; have a0' := (hb3.cell (p := ⟨w.heap.size, 0, none⟩) (by simp; omega)).trans a0; have a1' := (hb3.cell (p := ⟨w.heap.size, 1, none⟩) (by simp; omega)).trans a1; have b1' := (hb3.cell (p := ⟨w.heap.size + 1, 1, none⟩) (by simp; omega)).trans b1; have bC3 := (bC2k.below (Below.drew (Below.refl _ _)) bC2k.lt : Box2 w2.drew _ _ _).below hb3 bC2k.lt)
    | (go_at_call 73; refine (number_of s a3 n3 cap3 _ hcap3 (by rw [hd3.len, ← HZ.out.2]; exact hfit) _ hd3).mono ?_; rintro e w4 ⟨s4, a4, n4, cap4, rfl, hn4, ha4, hb4⟩; have a0'' := (hb4.cell (p := ⟨w.heap.size, 0, none⟩) (lt_of_cell a0')).trans a0'; have a1'' := (hb4.cell (p := ⟨w.heap.size, 1, none⟩) (lt_of_cell a1')).trans a1'; have b1'' := (hb4.cell (p := ⟨w.heap.size + 1, 1, none⟩) (lt_of_cell b1')).trans b1'; obtain ⟨r0'', r1'', z0'', z1''⟩ := bC3.below hb4 bC3.lt))
 have hne : n4 = 0 ∨ ∀ ad, a4 = some ad → ad.block ≠ w.heap.size + 1 + 1 := by
  have hn43 : n4 = n3 := by rw [hn4.dig.len, hd3.len, signed_abs]
  rcases ha4 with h | h
  · exact .inl h
  · rcases hfr3 with h' | h'
    · exact .inl (hn43.trans h')
    · exact .inr fun ad e => by have := h' ad (h ▸ e); simp at this; omega
 have hfw : n4 = 0 ∨ Fresh w a4 := by
  have hn43 : n4 = n3 := by rw [hn4.dig.len, hd3.len, signed_abs]
  rcases ha4 with h | h
  · exact .inl h
  · rcases hfr3 with h' | h'
    · exact .inl (hn43.trans h')
    · exact .inr fun ad e => by have := h' ad (h ▸ e); simp at this; omega
 have hBw4 : Below w.heap.size w w4 := (hB2.drew.trans (hb3.mono hB2.size)).trans (hb4.mono (Nat.le_trans hB2.size hb3.size))
 obtain ⟨hbx, hN, hBB⟩ := num_store (cap := cap4) (bC3.below hb4 bC3.lt) (by omega) hBw4 hn4 hne
 rw [HZ.out.1] at hN
 obtain ⟨q0, q1, -, -⟩ := hbx
 clear a0 a1 b0 b1 a0' a1' b1' a0'' a1'' b1'' r0 r1 z0 z1 r0'' r1'' z0'' z1''
 go_wp2
 exact bodyPost_ret (v := .tuple #[.agg #[.bool s4, .slice a4 n4 cap4], .bool true]) (by simp [results, Tryz.results102, go_sem, q0, q1]) rfl ⟨_, _, _, _, rfl, hN, hfw, hBB⟩

set_option maxRecDepth 100000 in
set_option maxHeartbeats 2000000 in
theorem add_diff_ge (sa sb : Bool) (hs : (sa == sb) = false) (aa ab : Option Addr) (na nb ca cb : Nat) (za zb : Int) (hna : na ≤ 64) (hnb : nb ≤ 64) (hge : zb.natAbs ≤ za.natAbs) (w : World) (ha : IsN w sa aa na za) (hb : IsN w sb ab nb zb) :
 Calls Tryz.prog 102 #[.agg #[.bool sa, .slice aa na ca], .agg #[.bool sb, .slice ab nb cb]] w (NumPost w (za + zb)) := by
 have hz : signed sa (za.natAbs - zb.natAbs) = za + zb := by
  have h1 := ha.sign
  have h2 := hb.sign
  unfold signed
  cases sa <;> cases sb <;> simp at hs
  · have : ¬ za < 0 := by intro h; simp [h] at h1
    have : zb < 0 := by simpa using h2.symm
    simp; omega
  · have : za < 0 := by simpa using h1.symm
    have : ¬ zb < 0 := by intro h; simp [h] at h2
    simp; omega
 have HZ := hide hz
 have hcmp : 0 ≤ cmpN za.natAbs zb.natAbs := by
  rcases Nat.lt_or_eq_of_le hge with h | h
  · rw [cmpN_gt h]; decide
  · rw [h, cmpN_eq]; decide
 have HLA := hide ha.dig.len
 have HLB := hide hb.dig.len
 clear hz
 go_enter Tryz.func102, Tryz.ntmps102
 go_wp2_with fail
 obtain ⟨W0, hW0⟩ : ∃ W0, ((w.alloc (Obj.cells #[.bool sa, .slice aa na ca] 25)).alloc (Obj.cells #[.bool sb, .slice ab nb cb] 25)).alloc (Obj.cells #[.bool false, .slice none 0 0] 25) = W0 := ⟨_, rfl⟩
 have bA : Box2 W0 w.heap.size (.bool sa) (.slice aa na ca) := by rw [← hW0]; exact ((Box2.new w _ _ _).alloc _).alloc _
 have bB : Box2 W0 (w.heap.size + 1) (.bool sb) (.slice ab nb cb) := by first | exact box3b hW0 | exact box2b hW0
 have bC : Box2 W0 (w.heap.size + 1 + 1) (.bool false) (.slice none 0 0) := box3c hW0
 have hsz : W0.heap.size = w.heap.size + 3 := by rw [← hW0]; simp
 have hB0 : Below w.heap.size w W0 := by rw [← hW0]; exact (((Below.refl _ w).alloc (Nat.le_refl _) _).alloc (by simp) _).alloc (by simp; omega) _
 rw [hW0]
 clear hW0
 refine (right_yes sa aa na ca za hna _ (ha.below hB0)).mono ?_
 rintro e w1 ⟨rfl, hb1⟩
 have hB1 : Below w.heap.size w w1 := hB0.trans (hb1.mono (by omega))
 have bA1 := bA.below hb1 (by omega)
 have bB1 := bB.below hb1 (by omega)
 have bC1 := bC.below hb1 (by omega)
 obtain ⟨b0, b1, -, -⟩ := bB1
 go_wp2_with fail
 refine (right_yes sb ab nb cb zb hnb _ (hb.below hB1)).mono ?_
 rintro e w2 ⟨rfl, hb2⟩
 have hB2 : Below w.heap.size w w2 := hB1.trans (hb2.mono hB1.size)
 have bA2 := bA1.below hb2 (by have := hb1.size; omega)
 have bB2 := bB.below (hb1.trans (hb2.mono hb1.size)) (by omega)
 have bC2 := bC1.below hb2 (by have := hb1.size; omega)
 clear b0 b1
 have bC2k := bC2
 have bA2k := bA2
 have bB2k := bB2
 obtain ⟨a0, a1, -, -⟩ := bA2
 obtain ⟨b0, b1, -, -⟩ := bB2
 obtain ⟨r0, r1, z0, z1⟩ := bC2
 go_wp2_with fail
 have hcall := compare_any aa ab za.natAbs zb.natAbs ca cb (by rw [← ha.dig.len]; omega) w2 (by rw [← ha.dig.len]; exact (ha.dig.below hB2).dig) (by rw [← hb.dig.len]; exact (hb.dig.below hB2).dig)
 rw [← HLA.out, ← HLB.out] at hcall
 refine hcall.mono ?_
 rintro e w3 ⟨rfl, hb3⟩
 clear hcall
 have hB3 : Below w.heap.size w w3 := hB2.trans (hb3.mono hB2.size)
 have bA3 := bA2k.below hb3 bA2k.lt
 have bB3 := bB2k.below hb3 bB2k.lt
 have bC3 := bC2k.below hb3 bC2k.lt
 clear a0 a1 b0 b1 r0 r1 z0 z1
 have bA3k := bA3
 have bB3k := bB3
 have bC3k := bC3
 obtain ⟨a0, a1, -, -⟩ := bA3
 obtain ⟨b0, b1, -, -⟩ := bB3
 obtain ⟨r0, r1, z0, z1⟩ := bC3
 go_wp2_with fail
 have hX : IsD w3.drew aa na za.natAbs := (ha.dig.below hB3).below (Below.drew (Below.refl _ _))
 have hY : IsD w3.drew ab nb zb.natAbs := (hb.dig.below hB3).below (Below.drew (Below.refl _ _))
 have hlt2 : w.heap.size + 1 + 1 < w3.heap.size := lt_of_cell r0
 go_region_held3 (fun w' => w'.cell? ⟨w.heap.size, 0, none⟩ = some (.bool sa) ∧ w'.cell? ⟨w.heap.size, 1, none⟩ = some (.slice aa na ca) ∧ w'.cell? ⟨w.heap.size + 1, 1, none⟩ = some (.slice ab nb cb))
  (first | exact ⟨a0, a1, b1⟩ | exact ⟨a0', a1', b1'⟩ | exact ⟨a0'', a1'', b1''⟩ | (refine ⟨?_, ?_, ?_⟩ <;> (rw [World.cell?_setCell_far _ _ _ _ (by first | omega | (simp; done) | (simp; omega)), World.cell?_setCell_far _ _ _ _ (by first | omega | (simp; done) | (simp; omega))]; assumption)) | go_keep)
  (first
    | (go_at_call 106; refine (minus_any aa ab _ _ na nb ca cb (by omega) _ hX hY hge).mono ?_; rintro e w5 ⟨a3, n3, cap3, rfl, hd5, hcap5, hfr5, hb5⟩; have a0' := (hb5.cell (p := ⟨w.heap.size, 0, none⟩) (by simp; omega)).trans a0; have a1' := (hb5.cell (p := ⟨w.heap.size, 1, none⟩) (by simp; omega)).trans a1; have b1' := (hb5.cell (p := ⟨w.heap.size + 1, 1, none⟩) (by simp; omega)).trans b1; have bC5 := (bC3k.below (Below.drew (Below.refl _ _)) bC3k.lt : Box2 w3.drew _ _ _).below hb5 bC3k.lt)
    | (go_at_call 73; refine (number_of sa a3 n3 cap3 _ hcap5 (by rw [hd5.len]; exact Nat.le_trans (dlen_mono (Nat.sub_le _ _)) (by rw [← HLA.out]; exact hna)) _ hd5).mono ?_; rintro e w6 ⟨s4, a4, n4, cap4, rfl, hn4, ha4, hb6⟩; have a0'' := (hb6.cell (p := ⟨w.heap.size, 0, none⟩) (lt_of_cell a0')).trans a0'; have a1'' := (hb6.cell (p := ⟨w.heap.size, 1, none⟩) (lt_of_cell a1')).trans a1'; have b1'' := (hb6.cell (p := ⟨w.heap.size + 1, 1, none⟩) (lt_of_cell b1')).trans b1'; obtain ⟨r0'', r1'', z0'', z1''⟩ := bC5.below hb6 bC5.lt))
 have hne : n4 = 0 ∨ ∀ ad, a4 = some ad → ad.block ≠ w.heap.size + 1 + 1 := by
  have hn43 : n4 = n3 := by rw [hn4.dig.len, hd5.len, signed_abs]
  rcases ha4 with h | h
  · exact .inl h
  · rcases hfr5 with h' | h'
    · exact .inl (hn43.trans h')
    · exact .inr fun ad e => by have := h' ad (h ▸ e); simp at this; omega
 have hfw : n4 = 0 ∨ Fresh w a4 := by
  have hn43 : n4 = n3 := by rw [hn4.dig.len, hd5.len, signed_abs]
  rcases ha4 with h | h
  · exact .inl h
  · rcases hfr5 with h' | h'
    · exact .inl (hn43.trans h')
    · exact .inr fun ad e => by have := h' ad (h ▸ e); simp at this; omega
 have hBw6 : Below w.heap.size w w6 := (hB3.drew.trans (hb5.mono hB3.size)).trans (hb6.mono (Nat.le_trans hB3.size hb5.size))
 obtain ⟨hbx, hN, hBB⟩ := num_store (cap := cap4) (bC5.below hb6 bC5.lt) (by omega) hBw6 hn4 hne
 rw [HZ.out] at hN
 obtain ⟨q0, q1, -, -⟩ := hbx
 clear a0 a1 b0 b1 a0' a1' b1' a0'' a1'' b1'' r0 r1 z0 z1 r0'' r1'' z0'' z1''
 go_wp2
 exact bodyPost_ret (v := .tuple #[.agg #[.bool s4, .slice a4 n4 cap4], .bool true]) (by simp [results, Tryz.results102, go_sem, q0, q1]) rfl ⟨_, _, _, _, rfl, hN, hfw, hBB⟩

set_option maxRecDepth 100000 in
set_option maxHeartbeats 2000000 in
theorem add_diff_lt (sa sb : Bool) (hs : (sa == sb) = false) (aa ab : Option Addr) (na nb ca cb : Nat) (za zb : Int) (hna : na ≤ 64) (hnb : nb ≤ 64) (hlt : za.natAbs < zb.natAbs) (w : World) (ha : IsN w sa aa na za) (hb : IsN w sb ab nb zb) :
 Calls Tryz.prog 102 #[.agg #[.bool sa, .slice aa na ca], .agg #[.bool sb, .slice ab nb cb]] w (NumPost w (za + zb)) := by
 have hz : signed sb (zb.natAbs - za.natAbs) = za + zb := by
  have h1 := ha.sign
  have h2 := hb.sign
  unfold signed
  cases sa <;> cases sb <;> simp at hs
  · have : ¬ za < 0 := by intro h; simp [h] at h1
    have : zb < 0 := by simpa using h2.symm
    simp; omega
  · have : za < 0 := by simpa using h1.symm
    have : ¬ zb < 0 := by intro h; simp [h] at h2
    simp; omega
 have HZ := hide hz
 have hcmp : cmpN za.natAbs zb.natAbs < 0 := by rw [cmpN_lt hlt]; decide
 have HLA := hide ha.dig.len
 have HLB := hide hb.dig.len
 clear hz
 go_enter Tryz.func102, Tryz.ntmps102
 go_wp2_with fail
 obtain ⟨W0, hW0⟩ : ∃ W0, ((w.alloc (Obj.cells #[.bool sa, .slice aa na ca] 25)).alloc (Obj.cells #[.bool sb, .slice ab nb cb] 25)).alloc (Obj.cells #[.bool false, .slice none 0 0] 25) = W0 := ⟨_, rfl⟩
 have bA : Box2 W0 w.heap.size (.bool sa) (.slice aa na ca) := by rw [← hW0]; exact ((Box2.new w _ _ _).alloc _).alloc _
 have bB : Box2 W0 (w.heap.size + 1) (.bool sb) (.slice ab nb cb) := by first | exact box3b hW0 | exact box2b hW0
 have bC : Box2 W0 (w.heap.size + 1 + 1) (.bool false) (.slice none 0 0) := box3c hW0
 have hsz : W0.heap.size = w.heap.size + 3 := by rw [← hW0]; simp
 have hB0 : Below w.heap.size w W0 := by rw [← hW0]; exact (((Below.refl _ w).alloc (Nat.le_refl _) _).alloc (by simp) _).alloc (by simp; omega) _
 rw [hW0]
 clear hW0
 refine (right_yes sa aa na ca za hna _ (ha.below hB0)).mono ?_
 rintro e w1 ⟨rfl, hb1⟩
 have hB1 : Below w.heap.size w w1 := hB0.trans (hb1.mono (by omega))
 have bA1 := bA.below hb1 (by omega)
 have bB1 := bB.below hb1 (by omega)
 have bC1 := bC.below hb1 (by omega)
 obtain ⟨b0, b1, -, -⟩ := bB1
 go_wp2_with fail
 refine (right_yes sb ab nb cb zb hnb _ (hb.below hB1)).mono ?_
 rintro e w2 ⟨rfl, hb2⟩
 have hB2 : Below w.heap.size w w2 := hB1.trans (hb2.mono hB1.size)
 have bA2 := bA1.below hb2 (by have := hb1.size; omega)
 have bB2 := bB.below (hb1.trans (hb2.mono hb1.size)) (by omega)
 have bC2 := bC1.below hb2 (by have := hb1.size; omega)
 clear b0 b1
 have bC2k := bC2
 have bA2k := bA2
 have bB2k := bB2
 obtain ⟨a0, a1, -, -⟩ := bA2
 obtain ⟨b0, b1, -, -⟩ := bB2
 obtain ⟨r0, r1, z0, z1⟩ := bC2
 go_wp2_with fail
 have hcall := compare_any aa ab za.natAbs zb.natAbs ca cb (by rw [← ha.dig.len]; omega) w2 (by rw [← ha.dig.len]; exact (ha.dig.below hB2).dig) (by rw [← hb.dig.len]; exact (hb.dig.below hB2).dig)
 rw [← HLA.out, ← HLB.out] at hcall
 refine hcall.mono ?_
 rintro e w3 ⟨rfl, hb3⟩
 clear hcall
 have hB3 : Below w.heap.size w w3 := hB2.trans (hb3.mono hB2.size)
 have bA3 := bA2k.below hb3 bA2k.lt
 have bB3 := bB2k.below hb3 bB2k.lt
 have bC3 := bC2k.below hb3 bC2k.lt
 clear a0 a1 b0 b1 r0 r1 z0 z1
 have bA3k := bA3
 have bB3k := bB3
 have bC3k := bC3
 obtain ⟨a0, a1, az0, az1⟩ := bA3
 obtain ⟨b0, b1, bz0, bz1⟩ := bB3
 obtain ⟨r0, r1, z0, z1⟩ := bC3
 go_wp2_with fail
 have bA4 : Box2 (((w3.setCell ⟨w.heap.size, 0, none⟩ (.bool sb)).setCell ⟨w.heap.size, 1, none⟩ (.slice ab nb cb)).setCell ⟨w.heap.size + 1, 0, none⟩ (.bool sa)|>.setCell ⟨w.heap.size + 1, 1, none⟩ (.slice aa na ca)) w.heap.size (.bool sb) (.slice ab nb cb) := (bA3k.set _ _).other _ _ (by omega)
 have bB4 : Box2 (((w3.setCell ⟨w.heap.size, 0, none⟩ (.bool sb)).setCell ⟨w.heap.size, 1, none⟩ (.slice ab nb cb)).setCell ⟨w.heap.size + 1, 0, none⟩ (.bool sa)|>.setCell ⟨w.heap.size + 1, 1, none⟩ (.slice aa na ca)) (w.heap.size + 1) (.bool sa) (.slice aa na ca) := (bB3k.other _ _ (by omega)).set _ _
 have bC4 : Box2 (((w3.setCell ⟨w.heap.size, 0, none⟩ (.bool sb)).setCell ⟨w.heap.size, 1, none⟩ (.slice ab nb cb)).setCell ⟨w.heap.size + 1, 0, none⟩ (.bool sa)|>.setCell ⟨w.heap.size + 1, 1, none⟩ (.slice aa na ca)) (w.heap.size + 1 + 1) (.bool false) (.slice none 0 0) := (bC3k.other _ _ (by omega)).other _ _ (by omega)
 have hB4 : Below w.heap.size w (((w3.setCell ⟨w.heap.size, 0, none⟩ (.bool sb)).setCell ⟨w.heap.size, 1, none⟩ (.slice ab nb cb)).setCell ⟨w.heap.size + 1, 0, none⟩ (.bool sa)|>.setCell ⟨w.heap.size + 1, 1, none⟩ (.slice aa na ca)) := below_set2 (below_set2 hB3 (Nat.le_refl _) _ _) (by omega) _ _
 obtain ⟨W4, hW4⟩ : ∃ W4, (((w3.setCell ⟨w.heap.size, 0, none⟩ (.bool sb)).setCell ⟨w.heap.size, 1, none⟩ (.slice ab nb cb)).setCell ⟨w.heap.size + 1, 0, none⟩ (.bool sa)|>.setCell ⟨w.heap.size + 1, 1, none⟩ (.slice aa na ca)) = W4 := ⟨_, rfl⟩
 rw [hW4] at bA4 bB4 bC4 hB4 ⊢
 clear hW4 a0 a1 b0 b1 r0 r1 z0 z1 az0 az1 bz0 bz1
 have bC4k := bC4
 obtain ⟨a0, a1, -, -⟩ := bA4
 obtain ⟨b0, b1, -, -⟩ := bB4
 obtain ⟨r0, r1, z0, z1⟩ := bC4
 have hX : IsD W4.drew ab nb zb.natAbs := (hb.dig.below hB4).below (Below.drew (Below.refl _ _))
 have hY : IsD W4.drew aa na za.natAbs := (ha.dig.below hB4).below (Below.drew (Below.refl _ _))
 have hlt2 : w.heap.size + 1 + 1 < W4.heap.size := lt_of_cell r0
 go_region_held3 (fun w' => w'.cell? ⟨w.heap.size, 0, none⟩ = some (.bool sb) ∧ w'.cell? ⟨w.heap.size, 1, none⟩ = some (.slice ab nb cb) ∧ w'.cell? ⟨w.heap.size + 1, 1, none⟩ = some (.slice aa na ca))
  (first | exact ⟨a0, a1, b1⟩ | exact ⟨a0', a1', b1'⟩ | exact ⟨a0'', a1'', b1''⟩ | (refine ⟨?_, ?_, ?_⟩ <;> (rw [World.cell?_setCell_far _ _ _ _ (by first | omega | (simp; done) | (simp; omega)), World.cell?_setCell_far _ _ _ _ (by first | omega | (simp; done) | (simp; omega))]; assumption)) | go_keep)
  (first
    | (go_at_call 106; refine (minus_any ab aa _ _ nb na cb ca (by omega) _ hX hY (Nat.le_of_lt hlt)).mono ?_; rintro e w5 ⟨a3, n3, cap3, rfl, hd5, hcap5, hfr5, hb5⟩; have a0' := (hb5.cell (p := ⟨w.heap.size, 0, none⟩) (by simp; omega)).trans a0; have a1' := (hb5.cell (p := ⟨w.heap.size, 1, none⟩) (by simp; omega)).trans a1; have b1' := (hb5.cell (p := ⟨w.heap.size + 1, 1, none⟩) (by simp; omega)).trans b1; have bC5 := (bC4k.below (Below.drew (Below.refl _ _)) bC4k.lt : Box2 W4.drew _ _ _).below hb5 bC4k.lt)
    | (go_at_call 73; refine (number_of sb a3 n3 cap3 _ hcap5 (by rw [hd5.len]; exact Nat.le_trans (dlen_mono (Nat.sub_le _ _)) (by rw [← HLB.out]; exact hnb)) _ hd5).mono ?_; rintro e w6 ⟨s4, a4, n4, cap4, rfl, hn4, ha4, hb6⟩; have a0'' := (hb6.cell (p := ⟨w.heap.size, 0, none⟩) (lt_of_cell a0')).trans a0'; have a1'' := (hb6.cell (p := ⟨w.heap.size, 1, none⟩) (lt_of_cell a1')).trans a1'; have b1'' := (hb6.cell (p := ⟨w.heap.size + 1, 1, none⟩) (lt_of_cell b1')).trans b1'; obtain ⟨r0'', r1'', z0'', z1''⟩ := bC5.below hb6 bC5.lt))
 have hne : n4 = 0 ∨ ∀ ad, a4 = some ad → ad.block ≠ w.heap.size + 1 + 1 := by
  have hn43 : n4 = n3 := by rw [hn4.dig.len, hd5.len, signed_abs]
  rcases ha4 with h | h
  · exact .inl h
  · rcases hfr5 with h' | h'
    · exact .inl (hn43.trans h')
    · exact .inr fun ad e => by have := h' ad (h ▸ e); simp at this; omega
 have hfw : n4 = 0 ∨ Fresh w a4 := by
  have hn43 : n4 = n3 := by rw [hn4.dig.len, hd5.len, signed_abs]
  rcases ha4 with h | h
  · exact .inl h
  · rcases hfr5 with h' | h'
    · exact .inl (hn43.trans h')
    · exact .inr fun ad e => by have := h' ad (h ▸ e); simp at this; omega
 have hBw6 : Below w.heap.size w w6 := (hB4.drew.trans (hb5.mono hB4.size)).trans (hb6.mono (Nat.le_trans hB4.size hb5.size))
 obtain ⟨hbx, hN, hBB⟩ := num_store (cap := cap4) (bC5.below hb6 bC5.lt) (by omega) hBw6 hn4 hne
 rw [HZ.out] at hN
 obtain ⟨q0, q1, -, -⟩ := hbx
 clear a0 a1 b0 b1 a0' a1' b1' a0'' a1'' b1'' r0 r1 z0 z1 r0'' r1'' z0'' z1''
 go_wp2
 exact bodyPost_ret (v := .tuple #[.agg #[.bool s4, .slice a4 n4 cap4], .bool true]) (by simp [results, Tryz.results102, go_sem, q0, q1]) rfl ⟨_, _, _, _, rfl, hN, hfw, hBB⟩

end Go.Proofs.YtgenaicmjddjcaaGreatDoor

/- num's Add, Sub, Mul and Cmp of right Nums. -/
namespace Go.Proofs.YtgenaicmjddjcaaGreatDoor
open Go.RowKit Go.Shelf

theorem add_any (sa sb : Bool) (aa ab : Option Addr) (na nb ca cb : Nat) (za zb : Int) (hna : na ≤ 64) (hnb : nb ≤ 64) (w : World) (ha : IsN w sa aa na za) (hb : IsN w sb ab nb zb) (hfit : dlen (za + zb).natAbs ≤ 64) :
 Calls Tryz.prog 102 #[.agg #[.bool sa, .slice aa na ca], .agg #[.bool sb, .slice ab nb cb]] w (NumPost w (za + zb)) := by
 by_cases h : sa = sb
 · subst h; exact add_same sa aa ab na nb ca cb za zb hna hnb w ha hb hfit
 · have hs : (sa == sb) = false := by simpa using h
   rcases Nat.lt_or_ge za.natAbs zb.natAbs with h1 | h1
   · exact add_diff_lt sa sb hs aa ab na nb ca cb za zb hna hnb h1 w ha hb
   · exact add_diff_ge sa sb hs aa ab na nb ca cb za zb hna hnb h1 w ha hb

def flipB (s : Bool) (n : Nat) : Bool := !s && decide (0 < n)
theorem IsN.neg {w : World} {s : Bool} {a : Option Addr} {n : Nat} {z : Int} (h : IsN w s a n z) : IsN w (flipB s n) a n (-z) := by
 refine ⟨?_, by rw [Int.natAbs_neg]; exact h.dig⟩
 have h1 := h.sign
 have h2 : n = 0 ↔ z.natAbs = 0 := by rw [h.dig.len]; exact dlen_eq_zero
 unfold flipB
 rw [h1]
 by_cases hz : z < 0
 · simp [hz]; omega
 · by_cases hn : n = 0
   · simp [hn]; omega
   · simp [hz]
     have : z.natAbs ≠ 0 := fun e => hn (h2.2 e)
     constructor <;> intro <;> omega

set_option maxRecDepth 100000 in
set_option maxHeartbeats 2000000 in
theorem sub_any (sa sb : Bool) (aa ab : Option Addr) (na nb ca cb : Nat) (za zb : Int) (hna : na ≤ 64) (hnb : nb ≤ 64) (w : World) (ha : IsN w sa aa na za) (hb : IsN w sb ab nb zb) (hfit : dlen (za - zb).natAbs ≤ 64) :
 Calls Tryz.prog 53 #[.agg #[.bool sa, .slice aa na ca], .agg #[.bool sb, .slice ab nb cb]] w (NumPost w (za - zb)) := by
 have hN := hb.neg
 obtain ⟨t, ht⟩ : ∃ t, t = flipB sb nb := ⟨_, rfl⟩
 rw [← ht] at hN
 have hfl : (sb = true ∧ t = false) ∨ (sb = false ∧ nb = 0 ∧ t = false) ∨ (sb = false ∧ 0 < nb ∧ t = true) := by
  unfold flipB at ht
  cases sb with
  | true => exact .inl ⟨rfl, by simpa using ht⟩
  | false =>
    rcases Nat.eq_zero_or_pos nb with h | h
    · exact .inr (.inl ⟨rfl, h, by simpa [h] using ht⟩)
    · exact .inr (.inr ⟨rfl, h, by simpa [h] using ht⟩)
 have HF : Hid (dlen (za + -zb).natAbs ≤ 64) := by rw [← Int.sub_eq_add_neg]; exact hfit
 clear ht hfit
 have hB0 : Below w.heap.size w (((w.alloc (Obj.cells #[.bool sa, .slice aa na ca] 25)).alloc (Obj.cells #[.bool sb, .slice ab nb cb] 25)).alloc (Obj.cells #[.bool false, .slice none 0 0] 25)) := (((Below.refl _ w).alloc (Nat.le_refl _) _).alloc (by simp) _).alloc (by simp; omega) _
 have bA : Box2 (((w.alloc (Obj.cells #[.bool sa, .slice aa na ca] 25)).alloc (Obj.cells #[.bool sb, .slice ab nb cb] 25)).alloc (Obj.cells #[.bool false, .slice none 0 0] 25)) w.heap.size (.bool sa) (.slice aa na ca) := ((Box2.new w _ _ _).alloc _).alloc _
 have bB : Box2 (((w.alloc (Obj.cells #[.bool sa, .slice aa na ca] 25)).alloc (Obj.cells #[.bool sb, .slice ab nb cb] 25)).alloc (Obj.cells #[.bool false, .slice none 0 0] 25)) (w.heap.size + 1) (.bool sb) (.slice ab nb cb) := by
  have := (Box2.new (w.alloc (Obj.cells #[.bool sa, .slice aa na ca] 25)) (.bool sb) (.slice ab nb cb) 25).alloc (Obj.cells #[.bool false, .slice none 0 0] 25)
  rw [World.size_alloc] at this; exact this
 have bC : Box2 (((w.alloc (Obj.cells #[.bool sa, .slice aa na ca] 25)).alloc (Obj.cells #[.bool sb, .slice ab nb cb] 25)).alloc (Obj.cells #[.bool false, .slice none 0 0] 25)) (w.heap.size + 1 + 1) (.bool false) (.slice none 0 0) := by
  have := Box2.new ((w.alloc (Obj.cells #[.bool sa, .slice aa na ca] 25)).alloc (Obj.cells #[.bool sb, .slice ab nb cb] 25)) (.bool false) (.slice none 0 0) 25
  rw [World.size_alloc, World.size_alloc] at this; exact this
 obtain ⟨W0, hW0⟩ : ∃ W0, ((w.alloc (Obj.cells #[.bool sa, .slice aa na ca] 25)).alloc (Obj.cells #[.bool sb, .slice ab nb cb] 25)).alloc (Obj.cells #[.bool false, .slice none 0 0] 25) = W0 := ⟨_, rfl⟩
 have hsz : W0.heap.size = w.heap.size + 3 := by rw [← hW0]; simp
 rw [hW0] at hB0 bA bB bC
 have HW := hide hW0
 clear hW0
 go_enter Tryz.func53, Tryz.ntmps53
 go_wp2_with fail
 rw [HW.out]
 refine (right_yes sb ab nb cb zb hnb _ (hb.below hB0)).mono ?_
 rintro e w1 ⟨rfl, hb1⟩
 have hB1 : Below w.heap.size w w1 := hB0.trans (hb1.mono (by omega))
 have bA1 := bA.below hb1 (by omega)
 have bB1 := bB.below hb1 (by omega)
 have bC1 := bC.below hb1 (by omega)
 have HA1 := hide bA1
 have HB1 := hide bB1
 have HC1 := hide bC1
 have HN := hide hN
 clear bA bB bC hN
 obtain ⟨a0, a1, -, -⟩ := bA1
 obtain ⟨b0, b1, bz0, -⟩ := bB1
 obtain ⟨r0, r1, z0, z1⟩ := bC1
 have hset : ∀ t : Bool, Below w.heap.size w (w1.setCell ⟨w.heap.size + 1, 0, none⟩ (.bool t)) ∧ Box2 (w1.setCell ⟨w.heap.size + 1, 0, none⟩ (.bool t)) (w.heap.size + 1 + 1) (.bool false) (.slice none 0 0) := fun t => by
  refine ⟨hB1.setCell (p := ⟨w.heap.size + 1, 0, none⟩) (by simp) _, ?_, ?_, by rw [World.frozen?_setCell]; exact z0, by rw [World.frozen?_setCell]; exact z1⟩
  · rw [cell_setCell_ne _ _ _ _ (fun e => by have := congrArg Addr.block e; simp at this) rfl rfl]; exact r0
  · rw [cell_setCell_ne _ _ _ _ (fun e => by have := congrArg Addr.block e; simp at this) rfl rfl]; exact r1
 have HSET := hide hset
 clear hset
 rcases hfl with ⟨rfl, rfl⟩ | ⟨rfl, rfl, rfl⟩ | ⟨rfl, hpos, rfl⟩
 all_goals
  go_wp2_with fail
  refine (add_any _ _ aa ab _ _ ca cb za (-zb) hna hnb _ (ha.below (HSET.out _).1) (HN.out.below (HSET.out _).1) HF.out).mono ?_
  rintro e w3 ⟨s4, a4, n4, cap4, rfl, hn4, hf4, hb4⟩
  have hlt1 := (HSET.out true).2.lt
  rw [World.size_setCell] at hlt1
  have hC3 := (HSET.out _).2.below hb4 (HSET.out _).2.lt
  have hB3 := (HSET.out _).1.trans (hb4.mono (HSET.out _).1.size)
  have hfw : n4 = 0 ∨ Fresh w a4 := hf4.imp id fun h ad e => by have := h ad e; rw [World.size_setCell] at this; omega
  have hne : n4 = 0 ∨ ∀ ad, a4 = some ad → ad.block ≠ w.heap.size + 1 + 1 := hf4.imp id fun h ad e => by have := h ad e; rw [World.size_setCell] at this; omega
  obtain ⟨hbx, hNN, hBB⟩ := num_store (cap := cap4) hC3 (by omega) hB3 hn4 hne
  obtain ⟨q0, q1, -, -⟩ := hbx
  clear a0 a1 b0 b1 bz0 r0 r1 z0 z1
  obtain ⟨r0, r1, z0, z1⟩ := hC3
  go_wp2
  exact bodyPost_ret (v := .tuple #[.agg #[.bool s4, .slice a4 n4 cap4], .bool true]) (by simp [results, Tryz.results53, go_sem, q0, q1]) rfl ⟨_, _, _, _, rfl, by rw [Int.sub_eq_add_neg]; exact hNN, hfw, hBB⟩
end Go.Proofs.YtgenaicmjddjcaaGreatDoor

/- num's Mul. -/
namespace Go.Proofs.YtgenaicmjddjcaaGreatDoor
open Go.RowKit Go.Shelf

set_option maxRecDepth 100000 in
set_option maxHeartbeats 2000000 in
theorem mul_any (sa sb : Bool) (aa ab : Option Addr) (na nb ca cb : Nat) (za zb : Int) (hna : na ≤ 64) (hnb : nb ≤ 64) (w : World) (ha : IsN w sa aa na za) (hb : IsN w sb ab nb zb) (hfit : dlen (za * zb).natAbs ≤ 64) :
 Calls Tryz.prog 52 #[.agg #[.bool sa, .slice aa na ca], .agg #[.bool sb, .slice ab nb cb]] w (NumPost w (za * zb)) := by
 have hz : signed (sa != sb) (za.natAbs * zb.natAbs) = za * zb ∧ (za * zb).natAbs = za.natAbs * zb.natAbs := by
  refine ⟨?_, Int.natAbs_mul za zb⟩
  have h1 := ha.sign
  have h2 := hb.sign
  have e1 : za = signed sa za.natAbs := by unfold signed; rw [h1]; by_cases h : za < 0 <;> simp [h] <;> omega
  have e2 : zb = signed sb zb.natAbs := by unfold signed; rw [h2]; by_cases h : zb < 0 <;> simp [h] <;> omega
  generalize za.natAbs = x at e1 ⊢
  generalize zb.natAbs = y at e2 ⊢
  rw [e1, e2]
  unfold signed
  cases sa <;> cases sb <;> simp [Int.mul_neg, Int.neg_mul]
 have HZ := hide hz
 clear hz
 go_enter Tryz.func52, Tryz.ntmps52
 go_wp2_with fail
 obtain ⟨W0, hW0⟩ : ∃ W0, ((w.alloc (Obj.cells #[.bool sa, .slice aa na ca] 25)).alloc (Obj.cells #[.bool sb, .slice ab nb cb] 25)).alloc (Obj.cells #[.bool false, .slice none 0 0] 25) = W0 := ⟨_, rfl⟩
 have bA : Box2 W0 w.heap.size (.bool sa) (.slice aa na ca) := by rw [← hW0]; exact ((Box2.new w _ _ _).alloc _).alloc _
 have bB : Box2 W0 (w.heap.size + 1) (.bool sb) (.slice ab nb cb) := by first | exact box3b hW0 | exact box2b hW0
 have bC : Box2 W0 (w.heap.size + 1 + 1) (.bool false) (.slice none 0 0) := box3c hW0
 have hsz : W0.heap.size = w.heap.size + 3 := by rw [← hW0]; simp
 have hB0 : Below w.heap.size w W0 := by rw [← hW0]; exact (((Below.refl _ w).alloc (Nat.le_refl _) _).alloc (by simp) _).alloc (by simp; omega) _
 rw [hW0]
 clear hW0
 refine (right_yes sa aa na ca za hna _ (ha.below hB0)).mono ?_
 rintro e w1 ⟨rfl, hb1⟩
 have hB1 : Below w.heap.size w w1 := hB0.trans (hb1.mono (by omega))
 have bA1 := bA.below hb1 (by omega)
 have bB1 := bB.below hb1 (by omega)
 have bC1 := bC.below hb1 (by omega)
 obtain ⟨b0, b1, -, -⟩ := bB1
 go_wp2_with fail
 refine (right_yes sb ab nb cb zb hnb _ (hb.below hB1)).mono ?_
 rintro e w2 ⟨rfl, hb2⟩
 have hB2 : Below w.heap.size w w2 := hB1.trans (hb2.mono hB1.size)
 have bA2 := bA1.below hb2 (by have := hb1.size; omega)
 have bB2 := bB.below (hb1.trans (hb2.mono hb1.size)) (by omega)
 have bC2 := bC1.below hb2 (by have := hb1.size; omega)
 clear b0 b1
 have bC2k := bC2
 have bA2k := bA2
 have bB2k := bB2
 obtain ⟨a0, a1, -, -⟩ := bA2
 obtain ⟨b0, b1, -, -⟩ := bB2
 obtain ⟨r0, r1, z0, z1⟩ := bC2
 go_wp2_with fail
 have hA2 : IsD w2.drew aa na za.natAbs := (ha.dig.below hB2).below (Below.drew (Below.refl _ _))
 have hB2' : IsD w2.drew ab nb zb.natAbs := (hb.dig.below hB2).below (Below.drew (Below.refl _ _))
 have hlt2 : w.heap.size + 1 + 1 < w2.heap.size := lt_of_cell r0
 go_region_held3 (fun w' => w'.cell? ⟨w.heap.size, 0, none⟩ = some (.bool sa) ∧ w'.cell? ⟨w.heap.size, 1, none⟩ = some (.slice aa na ca) ∧ w'.cell? ⟨w.heap.size + 1, 0, none⟩ = some (.bool sb) ∧ w'.cell? ⟨w.heap.size + 1, 1, none⟩ = some (.slice ab nb cb))
  (first | exact ⟨a0, a1, b0, b1⟩ | exact ⟨a0', a1', b0', b1'⟩ | exact ⟨a0'', a1'', b0'', b1''⟩ | (refine ⟨?_, ?_, ?_, ?_⟩ <;> (rw [World.cell?_setCell_far _ _ _ _ (by first | omega | (simp; done) | (simp; omega)), World.cell?_setCell_far _ _ _ _ (by first | omega | (simp; done) | (simp; omega))]; assumption)) | go_keep)
  (first
    | (go_at_call 101; refine (times_any aa ab _ _ na nb ca cb (by omega) (by omega) _ hA2 hB2').mono ?_; rintro e w3 ⟨a3, n3, cap3, rfl, hd3, hcap3, hfr3, hb3⟩; have a0' := (hb3.cell (p := ⟨w.heap.size, 0, none⟩) (by simp; omega)).trans a0; have a1' := (hb3.cell (p := ⟨w.heap.size, 1, none⟩) (by simp; omega)).trans a1; have b1' := (hb3.cell (p := ⟨w.heap.size + 1, 1, none⟩) (by simp; omega)).trans b1; have b0' := (hb3.cell (p := ⟨w.heap.size + 1, 0, none⟩) (by simp; omega)).trans b0; have bC3 := (bC2k.below (Below.drew (Below.refl _ _)) bC2k.lt : Box2 w2.drew _ _ _).below hb3 bC2k.lt)
    | (go_at_call 73; refine (number_of (sa != sb) a3 n3 cap3 _ hcap3 (by rw [hd3.len, ← HZ.out.2]; exact hfit) _ hd3).mono ?_; rintro e w4 ⟨s4, a4, n4, cap4, rfl, hn4, ha4, hb4⟩; have a0'' := (hb4.cell (p := ⟨w.heap.size, 0, none⟩) (lt_of_cell a0')).trans a0'; have a1'' := (hb4.cell (p := ⟨w.heap.size, 1, none⟩) (lt_of_cell a1')).trans a1'; have b1'' := (hb4.cell (p := ⟨w.heap.size + 1, 1, none⟩) (lt_of_cell b1')).trans b1'; have b0'' := (hb4.cell (p := ⟨w.heap.size + 1, 0, none⟩) (lt_of_cell b0')).trans b0'; obtain ⟨r0'', r1'', z0'', z1''⟩ := bC3.below hb4 bC3.lt))
 have hne : n4 = 0 ∨ ∀ ad, a4 = some ad → ad.block ≠ w.heap.size + 1 + 1 := by
  have hn43 : n4 = n3 := by rw [hn4.dig.len, hd3.len, signed_abs]
  rcases ha4 with h | h
  · exact .inl h
  · rcases hfr3 with h' | h'
    · exact .inl (hn43.trans h')
    · exact .inr fun ad e => by have := h' ad (h ▸ e); simp at this; omega
 have hfw : n4 = 0 ∨ Fresh w a4 := by
  have hn43 : n4 = n3 := by rw [hn4.dig.len, hd3.len, signed_abs]
  rcases ha4 with h | h
  · exact .inl h
  · rcases hfr3 with h' | h'
    · exact .inl (hn43.trans h')
    · exact .inr fun ad e => by have := h' ad (h ▸ e); simp at this; omega
 have hBw4 : Below w.heap.size w w4 := (hB2.drew.trans (hb3.mono hB2.size)).trans (hb4.mono (Nat.le_trans hB2.size hb3.size))
 obtain ⟨hbx, hN, hBB⟩ := num_store (cap := cap4) (bC3.below hb4 bC3.lt) (by omega) hBw4 hn4 hne
 rw [HZ.out.1] at hN
 obtain ⟨q0, q1, -, -⟩ := hbx
 clear a0 a1 b0 b1 a0' a1' b0' b1' a0'' a1'' b0'' b1'' r0 r1 z0 z1 r0'' r1'' z0'' z1''
 go_wp2
 exact bodyPost_ret (v := .tuple #[.agg #[.bool s4, .slice a4 n4 cap4], .bool true]) (by simp [results, Tryz.results52, go_sem, q0, q1]) rfl ⟨_, _, _, _, rfl, hN, hfw, hBB⟩
end Go.Proofs.YtgenaicmjddjcaaGreatDoor

/- num's Cmp. -/
namespace Go.Proofs.YtgenaicmjddjcaaGreatDoor
open Go.RowKit Go.Shelf

def cmpZ (x y : Int) : Int := if x < y then -1 else if x = y then 0 else 1
theorem cmpN_cast (x y : Nat) : cmpN x y = cmpZ (x : Int) (y : Int) := by
 unfold cmpN cmpZ
 rcases Nat.lt_trichotomy x y with h | h | h
 · rw [if_pos h, if_pos (by omega)]
 · subst h; simp
 · rw [if_neg (by omega), if_neg (by omega), if_neg (by omega), if_neg (by omega)]
theorem cmpZ_neg (x y : Int) : cmpZ (-y) (-x) = cmpZ x y := by
 unfold cmpZ
 by_cases h1 : x < y
 · rw [if_pos (by omega), if_pos h1]
 · rw [if_neg (by omega), if_neg h1]
   by_cases h2 : x = y
   · rw [if_pos (by omega), if_pos h2]
   · rw [if_neg (by omega), if_neg h2]

set_option maxRecDepth 100000 in
set_option maxHeartbeats 2000000 in
theorem cmp_any (sa sb : Bool) (aa ab : Option Addr) (na nb ca cb : Nat) (za zb : Int) (hna : na ≤ 64) (hnb : nb ≤ 64) (w : World) (ha : IsN w sa aa na za) (hb : IsN w sb ab nb zb) :
 Calls Tryz.prog 89 #[.agg #[.bool sa, .slice aa na ca], .agg #[.bool sb, .slice ab nb cb]] w fun e w' => e = .returned (.int .i64 (cmpZ za zb)) ∧ Below w.heap.size w w' := by
 have hpost : (sa = true ∧ sb = true ∧ cmpN zb.natAbs za.natAbs = cmpZ za zb) ∨ (sa = true ∧ sb = false ∧ cmpZ za zb = -1) ∨ (sa = false ∧ sb = true ∧ cmpZ za zb = 1) ∨ (sa = false ∧ sb = false ∧ cmpN za.natAbs zb.natAbs = cmpZ za zb) := by
  have h1 := ha.sign
  have h2 := hb.sign
  cases sa <;> cases sb
  · have e1 : ¬ za < 0 := by intro h; simp [h] at h1
    have e2 : ¬ zb < 0 := by intro h; simp [h] at h2
    refine .inr (.inr (.inr ⟨rfl, rfl, ?_⟩)); rw [cmpN_cast]; congr 1 <;> omega
  · have e1 : ¬ za < 0 := by intro h; simp [h] at h1
    have e2 : zb < 0 := by simpa using h2.symm
    refine .inr (.inr (.inl ⟨rfl, rfl, ?_⟩)); unfold cmpZ; rw [if_neg (by omega), if_neg (by omega)]
  · have e1 : za < 0 := by simpa using h1.symm
    have e2 : ¬ zb < 0 := by intro h; simp [h] at h2
    refine .inr (.inl ⟨rfl, rfl, ?_⟩); unfold cmpZ; rw [if_pos (by omega)]
  · have e1 : za < 0 := by simpa using h1.symm
    have e2 : zb < 0 := by simpa using h2.symm
    refine .inl ⟨rfl, rfl, ?_⟩; rw [cmpN_cast, ← cmpZ_neg]; congr 1 <;> omega
 have HLA := hide ha.dig.len
 have HLB := hide hb.dig.len
 go_enter Tryz.func89, Tryz.ntmps89
 go_wp2_with fail
 obtain ⟨W0, hW0⟩ : ∃ W0, (w.alloc (Obj.cells #[.bool sa, .slice aa na ca] 25)).alloc (Obj.cells #[.bool sb, .slice ab nb cb] 25) = W0 := ⟨_, rfl⟩
 have bA : Box2 W0 w.heap.size (.bool sa) (.slice aa na ca) := by rw [← hW0]; exact (Box2.new w _ _ _).alloc _
 have bB : Box2 W0 (w.heap.size + 1) (.bool sb) (.slice ab nb cb) := by first | exact box3b hW0 | exact box2b hW0
 have hsz : W0.heap.size = w.heap.size + 2 := by rw [← hW0]; simp
 have hB0 : Below w.heap.size w W0 := by rw [← hW0]; exact ((Below.refl _ w).alloc (Nat.le_refl _) _).alloc (by simp) _
 rw [hW0]
 clear hW0
 refine (right_yes sa aa na ca za hna _ (ha.below hB0)).mono ?_
 rintro e w1 ⟨rfl, hb1⟩
 have hB1 : Below w.heap.size w w1 := hB0.trans (hb1.mono (by omega))
 have bA1 := bA.below hb1 (by omega)
 have bB1 := bB.below hb1 (by omega)
 obtain ⟨b0, b1, -, -⟩ := bB1
 go_wp2_with fail
 refine (right_yes sb ab nb cb zb hnb _ (hb.below hB1)).mono ?_
 rintro e w2 ⟨rfl, hb2⟩
 have hB2 : Below w.heap.size w w2 := hB1.trans (hb2.mono hB1.size)
 have bA2 := bA1.below hb2 (by have := hb1.size; omega)
 have bB2 := bB.below (hb1.trans (hb2.mono hb1.size)) (by omega)
 clear b0 b1
 have bA2k := bA2
 have bB2k := bB2
 obtain ⟨a0, a1, -, -⟩ := bA2
 obtain ⟨b0, b1, -, -⟩ := bB2
 have hda := (ha.dig.below hB2).dig
 have hdb := (hb.dig.below hB2).dig
 have HAB := hide (And.intro hda hdb)
 clear hda hdb
 rcases hpost with ⟨rfl, rfl, hp⟩ | ⟨rfl, rfl, hp⟩ | ⟨rfl, rfl, hp⟩ | ⟨rfl, rfl, hp⟩
 · have HP := hide hp
   clear hp
   go_wp2_with fail
   have hcall := compare_any ab aa zb.natAbs za.natAbs cb ca (by rw [← HLB.out]; omega) w2 (by rw [← HLB.out]; exact HAB.out.2) (by rw [← HLA.out]; exact HAB.out.1)
   rw [← HLA.out, ← HLB.out] at hcall
   refine hcall.mono ?_
   rintro e w3 ⟨rfl, hb3⟩
   rw [HP.out]
   clear hcall
   go_wp2
   go_ret
   exact ⟨rfl, hB2.trans (hb3.mono hB2.size)⟩
 · have HP := hide hp
   clear hp
   go_wp2
   go_ret
   exact ⟨by rw [HP.out]; rfl, hB2⟩
 · have HP := hide hp
   clear hp
   go_wp2
   go_ret
   exact ⟨by rw [HP.out]; rfl, hB2⟩
 · have HP := hide hp
   clear hp
   go_wp2_with fail
   have hcall := compare_any aa ab za.natAbs zb.natAbs ca cb (by rw [← HLA.out]; omega) w2 (by rw [← HLA.out]; exact HAB.out.1) (by rw [← HLB.out]; exact HAB.out.2)
   rw [← HLA.out, ← HLB.out] at hcall
   refine hcall.mono ?_
   rintro e w3 ⟨rfl, hb3⟩
   rw [HP.out]
   clear hcall
   go_wp2
   go_ret
   exact ⟨rfl, hB2.trans (hb3.mono hB2.size)⟩
end Go.Proofs.YtgenaicmjddjcaaGreatDoor

