/- Several texts in one. -/
import Derived.Test.YtikepnocefdmnaaGreatDoorPRg
import Derived.Test.YtikepnocefdmnaaGreatDoorRdE
import Derived.Test.YtikepnocefdmnaaGreatDoorRbC
import Derived.Test.YtikepnocefdmnaaGreatDoorLwV
import Derived.Test.YtikepnocefdmnaaGreatDoorLwM
namespace Go.Proofs.YtikepnocefdmnaaGreatDoor
open Go.RowKit Go.Shelf

theorem rsigned_numc (neg : Bool) (a : Option Addr) (n cap v : Nat) (hcap : n ≤ cap) (hn : n ≤ 1099511627776) (w : World) (hd : IsD w a n v) {Z : Int} (HO : Hid (signed neg v = Z)) (HF : Hid (dlen Z.natAbs ≤ 64)) :
 Calls Tryz.prog 56 #[.bool neg, .slice a n cap] w (CapPost w Z) := by
 have e : valF (dgt v) n = v := by rw [hd.len]; exact valF_dlen v
 have hz : dlen v ≤ 64 := by have := HF.out; rw [← HO.out, signed_abs] at this; exact this
 have := rsigned_cap neg a n cap (dgt v) hn hcap (fun _ _ => dgt_lt _ _) w hd.dig (by rw [e]; exact hz)
 rw [e, HO.out] at this
 exact this

set_option maxRecDepth 100000 in
set_option maxHeartbeats 2000000 in
theorem radd_same_c (sa : Bool) (aa ab : Option Addr) (na nb ca cb : Nat) (za zb : Int) (hna : na ≤ 64) (hnb : nb ≤ 64) (w : World) (ha : IsN w sa aa na za) (hb : IsN w sa ab nb zb) {Z : Int} (HO : Hid (signed sa (za.natAbs + zb.natAbs) = Z)) (HF : Hid (dlen Z.natAbs ≤ 64)) :
 Calls Tryz.prog 73 #[.agg #[.bool sa, .slice aa na ca], .agg #[.bool sa, .slice ab nb cb]] w (CapPost w Z) := by
 have HLA := hide ha.dig.len
 have HLB := hide hb.dig.len
 have HLE : Hid (∀ m, (m = dlen (za.natAbs + zb.natAbs) ∨ m = dlen (za.natAbs * zb.natAbs) ∨ m = dlen (za.natAbs - zb.natAbs) ∨ m = dlen (zb.natAbs - za.natAbs)) → m ≤ 1099511627776) := fun m h => len_le_of ha.dig.len hb.dig.len hna hnb h
 go_enter Tryz.func73, Tryz.ntmps73
 go_wp2_with fail
 obtain ⟨W0, hW0⟩ : ∃ W0, ((w.alloc (Obj.cells #[.bool sa, .slice aa na ca] 25)).alloc (Obj.cells #[.bool sa, .slice ab nb cb] 25)).alloc (Obj.cells #[.bool false, .slice none 0 0] 25) = W0 := ⟨_, rfl⟩
 have bA : Box2 W0 w.heap.size (.bool sa) (.slice aa na ca) := by rw [← hW0]; exact ((Box2.new w _ _ _).alloc _).alloc _
 have bB : Box2 W0 (w.heap.size + 1) (.bool sa) (.slice ab nb cb) := by
  have := (Box2.new (w.alloc (Obj.cells #[.bool sa, .slice aa na ca] 25)) (.bool sa) (.slice ab nb cb) 25).alloc (Obj.cells #[.bool false, .slice none 0 0] 25)
  rw [World.size_alloc] at this; rw [← hW0]; exact this
 have bC : Box2 W0 (w.heap.size + 1 + 1) (.bool false) (.slice none 0 0) := by
  have := Box2.new ((w.alloc (Obj.cells #[.bool sa, .slice aa na ca] 25)).alloc (Obj.cells #[.bool sa, .slice ab nb cb] 25)) (.bool false) (.slice none 0 0) 25
  rw [World.size_alloc, World.size_alloc] at this; rw [← hW0]; exact this
 have hsz : W0.heap.size = w.heap.size + 3 := by rw [← hW0]; simp
 have hB0 : Below w.heap.size w W0 := by rw [← hW0]; exact (((Below.refl _ w).alloc (Nat.le_refl _) _).alloc (by simp) _).alloc (by simp; omega) _
 rw [hW0]
 clear hW0
 refine (rright_arg sa aa na ca (some za) _ ⟨ha.below hB0, hna⟩).mono ?_
 rintro e w1 ⟨rfl, hb1⟩
 have hB1 : Below w.heap.size w w1 := hB0.trans (hb1.mono (by omega))
 have bA1 := bA.below hb1 (by omega)
 have bB1 := bB.below hb1 (by omega)
 have bC1 := bC.below hb1 (by omega)
 obtain ⟨b0, b1, -, -⟩ := bB1
 go_wp2_with fail
 refine (rright_arg sa ab nb cb (some zb) _ ⟨hb.below hB1, hnb⟩).mono ?_
 rintro e w2 ⟨rfl, hb2⟩
 have hB2 : Below w.heap.size w w2 := hB1.trans (hb2.mono hB1.size)
 have bA2 := bA1.below hb2 (by have := hb1.size; omega)
 have bB2 := bB.below (hb1.trans (hb2.mono hb1.size)) (by omega)
 have bC2 := bC1.below hb2 (by have := hb1.size; omega)
 clear b0 b1
 have bC2k := bC2
 have bA2k := bA2
 have bB2k := bB2
 obtain ⟨a0, a1, -, -⟩ := bA2
 obtain ⟨b0, b1, -, -⟩ := bB2
 obtain ⟨r0, r1, z0, z1⟩ := bC2
 go_wp2_with fail
 have hX : IsD w2.drew aa na za.natAbs := (ha.dig.below hB2).below (Below.drew (Below.refl _ _))
 have hY : IsD w2.drew ab nb zb.natAbs := (hb.dig.below hB2).below (Below.drew (Below.refl _ _))
 have hlt2 : w.heap.size + 1 + 1 < w2.heap.size := lt_of_cell r0
 go_region_held3 (fun w' => w'.cell? ⟨w.heap.size, 0, none⟩ = some (.bool sa) ∧ w'.cell? ⟨w.heap.size, 1, none⟩ = some (.slice aa na ca) ∧ w'.cell? ⟨w.heap.size + 1, 1, none⟩ = some (.slice ab nb cb))
  (first | exact ⟨a0, a1, b1⟩ | exact ⟨a0', a1', b1'⟩ | exact ⟨a0'', a1'', b1''⟩ | (refine ⟨?_, ?_, ?_⟩ <;> (rw [World.cell?_setCell_far _ _ _ _ (by first | omega | (simp; done) | (simp; omega)), World.cell?_setCell_far _ _ _ _ (by first | omega | (simp; done) | (simp; omega))]; assumption)) | go_keep)
  (first
    | (go_at_call 100; refine (rplus_any aa ab _ _ na nb ca cb (by omega) (by omega) _ hX hY).mono ?_; rintro e w4 ⟨a3, n3, cap3, rfl, hd3, hcap3, hfr3, hb4⟩; have a0' := (hb4.cell (p := ⟨w.heap.size, 0, none⟩) (by simp; omega)).trans a0; have a1' := (hb4.cell (p := ⟨w.heap.size, 1, none⟩) (by simp; omega)).trans a1; have b1' := (hb4.cell (p := ⟨w.heap.size + 1, 1, none⟩) (by simp; omega)).trans b1; have bC4 := (bC2k.below (Below.drew (Below.refl _ _)) bC2k.lt : Box2 w2.drew _ _ _).below hb4 bC2k.lt)
    | (go_at_call 56; refine (rsigned_numc sa a3 n3 cap3 _ hcap3 (HLE.out _ (by rw [hd3.len]; simp)) _ hd3 HO HF).mono ?_; rintro e w5 ⟨s4, a4, n4, cap4, rfl, hn4, hf4, hb5, h64⟩; have a0'' := (hb5.cell (p := ⟨w.heap.size, 0, none⟩) (lt_of_cell a0')).trans a0'; have a1'' := (hb5.cell (p := ⟨w.heap.size, 1, none⟩) (lt_of_cell a1')).trans a1'; have b1'' := (hb5.cell (p := ⟨w.heap.size + 1, 1, none⟩) (lt_of_cell b1')).trans b1'; obtain ⟨r0'', r1'', z0'', z1''⟩ := bC4.below hb5 bC4.lt))
 have hs4 := hb4.size
 have hBw : Below w.heap.size w w5 := (hB2.drew.trans (hb4.mono hB2.size)).trans (hb5.mono (Nat.le_trans hB2.size hb4.size))
 have hne : n4 = 0 ∨ ∀ ad, a4 = some ad → ad.block ≠ w.heap.size + 1 + 1 := hf4.imp id fun h ad e => by have := h ad e; simp at hs4; omega
 have hfw : n4 = 0 ∨ Fresh w a4 := hf4.imp id fun h ad e => by have := h ad e; simp at hs4; omega
 obtain ⟨hbx, hN, hBB⟩ := num_store (cap := cap4) (bC4.below hb5 bC4.lt) (by omega) hBw hn4 hne
 obtain ⟨q0, q1, -, -⟩ := hbx
 clear a0 a1 b1 a0' a1' b1' a0'' a1'' b1'' r0 r1 z0 z1 r0'' r1'' z0'' z1''
 go_wp2
 exact bodyPost_ret (v := .tuple #[.agg #[.bool s4, .slice a4 n4 cap4], .bool true]) (by simp [results, Tryz.results73, go_sem, q0, q1]) rfl ⟨_, _, _, _, rfl, hN, hfw, hBB, h64⟩

set_option maxRecDepth 100000 in
set_option maxHeartbeats 2000000 in
theorem radd_lt_c (sa sb : Bool) (hs : (sa == sb) = false) (aa ab : Option Addr) (na nb ca cb : Nat) (za zb : Int) (hna : na ≤ 64) (hnb : nb ≤ 64) (hlt : za.natAbs < zb.natAbs) (w : World) (ha : IsN w sa aa na za) (hb : IsN w sb ab nb zb) {Z : Int} (HO : Hid (signed sb (zb.natAbs - za.natAbs) = Z)) (HF : Hid (dlen Z.natAbs ≤ 64)) :
 Calls Tryz.prog 73 #[.agg #[.bool sa, .slice aa na ca], .agg #[.bool sb, .slice ab nb cb]] w (CapPost w Z) := by
 have HLA := hide ha.dig.len
 have HLB := hide hb.dig.len
 have HLE : Hid (∀ m, (m = dlen (za.natAbs + zb.natAbs) ∨ m = dlen (za.natAbs * zb.natAbs) ∨ m = dlen (za.natAbs - zb.natAbs) ∨ m = dlen (zb.natAbs - za.natAbs)) → m ≤ 1099511627776) := fun m h => len_le_of ha.dig.len hb.dig.len hna hnb h
 have hcmp : cmpN za.natAbs zb.natAbs < 0 := by rw [cmpN_lt hlt]; decide
 go_enter Tryz.func73, Tryz.ntmps73
 go_wp2_with fail
 obtain ⟨W0, hW0⟩ : ∃ W0, ((w.alloc (Obj.cells #[.bool sa, .slice aa na ca] 25)).alloc (Obj.cells #[.bool sb, .slice ab nb cb] 25)).alloc (Obj.cells #[.bool false, .slice none 0 0] 25) = W0 := ⟨_, rfl⟩
 have bA : Box2 W0 w.heap.size (.bool sa) (.slice aa na ca) := by rw [← hW0]; exact ((Box2.new w _ _ _).alloc _).alloc _
 have bB : Box2 W0 (w.heap.size + 1) (.bool sb) (.slice ab nb cb) := by
  have := (Box2.new (w.alloc (Obj.cells #[.bool sa, .slice aa na ca] 25)) (.bool sb) (.slice ab nb cb) 25).alloc (Obj.cells #[.bool false, .slice none 0 0] 25)
  rw [World.size_alloc] at this; rw [← hW0]; exact this
 have bC : Box2 W0 (w.heap.size + 1 + 1) (.bool false) (.slice none 0 0) := by
  have := Box2.new ((w.alloc (Obj.cells #[.bool sa, .slice aa na ca] 25)).alloc (Obj.cells #[.bool sb, .slice ab nb cb] 25)) (.bool false) (.slice none 0 0) 25
  rw [World.size_alloc, World.size_alloc] at this; rw [← hW0]; exact this
 have hsz : W0.heap.size = w.heap.size + 3 := by rw [← hW0]; simp
 have hB0 : Below w.heap.size w W0 := by rw [← hW0]; exact (((Below.refl _ w).alloc (Nat.le_refl _) _).alloc (by simp) _).alloc (by simp; omega) _
 rw [hW0]
 clear hW0
 refine (rright_arg sa aa na ca (some za) _ ⟨ha.below hB0, hna⟩).mono ?_
 rintro e w1 ⟨rfl, hb1⟩
 have hB1 : Below w.heap.size w w1 := hB0.trans (hb1.mono (by omega))
 have bA1 := bA.below hb1 (by omega)
 have bB1 := bB.below hb1 (by omega)
 have bC1 := bC.below hb1 (by omega)
 obtain ⟨b0, b1, -, -⟩ := bB1
 go_wp2_with fail
 refine (rright_arg sb ab nb cb (some zb) _ ⟨hb.below hB1, hnb⟩).mono ?_
 rintro e w2 ⟨rfl, hb2⟩
 have hB2 : Below w.heap.size w w2 := hB1.trans (hb2.mono hB1.size)
 have bA2 := bA1.below hb2 (by have := hb1.size; omega)
 have bB2 := bB.below (hb1.trans (hb2.mono hb1.size)) (by omega)
 have bC2 := bC1.below hb2 (by have := hb1.size; omega)
 clear b0 b1
 have bC2k := bC2
 have bA2k := bA2
 have bB2k := bB2
 obtain ⟨a0, a1, -, -⟩ := bA2
 obtain ⟨b0, b1, -, -⟩ := bB2
 obtain ⟨r0, r1, z0, z1⟩ := bC2
 go_wp2_with fail
 refine (rcompare_any aa ab za.natAbs zb.natAbs na nb ca cb (by omega) w2 (ha.dig.below hB2) (hb.dig.below hB2)).mono ?_
 rintro e w3 ⟨rfl, hb3⟩
 have hB2 : Below w.heap.size w w3 := hB2.trans (hb3.mono hB2.size)
 have bA2 := bA2k.below hb3 bA2k.lt
 have bB2 := bB2k.below hb3 bB2k.lt
 have bC2 := bC2k.below hb3 bC2k.lt
 clear a0 a1 b0 b1 r0 r1 z0 z1 bA2k bB2k bC2k
 have bC2k := bC2
 obtain ⟨a0, a1, -, -⟩ := bA2
 obtain ⟨b0, b1, -, -⟩ := bB2
 obtain ⟨r0, r1, z0, z1⟩ := bC2
 go_wp2_with fail
 have hX : IsD w3.drew ab nb zb.natAbs := (hb.dig.below hB2).below (Below.drew (Below.refl _ _))
 have hY : IsD w3.drew aa na za.natAbs := (ha.dig.below hB2).below (Below.drew (Below.refl _ _))
 have hlt2 : w.heap.size + 1 + 1 < w3.heap.size := lt_of_cell r0
 go_region_held3 (fun w' => w'.cell? ⟨w.heap.size, 1, none⟩ = some (.slice aa na ca) ∧ w'.cell? ⟨w.heap.size + 1, 0, none⟩ = some (.bool sb) ∧ w'.cell? ⟨w.heap.size + 1, 1, none⟩ = some (.slice ab nb cb))
  (first | exact ⟨a1, b0, b1⟩ | exact ⟨a1', b0', b1'⟩ | exact ⟨a1'', b0'', b1''⟩ | (refine ⟨?_, ?_, ?_⟩ <;> (rw [World.cell?_setCell_far _ _ _ _ (by first | omega | (simp; done) | (simp; omega)), World.cell?_setCell_far _ _ _ _ (by first | omega | (simp; done) | (simp; omega))]; assumption)) | go_keep)
  (first
    | (go_at_call 101; refine (rminus_any ab aa _ _ nb na cb ca (by omega) (by omega) _ hX hY (by omega)).mono ?_; rintro e w4 ⟨a3, n3, cap3, rfl, hd3, hcap3, hfr3, hb4⟩; have a1' := (hb4.cell (p := ⟨w.heap.size, 1, none⟩) (by simp; omega)).trans a1; have b0' := (hb4.cell (p := ⟨w.heap.size + 1, 0, none⟩) (by simp; omega)).trans b0; have b1' := (hb4.cell (p := ⟨w.heap.size + 1, 1, none⟩) (by simp; omega)).trans b1; have bC4 := (bC2k.below (Below.drew (Below.refl _ _)) bC2k.lt : Box2 w3.drew _ _ _).below hb4 bC2k.lt)
    | (go_at_call 56; refine (rsigned_numc sb a3 n3 cap3 _ hcap3 (HLE.out _ (by rw [hd3.len]; simp)) _ hd3 HO HF).mono ?_; rintro e w5 ⟨s4, a4, n4, cap4, rfl, hn4, hf4, hb5, h64⟩; have a1'' := (hb5.cell (p := ⟨w.heap.size, 1, none⟩) (lt_of_cell a1')).trans a1'; have b0'' := (hb5.cell (p := ⟨w.heap.size + 1, 0, none⟩) (lt_of_cell b0')).trans b0'; have b1'' := (hb5.cell (p := ⟨w.heap.size + 1, 1, none⟩) (lt_of_cell b1')).trans b1'; obtain ⟨r0'', r1'', z0'', z1''⟩ := bC4.below hb5 bC4.lt))
 have hs4 := hb4.size
 have hBw : Below w.heap.size w w5 := (hB2.drew.trans (hb4.mono hB2.size)).trans (hb5.mono (Nat.le_trans hB2.size hb4.size))
 have hne : n4 = 0 ∨ ∀ ad, a4 = some ad → ad.block ≠ w.heap.size + 1 + 1 := hf4.imp id fun h ad e => by have := h ad e; simp at hs4; omega
 have hfw : n4 = 0 ∨ Fresh w a4 := hf4.imp id fun h ad e => by have := h ad e; simp at hs4; omega
 obtain ⟨hbx, hN, hBB⟩ := num_store (cap := cap4) (bC4.below hb5 bC4.lt) (by omega) hBw hn4 hne
 obtain ⟨q0, q1, -, -⟩ := hbx
 clear a1 b0 b1 a1' b0' b1' a1'' b0'' b1'' r0 r1 z0 z1 r0'' r1'' z0'' z1''
 go_wp2
 exact bodyPost_ret (v := .tuple #[.agg #[.bool s4, .slice a4 n4 cap4], .bool true]) (by simp [results, Tryz.results73, go_sem, q0, q1]) rfl ⟨_, _, _, _, rfl, hN, hfw, hBB, h64⟩

set_option maxRecDepth 100000 in
set_option maxHeartbeats 2000000 in
theorem radd_ge_c (sa sb : Bool) (hs : (sa == sb) = false) (aa ab : Option Addr) (na nb ca cb : Nat) (za zb : Int) (hna : na ≤ 64) (hnb : nb ≤ 64) (hge : zb.natAbs ≤ za.natAbs) (w : World) (ha : IsN w sa aa na za) (hb : IsN w sb ab nb zb) {Z : Int} (HO : Hid (signed sa (za.natAbs - zb.natAbs) = Z)) (HF : Hid (dlen Z.natAbs ≤ 64)) :
 Calls Tryz.prog 73 #[.agg #[.bool sa, .slice aa na ca], .agg #[.bool sb, .slice ab nb cb]] w (CapPost w Z) := by
 have HLA := hide ha.dig.len
 have HLB := hide hb.dig.len
 have HLE : Hid (∀ m, (m = dlen (za.natAbs + zb.natAbs) ∨ m = dlen (za.natAbs * zb.natAbs) ∨ m = dlen (za.natAbs - zb.natAbs) ∨ m = dlen (zb.natAbs - za.natAbs)) → m ≤ 1099511627776) := fun m h => len_le_of ha.dig.len hb.dig.len hna hnb h
 have hcmp : ¬ cmpN za.natAbs zb.natAbs < 0 := by
  unfold cmpN
  rw [if_neg (by omega)]
  split <;> decide
 go_enter Tryz.func73, Tryz.ntmps73
 go_wp2_with fail
 obtain ⟨W0, hW0⟩ : ∃ W0, ((w.alloc (Obj.cells #[.bool sa, .slice aa na ca] 25)).alloc (Obj.cells #[.bool sb, .slice ab nb cb] 25)).alloc (Obj.cells #[.bool false, .slice none 0 0] 25) = W0 := ⟨_, rfl⟩
 have bA : Box2 W0 w.heap.size (.bool sa) (.slice aa na ca) := by rw [← hW0]; exact ((Box2.new w _ _ _).alloc _).alloc _
 have bB : Box2 W0 (w.heap.size + 1) (.bool sb) (.slice ab nb cb) := by
  have := (Box2.new (w.alloc (Obj.cells #[.bool sa, .slice aa na ca] 25)) (.bool sb) (.slice ab nb cb) 25).alloc (Obj.cells #[.bool false, .slice none 0 0] 25)
  rw [World.size_alloc] at this; rw [← hW0]; exact this
 have bC : Box2 W0 (w.heap.size + 1 + 1) (.bool false) (.slice none 0 0) := by
  have := Box2.new ((w.alloc (Obj.cells #[.bool sa, .slice aa na ca] 25)).alloc (Obj.cells #[.bool sb, .slice ab nb cb] 25)) (.bool false) (.slice none 0 0) 25
  rw [World.size_alloc, World.size_alloc] at this; rw [← hW0]; exact this
 have hsz : W0.heap.size = w.heap.size + 3 := by rw [← hW0]; simp
 have hB0 : Below w.heap.size w W0 := by rw [← hW0]; exact (((Below.refl _ w).alloc (Nat.le_refl _) _).alloc (by simp) _).alloc (by simp; omega) _
 rw [hW0]
 clear hW0
 refine (rright_arg sa aa na ca (some za) _ ⟨ha.below hB0, hna⟩).mono ?_
 rintro e w1 ⟨rfl, hb1⟩
 have hB1 : Below w.heap.size w w1 := hB0.trans (hb1.mono (by omega))
 have bA1 := bA.below hb1 (by omega)
 have bB1 := bB.below hb1 (by omega)
 have bC1 := bC.below hb1 (by omega)
 obtain ⟨b0, b1, -, -⟩ := bB1
 go_wp2_with fail
 refine (rright_arg sb ab nb cb (some zb) _ ⟨hb.below hB1, hnb⟩).mono ?_
 rintro e w2 ⟨rfl, hb2⟩
 have hB2 : Below w.heap.size w w2 := hB1.trans (hb2.mono hB1.size)
 have bA2 := bA1.below hb2 (by have := hb1.size; omega)
 have bB2 := bB.below (hb1.trans (hb2.mono hb1.size)) (by omega)
 have bC2 := bC1.below hb2 (by have := hb1.size; omega)
 clear b0 b1
 have bC2k := bC2
 have bA2k := bA2
 have bB2k := bB2
 obtain ⟨a0, a1, -, -⟩ := bA2
 obtain ⟨b0, b1, -, -⟩ := bB2
 obtain ⟨r0, r1, z0, z1⟩ := bC2
 go_wp2_with fail
 refine (rcompare_any aa ab za.natAbs zb.natAbs na nb ca cb (by omega) w2 (ha.dig.below hB2) (hb.dig.below hB2)).mono ?_
 rintro e w3 ⟨rfl, hb3⟩
 have hB2 : Below w.heap.size w w3 := hB2.trans (hb3.mono hB2.size)
 have bA2 := bA2k.below hb3 bA2k.lt
 have bB2 := bB2k.below hb3 bB2k.lt
 have bC2 := bC2k.below hb3 bC2k.lt
 clear a0 a1 b0 b1 r0 r1 z0 z1 bA2k bB2k bC2k
 have bC2k := bC2
 obtain ⟨a0, a1, -, -⟩ := bA2
 obtain ⟨b0, b1, -, -⟩ := bB2
 obtain ⟨r0, r1, z0, z1⟩ := bC2
 go_wp2_with fail
 have hX : IsD w3.drew aa na za.natAbs := (ha.dig.below hB2).below (Below.drew (Below.refl _ _))
 have hY : IsD w3.drew ab nb zb.natAbs := (hb.dig.below hB2).below (Below.drew (Below.refl _ _))
 have hlt2 : w.heap.size + 1 + 1 < w3.heap.size := lt_of_cell r0
 go_region_held3 (fun w' => w'.cell? ⟨w.heap.size, 0, none⟩ = some (.bool sa) ∧ w'.cell? ⟨w.heap.size, 1, none⟩ = some (.slice aa na ca) ∧ w'.cell? ⟨w.heap.size + 1, 1, none⟩ = some (.slice ab nb cb))
  (first | exact ⟨a0, a1, b1⟩ | exact ⟨a0', a1', b1'⟩ | exact ⟨a0'', a1'', b1''⟩ | (refine ⟨?_, ?_, ?_⟩ <;> (rw [World.cell?_setCell_far _ _ _ _ (by first | omega | (simp; done) | (simp; omega)), World.cell?_setCell_far _ _ _ _ (by first | omega | (simp; done) | (simp; omega))]; assumption)) | go_keep)
  (first
    | (go_at_call 101; refine (rminus_any aa ab _ _ na nb ca cb (by omega) (by omega) _ hX hY (by omega)).mono ?_; rintro e w4 ⟨a3, n3, cap3, rfl, hd3, hcap3, hfr3, hb4⟩; have a0' := (hb4.cell (p := ⟨w.heap.size, 0, none⟩) (by simp; omega)).trans a0; have a1' := (hb4.cell (p := ⟨w.heap.size, 1, none⟩) (by simp; omega)).trans a1; have b1' := (hb4.cell (p := ⟨w.heap.size + 1, 1, none⟩) (by simp; omega)).trans b1; have bC4 := (bC2k.below (Below.drew (Below.refl _ _)) bC2k.lt : Box2 w3.drew _ _ _).below hb4 bC2k.lt)
    | (go_at_call 56; refine (rsigned_numc sa a3 n3 cap3 _ hcap3 (HLE.out _ (by rw [hd3.len]; simp)) _ hd3 HO HF).mono ?_; rintro e w5 ⟨s4, a4, n4, cap4, rfl, hn4, hf4, hb5, h64⟩; have a0'' := (hb5.cell (p := ⟨w.heap.size, 0, none⟩) (lt_of_cell a0')).trans a0'; have a1'' := (hb5.cell (p := ⟨w.heap.size, 1, none⟩) (lt_of_cell a1')).trans a1'; have b1'' := (hb5.cell (p := ⟨w.heap.size + 1, 1, none⟩) (lt_of_cell b1')).trans b1'; obtain ⟨r0'', r1'', z0'', z1''⟩ := bC4.below hb5 bC4.lt))
 have hs4 := hb4.size
 have hBw : Below w.heap.size w w5 := (hB2.drew.trans (hb4.mono hB2.size)).trans (hb5.mono (Nat.le_trans hB2.size hb4.size))
 have hne : n4 = 0 ∨ ∀ ad, a4 = some ad → ad.block ≠ w.heap.size + 1 + 1 := hf4.imp id fun h ad e => by have := h ad e; simp at hs4; omega
 have hfw : n4 = 0 ∨ Fresh w a4 := hf4.imp id fun h ad e => by have := h ad e; simp at hs4; omega
 obtain ⟨hbx, hN, hBB⟩ := num_store (cap := cap4) (bC4.below hb5 bC4.lt) (by omega) hBw hn4 hne
 obtain ⟨q0, q1, -, -⟩ := hbx
 clear a0 a1 b1 a0' a1' b1' a0'' a1'' b1'' r0 r1 z0 z1 r0'' r1'' z0'' z1''
 go_wp2
 exact bodyPost_ret (v := .tuple #[.agg #[.bool s4, .slice a4 n4 cap4], .bool true]) (by simp [results, Tryz.results73, go_sem, q0, q1]) rfl ⟨_, _, _, _, rfl, hN, hfw, hBB, h64⟩

set_option maxRecDepth 100000 in
set_option maxHeartbeats 2000000 in
theorem rmul_num_c (sa sb : Bool) (aa ab : Option Addr) (na nb ca cb : Nat) (za zb : Int) (hna : na ≤ 64) (hnb : nb ≤ 64) (w : World) (ha : IsN w sa aa na za) (hb : IsN w sb ab nb zb) {Z : Int} (HO : Hid (signed (sa != sb) (za.natAbs * zb.natAbs) = Z)) (HF : Hid (dlen Z.natAbs ≤ 64)) :
 Calls Tryz.prog 72 #[.agg #[.bool sa, .slice aa na ca], .agg #[.bool sb, .slice ab nb cb]] w (CapPost w Z) := by
 have HLA := hide ha.dig.len
 have HLB := hide hb.dig.len
 have HLE : Hid (∀ m, (m = dlen (za.natAbs + zb.natAbs) ∨ m = dlen (za.natAbs * zb.natAbs) ∨ m = dlen (za.natAbs - zb.natAbs) ∨ m = dlen (zb.natAbs - za.natAbs)) → m ≤ 1099511627776) := fun m h => len_le_of ha.dig.len hb.dig.len hna hnb h
 go_enter Tryz.func72, Tryz.ntmps72
 go_wp2_with fail
 obtain ⟨W0, hW0⟩ : ∃ W0, ((w.alloc (Obj.cells #[.bool sa, .slice aa na ca] 25)).alloc (Obj.cells #[.bool sb, .slice ab nb cb] 25)).alloc (Obj.cells #[.bool false, .slice none 0 0] 25) = W0 := ⟨_, rfl⟩
 have bA : Box2 W0 w.heap.size (.bool sa) (.slice aa na ca) := by rw [← hW0]; exact ((Box2.new w _ _ _).alloc _).alloc _
 have bB : Box2 W0 (w.heap.size + 1) (.bool sb) (.slice ab nb cb) := by
  have := (Box2.new (w.alloc (Obj.cells #[.bool sa, .slice aa na ca] 25)) (.bool sb) (.slice ab nb cb) 25).alloc (Obj.cells #[.bool false, .slice none 0 0] 25)
  rw [World.size_alloc] at this; rw [← hW0]; exact this
 have bC : Box2 W0 (w.heap.size + 1 + 1) (.bool false) (.slice none 0 0) := by
  have := Box2.new ((w.alloc (Obj.cells #[.bool sa, .slice aa na ca] 25)).alloc (Obj.cells #[.bool sb, .slice ab nb cb] 25)) (.bool false) (.slice none 0 0) 25
  rw [World.size_alloc, World.size_alloc] at this; rw [← hW0]; exact this
 have hsz : W0.heap.size = w.heap.size + 3 := by rw [← hW0]; simp
 have hB0 : Below w.heap.size w W0 := by rw [← hW0]; exact (((Below.refl _ w).alloc (Nat.le_refl _) _).alloc (by simp) _).alloc (by simp; omega) _
 rw [hW0]
 clear hW0
 refine (rright_arg sa aa na ca (some za) _ ⟨ha.below hB0, hna⟩).mono ?_
 rintro e w1 ⟨rfl, hb1⟩
 have hB1 : Below w.heap.size w w1 := hB0.trans (hb1.mono (by omega))
 have bA1 := bA.below hb1 (by omega)
 have bB1 := bB.below hb1 (by omega)
 have bC1 := bC.below hb1 (by omega)
 obtain ⟨b0, b1, -, -⟩ := bB1
 go_wp2_with fail
 refine (rright_arg sb ab nb cb (some zb) _ ⟨hb.below hB1, hnb⟩).mono ?_
 rintro e w2 ⟨rfl, hb2⟩
 have hB2 : Below w.heap.size w w2 := hB1.trans (hb2.mono hB1.size)
 have bA2 := bA1.below hb2 (by have := hb1.size; omega)
 have bB2 := bB.below (hb1.trans (hb2.mono hb1.size)) (by omega)
 have bC2 := bC1.below hb2 (by have := hb1.size; omega)
 clear b0 b1
 have bC2k := bC2
 have bA2k := bA2
 have bB2k := bB2
 obtain ⟨a0, a1, -, -⟩ := bA2
 obtain ⟨b0, b1, -, -⟩ := bB2
 obtain ⟨r0, r1, z0, z1⟩ := bC2
 go_wp2_with fail
 have hX : IsD w2.drew aa na za.natAbs := (ha.dig.below hB2).below (Below.drew (Below.refl _ _))
 have hY : IsD w2.drew ab nb zb.natAbs := (hb.dig.below hB2).below (Below.drew (Below.refl _ _))
 have hlt2 : w.heap.size + 1 + 1 < w2.heap.size := lt_of_cell r0
 go_region_held3 (fun w' => w'.cell? ⟨w.heap.size, 0, none⟩ = some (.bool sa) ∧ w'.cell? ⟨w.heap.size, 1, none⟩ = some (.slice aa na ca) ∧ w'.cell? ⟨w.heap.size + 1, 0, none⟩ = some (.bool sb) ∧ w'.cell? ⟨w.heap.size + 1, 1, none⟩ = some (.slice ab nb cb))
  (first | exact ⟨a0, a1, b0, b1⟩ | exact ⟨a0', a1', b0', b1'⟩ | exact ⟨a0'', a1'', b0'', b1''⟩ | (refine ⟨?_, ?_, ?_, ?_⟩ <;> (rw [World.cell?_setCell_far _ _ _ _ (by first | omega | (simp; done) | (simp; omega)), World.cell?_setCell_far _ _ _ _ (by first | omega | (simp; done) | (simp; omega))]; assumption)) | go_keep)
  (first
    | (go_at_call 99; refine (rtimes_any aa ab _ _ na nb ca cb (by omega) (by omega) _ hX hY).mono ?_; rintro e w4 ⟨a3, n3, cap3, rfl, hd3, hcap3, hfr3, hb4⟩; have a0' := (hb4.cell (p := ⟨w.heap.size, 0, none⟩) (by simp; omega)).trans a0; have a1' := (hb4.cell (p := ⟨w.heap.size, 1, none⟩) (by simp; omega)).trans a1; have b0' := (hb4.cell (p := ⟨w.heap.size + 1, 0, none⟩) (by simp; omega)).trans b0; have b1' := (hb4.cell (p := ⟨w.heap.size + 1, 1, none⟩) (by simp; omega)).trans b1; have bC4 := (bC2k.below (Below.drew (Below.refl _ _)) bC2k.lt : Box2 w2.drew _ _ _).below hb4 bC2k.lt)
    | (go_at_call 56; refine (rsigned_numc (sa != sb) a3 n3 cap3 _ hcap3 (HLE.out _ (by rw [hd3.len]; simp)) _ hd3 HO HF).mono ?_; rintro e w5 ⟨s4, a4, n4, cap4, rfl, hn4, hf4, hb5, h64⟩; have a0'' := (hb5.cell (p := ⟨w.heap.size, 0, none⟩) (lt_of_cell a0')).trans a0'; have a1'' := (hb5.cell (p := ⟨w.heap.size, 1, none⟩) (lt_of_cell a1')).trans a1'; have b0'' := (hb5.cell (p := ⟨w.heap.size + 1, 0, none⟩) (lt_of_cell b0')).trans b0'; have b1'' := (hb5.cell (p := ⟨w.heap.size + 1, 1, none⟩) (lt_of_cell b1')).trans b1'; obtain ⟨r0'', r1'', z0'', z1''⟩ := bC4.below hb5 bC4.lt))
 have hs4 := hb4.size
 have hBw : Below w.heap.size w w5 := (hB2.drew.trans (hb4.mono hB2.size)).trans (hb5.mono (Nat.le_trans hB2.size hb4.size))
 have hne : n4 = 0 ∨ ∀ ad, a4 = some ad → ad.block ≠ w.heap.size + 1 + 1 := hf4.imp id fun h ad e => by have := h ad e; simp at hs4; omega
 have hfw : n4 = 0 ∨ Fresh w a4 := hf4.imp id fun h ad e => by have := h ad e; simp at hs4; omega
 obtain ⟨hbx, hN, hBB⟩ := num_store (cap := cap4) (bC4.below hb5 bC4.lt) (by omega) hBw hn4 hne
 obtain ⟨q0, q1, -, -⟩ := hbx
 clear a0 a1 b0 b1 a0' a1' b0' b1' a0'' a1'' b0'' b1'' r0 r1 z0 z1 r0'' r1'' z0'' z1''
 go_wp2
 exact bodyPost_ret (v := .tuple #[.agg #[.bool s4, .slice a4 n4 cap4], .bool true]) (by simp [results, Tryz.results72, go_sem, q0, q1]) rfl ⟨_, _, _, _, rfl, hN, hfw, hBB, h64⟩

theorem radd_c (sa sb : Bool) (aa ab : Option Addr) (na nb ca cb : Nat) (z v : Int) (hna : na ≤ 64) (hnb : nb ≤ 64) (hf : dlen (z + v).natAbs ≤ 64) (w : World) (ha : IsN w sa aa na z) (hb : IsN w sb ab nb v) :
 Calls Tryz.prog 73 #[.agg #[.bool sa, .slice aa na ca], .agg #[.bool sb, .slice ab nb cb]] w (CapPost w (z + v)) := by
 have h1 := ha.sign
 have h2 := hb.sign
 by_cases hs : sa = sb
 · subst hs
   refine radd_same_c sa aa ab na nb ca cb z v hna hnb w ha hb (hide ?_) (hide hf)
   unfold signed
   cases sa
   · have : ¬ z < 0 := by intro h; simp [h] at h1
     have : ¬ v < 0 := by intro h; simp [h] at h2
     simp; omega
   · have : z < 0 := by simpa using h1.symm
     have : v < 0 := by simpa using h2.symm
     simp; omega
 · have hs' : (sa == sb) = false := by simpa using hs
   by_cases hlt : z.natAbs < v.natAbs
   · refine radd_lt_c sa sb hs' aa ab na nb ca cb z v hna hnb hlt w ha hb (hide ?_) (hide hf)
     unfold signed
     cases sa <;> cases sb <;> simp at hs
     · have : ¬ z < 0 := by intro h; simp [h] at h1
       have : v < 0 := by simpa using h2.symm
       simp; omega
     · have : z < 0 := by simpa using h1.symm
       have : ¬ v < 0 := by intro h; simp [h] at h2
       simp; omega
   · refine radd_ge_c sa sb hs' aa ab na nb ca cb z v hna hnb (by omega) w ha hb (hide ?_) (hide hf)
     unfold signed
     cases sa <;> cases sb <;> simp at hs
     · have : ¬ z < 0 := by intro h; simp [h] at h1
       have : v < 0 := by simpa using h2.symm
       simp; omega
     · have : z < 0 := by simpa using h1.symm
       have : ¬ v < 0 := by intro h; simp [h] at h2
       simp; omega
theorem rmul_c (sa sb : Bool) (aa ab : Option Addr) (na nb ca cb : Nat) (z v : Int) (hna : na ≤ 64) (hnb : nb ≤ 64) (hf : dlen (z * v).natAbs ≤ 64) (w : World) (ha : IsN w sa aa na z) (hb : IsN w sb ab nb v) :
 Calls Tryz.prog 72 #[.agg #[.bool sa, .slice aa na ca], .agg #[.bool sb, .slice ab nb cb]] w (CapPost w (z * v)) := by
 refine rmul_num_c sa sb aa ab na nb ca cb z v hna hnb w ha hb (hide ?_) (hide hf)
 have e1 := signed_self ha
 have e2 := signed_self hb
 generalize z.natAbs = p at e1 ⊢
 generalize v.natAbs = q at e2 ⊢
 rw [e1, e2]
 unfold signed
 cases sa <;> cases sb <;> simp [Int.mul_neg, Int.neg_mul]
end Go.Proofs.YtikepnocefdmnaaGreatDoor

namespace Go.Proofs.YtikepnocefdmnaaGreatDoor
open Go.RowKit Go.Shelf

theorem Held.other {w : World} {B C : Nat} {s s1 : Bool} {a a1 : Option Addr} {n c n1 c1 : Nat} {z : Int} (h : Held w C s a n c z) (q : Box2 w B (.bool s1) (.slice a1 n1 c1)) (hne : C ≠ B) (v0 v1 : Value) : Held ((w.setCell ⟨B, 0, none⟩ v0).setCell ⟨B, 1, none⟩ v1) C s a n c z := ⟨h.box.other v0 v1 hne, h.num.put q v0 v1⟩
theorem number_lt {z r : Int} {i : Nat} (hz : z.natAbs < bp i) (h0 : -4294967296 < r) (h1 : r < 4294967296) : (z * 4294967296 + r).natAbs < bp (i + 1) := by
 have e : bp (i + 1) = bp i * 4294967296 := by unfold bp; exact Nat.pow_succ _ _
 rw [e]; omega
theorem number_lt' {z : Int} {i : Nat} (hz : z.natAbs < bp i) : (z * 4294967296).natAbs < bp (i + 1) := by
 have := number_lt (r := 0) hz (by decide) (by decide)
 rwa [Int.add_zero] at this
theorem tmod_bd' (n : Int) {m : Int} (hm : 0 < m) : -m < Int.tmod n m ∧ Int.tmod n m < m := by
 refine ⟨?_, Int.tmod_lt_of_pos n hm⟩
 by_cases h : n < 0
 · have := Int.tmod_lt_of_pos (-n) hm
   rw [Int.neg_tmod] at this; omega
 · have := Int.tmod_nonneg (a := n) m (by omega); omega
def NumV (w : World) (e : Ending) (w' : World) : Prop :=
 ∃ (z : Int) (s : Bool) (a : Option Addr) (n c : Nat), e = .returned (.agg #[.bool s, .slice a n c]) ∧ IsN w' s a n z ∧ z.natAbs < bp 3 ∧ n ≤ 64 ∧ n ≤ c ∧ Below w.heap.size w w'
set_option maxRecDepth 100000 in
set_option maxHeartbeats 16000000 in
theorem rnumber_0 (ao : Option Addr) (L cap : Nat) (g : Nat → Int) (hL : L ≤ 9223372036854775807) (w : World) (hl : Ints w ao L g) :
 Calls Tryz.prog 53 #[.slice ao L cap, .int .i64 0] w (NumV w) := by
 have HLI := hide hl
 go_enter Tryz.func53, Tryz.ntmps53
 go_wp2_with fail
 obtain ⟨W1, hW1⟩ : ∃ W1, w.alloc (Obj.cells #[.bool false, .slice none 0 0] 25) = W1 := ⟨_, rfl⟩
 have bR : Box2 W1 w.heap.size (.bool false) (.slice none 0 0) := by rw [← hW1]; exact Box2.new _ _ _ _
 have hB : Below w.heap.size w W1 := by rw [← hW1]; exact below_alloc _ _
 try rw [hW1]
 clear hW1
 refine (whole_r 0 (by decide) (by decide) W1).mono ?_
 rintro e u1 ⟨s5, a5, n5, c5, rfl, N5, k5, l5, hk⟩
 have hB := hB.trans (hk.mono hB.size)
 have bR := bR.below hk bR.lt
 clear hk
 obtain ⟨Z5, hZ5⟩ : ∃ Z, u1.alloc (Obj.cells #[.bool false, .slice none 0 0] 25) = Z := ⟨_, rfl⟩
 obtain ⟨W5, hW5⟩ : ∃ W, (Z5.setCell ⟨u1.heap.size, 0, none⟩ (.bool s5)).setCell ⟨u1.heap.size, 1, none⟩ (.slice a5 n5 c5) = W := ⟨_, rfl⟩
 obtain ⟨H5, hk, bx5⟩ := num_new (c := c5) hZ5 hW5 N5
 clear N5
 obtain ⟨B5, hB5⟩ : ∃ B, u1.heap.size = B := ⟨_, rfl⟩
 have lR5 := bR.lt
 rw [hB5] at lR5
 have hB := hB.trans (hk.mono hB.size)
 have bR := bR.below hk bR.lt
 clear hk
 rw [hB5] at hW5 H5 bx5
 obtain ⟨y50, y51, yz50, yz51⟩ := id bx5
 go_wp2_with fail
 try rw [hW5]
 try rw [hB5]
 clear hW5 hB5
 clear y50 y51 yz50 yz51
 refine (whole_r 4294967296 (by decide) (by decide) W5).mono ?_
 rintro e u2 ⟨s6, a6, n6, c6, rfl, N6, k6, l6, hk⟩
 have hB := hB.trans (hk.mono hB.size)
 have bR := bR.below hk bR.lt
 have H5 := H5.below hk
 clear hk
 obtain ⟨Z6, hZ6⟩ : ∃ Z, u2.alloc (Obj.cells #[.bool false, .slice none 0 0] 25) = Z := ⟨_, rfl⟩
 obtain ⟨W6, hW6⟩ : ∃ W, (Z6.setCell ⟨u2.heap.size, 0, none⟩ (.bool s6)).setCell ⟨u2.heap.size, 1, none⟩ (.slice a6 n6 c6) = W := ⟨_, rfl⟩
 obtain ⟨H6, hk, bx6⟩ := num_new (c := c6) hZ6 hW6 N6
 clear N6
 obtain ⟨B6, hB6⟩ : ∃ B, u2.heap.size = B := ⟨_, rfl⟩
 have l56 := H5.box.lt
 rw [hB6] at l56
 have hB := hB.trans (hk.mono hB.size)
 have bR := bR.below hk bR.lt
 have H5 := H5.below hk
 clear hk
 rw [hB6] at hW6 H6 bx6
 obtain ⟨y60, y61, yz60, yz61⟩ := id bx6
 go_wp2_with fail
 try rw [hW6]
 try rw [hB6]
 clear hW6 hB6
 clear y60 y61 yz60 yz61
 clear l6
 go_loopw [7] (fun i wr => ∃ (k : Nat) (z : Int) (s : Bool) (a : Option Addr) (n c : Nat), 0 ≤ k ∧ k ≤ 3 ∧ i = .int .i64 (k : Int) ∧ z.natAbs < bp (k - 0) ∧ n ≤ c ∧ n ≤ 64 ∧ Held wr B5 s a n c z ∧ Held wr B6 s6 a6 n6 c6 4294967296 ∧ Box2 wr w.heap.size (.bool false) (.slice none 0 0) ∧ Below w.heap.size w wr) (fun i _ => 3 - (intOf i).toNat)
 case atStart => exact ⟨0, 0, s5, a5, n5, c5, by decide, by decide, rfl, by decide, l5, k5, H5, H6, bR, hB⟩
 case round =>
  clear H5 H6 bR hB k5 l5
  obtain ⟨k, z, s, a, n, c, hk0, hk1, rfl, hz, hnc, hn, H5, H6, bR, hB⟩ := hrel
  by_cases hgo : k < L ∧ k < 3
  case pos =>
   obtain ⟨hg1, hg2⟩ := hgo
   obtain ⟨b, off, rfl, hc⟩ : ∃ b off, ao = some ⟨b, off, none⟩ ∧ ∀ j, j < L → w.cell? ⟨b, off + j, none⟩ = some (.int .i64 (g j)) := HLI.out.resolve_left (by omega)
   have hx := hc k hg1
   clear hc
   have hbw := lt_of_cell hx
   obtain ⟨r0, r1⟩ := tmod_bd' (g k) (show (0 : Int) < 4294967296 by decide)
   obtain ⟨r, hr⟩ : ∃ r, Int.tmod (g k) 4294967296 = r := ⟨_, rfl⟩
   rw [hr] at r0 r1
   have q1 : (k : Int) < (L : Int) := by omega
   have q2 : (k : Int) < 3 := by omega
   have q0 : (0 : Int) ≤ (k : Int) := by omega
   have z1 := fit_of (number_lt' hz) (by omega : k - 0 + 1 ≤ 64)
   have hz2 := number_lt hz r0 r1
   have z2 := fit_of hz2 (by omega : k - 0 + 1 ≤ 64)
   have HZ := hide (And.intro z1 (And.intro hz2 z2))
   have HKK := hide (And.intro hk0 (And.intro hg1 hg2))
   have l5 : w.heap.size < B5 := lR5
   have q56 : B6 ≠ B5 := by omega
   have qR5 : w.heap.size ≠ B5 := by omega
   clear z1 z2 hz2 hz hk0 hk1 hg1 hg2 hnc
   obtain ⟨x10, x11, -, -⟩ := id H5.box
   obtain ⟨x20, x21, -, -⟩ := id H6.box
   go_wp2_with fail
   clear x10 x11 x20 x21
   refine (rmul_c s s6 a a6 n n6 c c6 z 4294967296 hn k6 HZ.out.1 wr H5.num H6.num).mono ?_
   rintro e u3 ⟨s7, a7, n7, c7, rfl, N7, -, hk, l7⟩
   have hB := hB.trans (hk.mono hB.size)
   have H5 := H5.below hk
   have H6 := H6.below hk
   have bR := bR.below hk bR.lt
   clear hk
   have k7 : n7 ≤ 64 := by rw [N7.dig.len]; exact HZ.out.1
   obtain ⟨W7, hW7⟩ : ∃ W, (u3.setCell ⟨B5, 0, none⟩ (.bool s7)).setCell ⟨B5, 1, none⟩ (.slice a7 n7 c7) = W := ⟨_, rfl⟩
   have H5n : Held W7 B5 s7 a7 n7 c7 (z * 4294967296) := by rw [← hW7]; exact Held.put N7 H5.box
   have H6 : Held W7 B6 s6 a6 n6 c6 4294967296 := by rw [← hW7]; exact H6.other H5.box q56 _ _
   have bR : Box2 W7 w.heap.size (.bool false) (.slice none 0 0) := by rw [← hW7]; exact bR.other _ _ qR5
   have hB : Below w.heap.size w W7 := by rw [← hW7]; exact below_set2 hB (Nat.le_of_lt l5) _ _
   have ho := id H5.box
   have H5 := H5n
   clear H5n N7 hn l7
   obtain ⟨y0, y1, yz0, yz1⟩ := id ho
   go_wp2_with fail
   try rw [hW7]
   clear hW7
   clear y0 y1 yz0 yz1
   clear ho
   have hB := hB.drew
   have H5 := H5.below (Below.drew (Below.refl W7.heap.size W7))
   have H6 := H6.below (Below.drew (Below.refl W7.heap.size W7))
   have bR : Box2 W7.drew _ _ _ := bR.below (Below.drew (Below.refl _ _)) bR.lt
   refine wp_region_held_drew (S := fun w' => Below (w.heap.size) W7.drew w') (by kernel_rfl) (Below.refl _ _) (fun hHeld => ?_)
   obtain ⟨WE, hWE⟩ : ∃ W, W7.drew = W := ⟨_, rfl⟩
   rw [hWE] at hB H5 H6 bR hHeld ⊢
   clear hWE
   have hE := Below.refl WE.heap.size WE
   have lS : w.heap.size ≤ WE.heap.size := hB.size
   have hS : Below w.heap.size WE WE := Below.refl _ _
   have hx : WE.cell? ⟨b, off + k, none⟩ = some (.int .i64 (g k)) := (hB.cell (p := ⟨b, off + k, none⟩) hbw).trans hx
   refine tk 1 (.slice (some ⟨b, off, none⟩) L cap) 31 rfl rfl ?_
   simp only [Act.put, pA, pB, pC]
   refine tk 2 (.int .i64 (k : Int)) 32 rfl rfl ?_
   simp only [Act.put, pA, pB, pC]
   refine tk 3 (.pointer (some ⟨b, off + k, none⟩)) 33 rfl rfl ?_
   simp only [Act.put, pA, pB, pC]
   refine tk 4 (.int .i64 (g k)) 34 rfl rfl ?_ (Or.inl ⟨by rfl, fun w' hSw => by have q0 := (hSw.cell (p := ⟨b, off + k, none⟩) hbw).trans hx; go_simp⟩)
   simp only [Act.put, pA, pB, pC]
   refine tk 5 (.int .i64 r) 35 rfl rfl ?_
   simp only [Act.put, pA, pB, pC]
   refine wpAnyH_twoR 0 6 (by kernel_rfl) ?g1 ?g2
   case' g1 =>
    obtain ⟨y0, y1, -, -⟩ := id H5.box
    refine wpOp_run (i := 0) rfl ?_
    go_simp
    clear y0 y1
    refine wpAnyH_one 6 (by kernel_rfl) ?_
    refine wpOp_call (i := 6) (f := 55) (args := #[.int .i64 r]) 36 rfl rfl (by rfl) (by go_simp) ?_
    refine (whole_r r (by omega) (by omega) WE).mono ?_
    rintro e r1 ⟨s8, a8, n8, c8, rfl, N8, k8, l8, hk⟩
    have hE := hE.trans (hk.mono hE.size)
    have H5 := H5.below hk
    have H6 := H6.below hk
    have bR := bR.below hk bR.lt
    have hS : Below w.heap.size WE r1 := hE.mono lS
    refine ⟨_, rfl, hS, ?_⟩
    simp only [Act.put, pA, pB, pC]
    refine wpAnyH_one 7 (by kernel_rfl) ?_
    refine wpOp_call (i := 7) (f := 73) (args := #[.agg #[.bool s7, .slice a7 n7 c7], .agg #[.bool s8, .slice a8 n8 c8]]) 37 rfl rfl (by rfl) (by go_simp) ?_
    refine (radd_c s7 s8 a7 a8 n7 n8 c7 c8 (z * 4294967296) r k7 k8 HZ.out.2.2 r1 H5.num N8).mono ?_
    rintro e r2 ⟨s9, a9, n9, c9, rfl, N9, -, hk, l9⟩
    have hE := hE.trans (hk.mono hE.size)
    have H5 := H5.below hk
    have H6 := H6.below hk
    have N8 := N8.below hk
    have bR := bR.below hk bR.lt
    have k9 : n9 ≤ 64 := by rw [N9.dig.len]; exact HZ.out.2.2
    have hS : Below w.heap.size WE r2 := hE.mono lS
    refine ⟨_, rfl, hS, ?_⟩
    simp only [Act.put, pA, pB, pC]
    refine tk 8 (.tuple #[.agg #[.bool s9, .slice a9 n9 c9], .bool true]) 29 rfl rfl ?_
    simp only [Act.put, pA, pB, pC]
    refine tk 9 (.agg #[.bool s9, .slice a9 n9 c9]) 38 rfl rfl ?_
    simp only [Act.put, pA, pB, pC]
    refine tk 10 (.bool true) 39 rfl rfl ?_
    simp only [Act.put, pA, pB, pC]
    refine wpAnyH_one 11 (by kernel_rfl) ?_
    obtain ⟨Wz, hWz⟩ : ∃ W, (r2.setCell ⟨B5, 0, none⟩ (.bool s9)).setCell ⟨B5, 1, none⟩ (.slice a9 n9 c9) = W := ⟨_, rfl⟩
    have H5n : Held Wz B5 s9 a9 n9 c9 (z * 4294967296 + r) := by rw [← hWz]; exact Held.put N9 H5.box
    have H6 : Held Wz B6 s6 a6 n6 c6 4294967296 := by rw [← hWz]; exact H6.other H5.box q56 _ _
    have bR : Box2 Wz w.heap.size (.bool false) (.slice none 0 0) := by rw [← hWz]; exact bR.other _ _ qR5
    have hS : Below w.heap.size WE Wz := by rw [← hWz]; exact below_set2 hS (Nat.le_of_lt l5) _ _
    obtain ⟨y0, y1, yz0, yz1⟩ := id H5.box
    have H5 := H5n
    clear H5n N9
    refine wpOp_run (i := 11) rfl ?_
    go_simp
    try rw [hWz]
    try refine ⟨hS, ?_⟩
    clear y0 y1 yz0 yz1 hWz
    refine wpAnyH_done (by kernel_rfl) ?_ _
   case' g2 =>
    refine wpOp_call (i := 6) (f := 55) (args := #[.int .i64 r]) 36 rfl rfl (by rfl) (by go_simp) ?_
    refine (whole_r r (by omega) (by omega) WE).mono ?_
    rintro e r3 ⟨s8, a8, n8, c8, rfl, N8, k8, l8, hk⟩
    have hE := hE.trans (hk.mono hE.size)
    have H5 := H5.below hk
    have H6 := H6.below hk
    have bR := bR.below hk bR.lt
    have hS : Below w.heap.size WE r3 := hE.mono lS
    refine ⟨_, rfl, hS, ?_⟩
    simp only [Act.put, pA, pB, pC]
    refine wpAnyH_one 0 (by kernel_rfl) ?_
    obtain ⟨y0, y1, -, -⟩ := id H5.box
    refine wpOp_run (i := 0) rfl ?_
    go_simp
    clear y0 y1
    refine wpAnyH_one 7 (by kernel_rfl) ?_
    refine wpOp_call (i := 7) (f := 73) (args := #[.agg #[.bool s7, .slice a7 n7 c7], .agg #[.bool s8, .slice a8 n8 c8]]) 37 rfl rfl (by rfl) (by go_simp) ?_
    refine (radd_c s7 s8 a7 a8 n7 n8 c7 c8 (z * 4294967296) r k7 k8 HZ.out.2.2 r3 H5.num N8).mono ?_
    rintro e r4 ⟨s9, a9, n9, c9, rfl, N9, -, hk, l9⟩
    have hE := hE.trans (hk.mono hE.size)
    have H5 := H5.below hk
    have H6 := H6.below hk
    have N8 := N8.below hk
    have bR := bR.below hk bR.lt
    have k9 : n9 ≤ 64 := by rw [N9.dig.len]; exact HZ.out.2.2
    have hS : Below w.heap.size WE r4 := hE.mono lS
    refine ⟨_, rfl, hS, ?_⟩
    simp only [Act.put, pA, pB, pC]
    refine tk 8 (.tuple #[.agg #[.bool s9, .slice a9 n9 c9], .bool true]) 29 rfl rfl ?_
    simp only [Act.put, pA, pB, pC]
    refine tk 9 (.agg #[.bool s9, .slice a9 n9 c9]) 38 rfl rfl ?_
    simp only [Act.put, pA, pB, pC]
    refine tk 10 (.bool true) 39 rfl rfl ?_
    simp only [Act.put, pA, pB, pC]
    refine wpAnyH_one 11 (by kernel_rfl) ?_
    obtain ⟨Wz, hWz⟩ : ∃ W, (r4.setCell ⟨B5, 0, none⟩ (.bool s9)).setCell ⟨B5, 1, none⟩ (.slice a9 n9 c9) = W := ⟨_, rfl⟩
    have H5n : Held Wz B5 s9 a9 n9 c9 (z * 4294967296 + r) := by rw [← hWz]; exact Held.put N9 H5.box
    have H6 : Held Wz B6 s6 a6 n6 c6 4294967296 := by rw [← hWz]; exact H6.other H5.box q56 _ _
    have bR : Box2 Wz w.heap.size (.bool false) (.slice none 0 0) := by rw [← hWz]; exact bR.other _ _ qR5
    have hS : Below w.heap.size WE Wz := by rw [← hWz]; exact below_set2 hS (Nat.le_of_lt l5) _ _
    obtain ⟨y0, y1, yz0, yz1⟩ := id H5.box
    have H5 := H5n
    clear H5n N9
    refine wpOp_run (i := 11) rfl ?_
    go_simp
    try rw [hWz]
    try refine ⟨hS, ?_⟩
    clear y0 y1 yz0 yz1 hWz
    refine wpAnyH_done (by kernel_rfl) ?_ _
   all_goals
    have hB := hB.trans hS
    clear hE hS lS hx hHeld
    go_wp2
    go_roundw
    case rel => exact ⟨k + 1, z * 4294967296 + r, s9, a9, n9, c9, by have := HKK.out.1; omega, by have := HKK.out.2.2; omega, by go_num, by rw [show k + 1 - 0 = k - 0 + 1 by have := HKK.out.1; omega]; exact HZ.out.2.1, l9, k9, H5, H6, bR, hB⟩
    case measure => simp [intOf]; have := HKK.out.2.2; omega
  case neg =>
   have hz3 := lt_mono hz (by omega : k - 0 ≤ 3)
   have K2 := hide hz3
   clear hz3
   by_cases hlt : k < L
   case pos =>
    have h3 : k = 3 := by omega
    subst h3
    have q1 : (3 : Int) < (L : Int) := by omega
    clear hgo hz hk0 hk1
    have N9 := H5.num
    have o5 := id H5.box
    clear H6
    obtain ⟨Wz, hWz⟩ : ∃ W, (wr.setCell ⟨w.heap.size, 0, none⟩ (.bool s)).setCell ⟨w.heap.size, 1, none⟩ (.slice a n c) = W := ⟨_, rfl⟩
    have hQ := bR.set (.bool s) (.slice a n c)
    have hBz := below_set2 hB (B := w.heap.size) (by omega) (.bool s) (.slice a n c)
    have N9 := N9.put bR (.bool s) (.slice a n c)
    rw [hWz] at hQ hBz N9
    have K := hide (And.intro hQ (And.intro N9 hBz))
    have HWz := hide hWz
    clear hQ hBz hWz N9
    obtain ⟨x90, x91, z90, z91⟩ := id bR
    obtain ⟨x10, x11, -, -⟩ := id o5
    go_wp2
    obtain ⟨⟨q0, q1, -, -⟩, P1, hBB⟩ := K.out
    rw [HWz.out]
    exact bodyPost_ret (v := .agg #[.bool s, .slice a n c]) (by simp [results, Tryz.results53, go_sem, q0, q1]) rfl ⟨_, _, _, _, _, rfl, P1, K2.out, hn, hnc, hBB⟩
   case neg =>
    have q1 : decide ((k : Int) < (L : Int)) = false := decide_eq_false (by omega)
    clear hgo hz hk0 hk1
    have N9 := H5.num
    have o5 := id H5.box
    clear H6
    obtain ⟨Wz, hWz⟩ : ∃ W, (wr.setCell ⟨w.heap.size, 0, none⟩ (.bool s)).setCell ⟨w.heap.size, 1, none⟩ (.slice a n c) = W := ⟨_, rfl⟩
    have hQ := bR.set (.bool s) (.slice a n c)
    have hBz := below_set2 hB (B := w.heap.size) (by omega) (.bool s) (.slice a n c)
    have N9 := N9.put bR (.bool s) (.slice a n c)
    rw [hWz] at hQ hBz N9
    have K := hide (And.intro hQ (And.intro N9 hBz))
    have HWz := hide hWz
    clear hQ hBz hWz N9
    obtain ⟨x90, x91, z90, z91⟩ := id bR
    obtain ⟨x10, x11, -, -⟩ := id o5
    go_wp2
    obtain ⟨⟨q0, q1, -, -⟩, P1, hBB⟩ := K.out
    rw [HWz.out]
    exact bodyPost_ret (v := .agg #[.bool s, .slice a n c]) (by simp [results, Tryz.results53, go_sem, q0, q1]) rfl ⟨_, _, _, _, _, rfl, P1, K2.out, hn, hnc, hBB⟩
set_option maxRecDepth 100000 in
set_option maxHeartbeats 16000000 in
theorem rnumber_3 (ao : Option Addr) (L cap : Nat) (g : Nat → Int) (hL : L ≤ 9223372036854775807) (w : World) (hl : Ints w ao L g) :
 Calls Tryz.prog 53 #[.slice ao L cap, .int .i64 3] w (NumV w) := by
 have HLI := hide hl
 go_enter Tryz.func53, Tryz.ntmps53
 go_wp2_with fail
 obtain ⟨W1, hW1⟩ : ∃ W1, w.alloc (Obj.cells #[.bool false, .slice none 0 0] 25) = W1 := ⟨_, rfl⟩
 have bR : Box2 W1 w.heap.size (.bool false) (.slice none 0 0) := by rw [← hW1]; exact Box2.new _ _ _ _
 have hB : Below w.heap.size w W1 := by rw [← hW1]; exact below_alloc _ _
 try rw [hW1]
 clear hW1
 refine (whole_r 0 (by decide) (by decide) W1).mono ?_
 rintro e u1 ⟨s5, a5, n5, c5, rfl, N5, k5, l5, hk⟩
 have hB := hB.trans (hk.mono hB.size)
 have bR := bR.below hk bR.lt
 clear hk
 obtain ⟨Z5, hZ5⟩ : ∃ Z, u1.alloc (Obj.cells #[.bool false, .slice none 0 0] 25) = Z := ⟨_, rfl⟩
 obtain ⟨W5, hW5⟩ : ∃ W, (Z5.setCell ⟨u1.heap.size, 0, none⟩ (.bool s5)).setCell ⟨u1.heap.size, 1, none⟩ (.slice a5 n5 c5) = W := ⟨_, rfl⟩
 obtain ⟨H5, hk, bx5⟩ := num_new (c := c5) hZ5 hW5 N5
 clear N5
 obtain ⟨B5, hB5⟩ : ∃ B, u1.heap.size = B := ⟨_, rfl⟩
 have lR5 := bR.lt
 rw [hB5] at lR5
 have hB := hB.trans (hk.mono hB.size)
 have bR := bR.below hk bR.lt
 clear hk
 rw [hB5] at hW5 H5 bx5
 obtain ⟨y50, y51, yz50, yz51⟩ := id bx5
 go_wp2_with fail
 try rw [hW5]
 try rw [hB5]
 clear hW5 hB5
 clear y50 y51 yz50 yz51
 refine (whole_r 4294967296 (by decide) (by decide) W5).mono ?_
 rintro e u2 ⟨s6, a6, n6, c6, rfl, N6, k6, l6, hk⟩
 have hB := hB.trans (hk.mono hB.size)
 have bR := bR.below hk bR.lt
 have H5 := H5.below hk
 clear hk
 obtain ⟨Z6, hZ6⟩ : ∃ Z, u2.alloc (Obj.cells #[.bool false, .slice none 0 0] 25) = Z := ⟨_, rfl⟩
 obtain ⟨W6, hW6⟩ : ∃ W, (Z6.setCell ⟨u2.heap.size, 0, none⟩ (.bool s6)).setCell ⟨u2.heap.size, 1, none⟩ (.slice a6 n6 c6) = W := ⟨_, rfl⟩
 obtain ⟨H6, hk, bx6⟩ := num_new (c := c6) hZ6 hW6 N6
 clear N6
 obtain ⟨B6, hB6⟩ : ∃ B, u2.heap.size = B := ⟨_, rfl⟩
 have l56 := H5.box.lt
 rw [hB6] at l56
 have hB := hB.trans (hk.mono hB.size)
 have bR := bR.below hk bR.lt
 have H5 := H5.below hk
 clear hk
 rw [hB6] at hW6 H6 bx6
 obtain ⟨y60, y61, yz60, yz61⟩ := id bx6
 go_wp2_with fail
 try rw [hW6]
 try rw [hB6]
 clear hW6 hB6
 clear y60 y61 yz60 yz61
 clear l6
 go_loopw [7] (fun i wr => ∃ (k : Nat) (z : Int) (s : Bool) (a : Option Addr) (n c : Nat), 3 ≤ k ∧ k ≤ 6 ∧ i = .int .i64 (k : Int) ∧ z.natAbs < bp (k - 3) ∧ n ≤ c ∧ n ≤ 64 ∧ Held wr B5 s a n c z ∧ Held wr B6 s6 a6 n6 c6 4294967296 ∧ Box2 wr w.heap.size (.bool false) (.slice none 0 0) ∧ Below w.heap.size w wr) (fun i _ => 6 - (intOf i).toNat)
 case atStart => exact ⟨3, 0, s5, a5, n5, c5, by decide, by decide, rfl, by decide, l5, k5, H5, H6, bR, hB⟩
 case round =>
  clear H5 H6 bR hB k5 l5
  obtain ⟨k, z, s, a, n, c, hk0, hk1, rfl, hz, hnc, hn, H5, H6, bR, hB⟩ := hrel
  by_cases hgo : k < L ∧ k < 6
  case pos =>
   obtain ⟨hg1, hg2⟩ := hgo
   obtain ⟨b, off, rfl, hc⟩ : ∃ b off, ao = some ⟨b, off, none⟩ ∧ ∀ j, j < L → w.cell? ⟨b, off + j, none⟩ = some (.int .i64 (g j)) := HLI.out.resolve_left (by omega)
   have hx := hc k hg1
   clear hc
   have hbw := lt_of_cell hx
   obtain ⟨r0, r1⟩ := tmod_bd' (g k) (show (0 : Int) < 4294967296 by decide)
   obtain ⟨r, hr⟩ : ∃ r, Int.tmod (g k) 4294967296 = r := ⟨_, rfl⟩
   rw [hr] at r0 r1
   have q1 : (k : Int) < (L : Int) := by omega
   have q2 : (k : Int) < 6 := by omega
   have q0 : (0 : Int) ≤ (k : Int) := by omega
   have z1 := fit_of (number_lt' hz) (by omega : k - 3 + 1 ≤ 64)
   have hz2 := number_lt hz r0 r1
   have z2 := fit_of hz2 (by omega : k - 3 + 1 ≤ 64)
   have HZ := hide (And.intro z1 (And.intro hz2 z2))
   have HKK := hide (And.intro hk0 (And.intro hg1 hg2))
   have l5 : w.heap.size < B5 := lR5
   have q56 : B6 ≠ B5 := by omega
   have qR5 : w.heap.size ≠ B5 := by omega
   clear z1 z2 hz2 hz hk0 hk1 hg1 hg2 hnc
   obtain ⟨x10, x11, -, -⟩ := id H5.box
   obtain ⟨x20, x21, -, -⟩ := id H6.box
   go_wp2_with fail
   clear x10 x11 x20 x21
   refine (rmul_c s s6 a a6 n n6 c c6 z 4294967296 hn k6 HZ.out.1 wr H5.num H6.num).mono ?_
   rintro e u3 ⟨s7, a7, n7, c7, rfl, N7, -, hk, l7⟩
   have hB := hB.trans (hk.mono hB.size)
   have H5 := H5.below hk
   have H6 := H6.below hk
   have bR := bR.below hk bR.lt
   clear hk
   have k7 : n7 ≤ 64 := by rw [N7.dig.len]; exact HZ.out.1
   obtain ⟨W7, hW7⟩ : ∃ W, (u3.setCell ⟨B5, 0, none⟩ (.bool s7)).setCell ⟨B5, 1, none⟩ (.slice a7 n7 c7) = W := ⟨_, rfl⟩
   have H5n : Held W7 B5 s7 a7 n7 c7 (z * 4294967296) := by rw [← hW7]; exact Held.put N7 H5.box
   have H6 : Held W7 B6 s6 a6 n6 c6 4294967296 := by rw [← hW7]; exact H6.other H5.box q56 _ _
   have bR : Box2 W7 w.heap.size (.bool false) (.slice none 0 0) := by rw [← hW7]; exact bR.other _ _ qR5
   have hB : Below w.heap.size w W7 := by rw [← hW7]; exact below_set2 hB (Nat.le_of_lt l5) _ _
   have ho := id H5.box
   have H5 := H5n
   clear H5n N7 hn l7
   obtain ⟨y0, y1, yz0, yz1⟩ := id ho
   go_wp2_with fail
   try rw [hW7]
   clear hW7
   clear y0 y1 yz0 yz1
   clear ho
   have hB := hB.drew
   have H5 := H5.below (Below.drew (Below.refl W7.heap.size W7))
   have H6 := H6.below (Below.drew (Below.refl W7.heap.size W7))
   have bR : Box2 W7.drew _ _ _ := bR.below (Below.drew (Below.refl _ _)) bR.lt
   refine wp_region_held_drew (S := fun w' => Below (w.heap.size) W7.drew w') (by kernel_rfl) (Below.refl _ _) (fun hHeld => ?_)
   obtain ⟨WE, hWE⟩ : ∃ W, W7.drew = W := ⟨_, rfl⟩
   rw [hWE] at hB H5 H6 bR hHeld ⊢
   clear hWE
   have hE := Below.refl WE.heap.size WE
   have lS : w.heap.size ≤ WE.heap.size := hB.size
   have hS : Below w.heap.size WE WE := Below.refl _ _
   have hx : WE.cell? ⟨b, off + k, none⟩ = some (.int .i64 (g k)) := (hB.cell (p := ⟨b, off + k, none⟩) hbw).trans hx
   refine tk 1 (.slice (some ⟨b, off, none⟩) L cap) 31 rfl rfl ?_
   simp only [Act.put, pA, pB, pC]
   refine tk 2 (.int .i64 (k : Int)) 32 rfl rfl ?_
   simp only [Act.put, pA, pB, pC]
   refine tk 3 (.pointer (some ⟨b, off + k, none⟩)) 33 rfl rfl ?_
   simp only [Act.put, pA, pB, pC]
   refine tk 4 (.int .i64 (g k)) 34 rfl rfl ?_ (Or.inl ⟨by rfl, fun w' hSw => by have q0 := (hSw.cell (p := ⟨b, off + k, none⟩) hbw).trans hx; go_simp⟩)
   simp only [Act.put, pA, pB, pC]
   refine tk 5 (.int .i64 r) 35 rfl rfl ?_
   simp only [Act.put, pA, pB, pC]
   refine wpAnyH_twoR 0 6 (by kernel_rfl) ?g1 ?g2
   case' g1 =>
    obtain ⟨y0, y1, -, -⟩ := id H5.box
    refine wpOp_run (i := 0) rfl ?_
    go_simp
    clear y0 y1
    refine wpAnyH_one 6 (by kernel_rfl) ?_
    refine wpOp_call (i := 6) (f := 55) (args := #[.int .i64 r]) 36 rfl rfl (by rfl) (by go_simp) ?_
    refine (whole_r r (by omega) (by omega) WE).mono ?_
    rintro e r1 ⟨s8, a8, n8, c8, rfl, N8, k8, l8, hk⟩
    have hE := hE.trans (hk.mono hE.size)
    have H5 := H5.below hk
    have H6 := H6.below hk
    have bR := bR.below hk bR.lt
    have hS : Below w.heap.size WE r1 := hE.mono lS
    refine ⟨_, rfl, hS, ?_⟩
    simp only [Act.put, pA, pB, pC]
    refine wpAnyH_one 7 (by kernel_rfl) ?_
    refine wpOp_call (i := 7) (f := 73) (args := #[.agg #[.bool s7, .slice a7 n7 c7], .agg #[.bool s8, .slice a8 n8 c8]]) 37 rfl rfl (by rfl) (by go_simp) ?_
    refine (radd_c s7 s8 a7 a8 n7 n8 c7 c8 (z * 4294967296) r k7 k8 HZ.out.2.2 r1 H5.num N8).mono ?_
    rintro e r2 ⟨s9, a9, n9, c9, rfl, N9, -, hk, l9⟩
    have hE := hE.trans (hk.mono hE.size)
    have H5 := H5.below hk
    have H6 := H6.below hk
    have N8 := N8.below hk
    have bR := bR.below hk bR.lt
    have k9 : n9 ≤ 64 := by rw [N9.dig.len]; exact HZ.out.2.2
    have hS : Below w.heap.size WE r2 := hE.mono lS
    refine ⟨_, rfl, hS, ?_⟩
    simp only [Act.put, pA, pB, pC]
    refine tk 8 (.tuple #[.agg #[.bool s9, .slice a9 n9 c9], .bool true]) 29 rfl rfl ?_
    simp only [Act.put, pA, pB, pC]
    refine tk 9 (.agg #[.bool s9, .slice a9 n9 c9]) 38 rfl rfl ?_
    simp only [Act.put, pA, pB, pC]
    refine tk 10 (.bool true) 39 rfl rfl ?_
    simp only [Act.put, pA, pB, pC]
    refine wpAnyH_one 11 (by kernel_rfl) ?_
    obtain ⟨Wz, hWz⟩ : ∃ W, (r2.setCell ⟨B5, 0, none⟩ (.bool s9)).setCell ⟨B5, 1, none⟩ (.slice a9 n9 c9) = W := ⟨_, rfl⟩
    have H5n : Held Wz B5 s9 a9 n9 c9 (z * 4294967296 + r) := by rw [← hWz]; exact Held.put N9 H5.box
    have H6 : Held Wz B6 s6 a6 n6 c6 4294967296 := by rw [← hWz]; exact H6.other H5.box q56 _ _
    have bR : Box2 Wz w.heap.size (.bool false) (.slice none 0 0) := by rw [← hWz]; exact bR.other _ _ qR5
    have hS : Below w.heap.size WE Wz := by rw [← hWz]; exact below_set2 hS (Nat.le_of_lt l5) _ _
    obtain ⟨y0, y1, yz0, yz1⟩ := id H5.box
    have H5 := H5n
    clear H5n N9
    refine wpOp_run (i := 11) rfl ?_
    go_simp
    try rw [hWz]
    try refine ⟨hS, ?_⟩
    clear y0 y1 yz0 yz1 hWz
    refine wpAnyH_done (by kernel_rfl) ?_ _
   case' g2 =>
    refine wpOp_call (i := 6) (f := 55) (args := #[.int .i64 r]) 36 rfl rfl (by rfl) (by go_simp) ?_
    refine (whole_r r (by omega) (by omega) WE).mono ?_
    rintro e r3 ⟨s8, a8, n8, c8, rfl, N8, k8, l8, hk⟩
    have hE := hE.trans (hk.mono hE.size)
    have H5 := H5.below hk
    have H6 := H6.below hk
    have bR := bR.below hk bR.lt
    have hS : Below w.heap.size WE r3 := hE.mono lS
    refine ⟨_, rfl, hS, ?_⟩
    simp only [Act.put, pA, pB, pC]
    refine wpAnyH_one 0 (by kernel_rfl) ?_
    obtain ⟨y0, y1, -, -⟩ := id H5.box
    refine wpOp_run (i := 0) rfl ?_
    go_simp
    clear y0 y1
    refine wpAnyH_one 7 (by kernel_rfl) ?_
    refine wpOp_call (i := 7) (f := 73) (args := #[.agg #[.bool s7, .slice a7 n7 c7], .agg #[.bool s8, .slice a8 n8 c8]]) 37 rfl rfl (by rfl) (by go_simp) ?_
    refine (radd_c s7 s8 a7 a8 n7 n8 c7 c8 (z * 4294967296) r k7 k8 HZ.out.2.2 r3 H5.num N8).mono ?_
    rintro e r4 ⟨s9, a9, n9, c9, rfl, N9, -, hk, l9⟩
    have hE := hE.trans (hk.mono hE.size)
    have H5 := H5.below hk
    have H6 := H6.below hk
    have N8 := N8.below hk
    have bR := bR.below hk bR.lt
    have k9 : n9 ≤ 64 := by rw [N9.dig.len]; exact HZ.out.2.2
    have hS : Below w.heap.size WE r4 := hE.mono lS
    refine ⟨_, rfl, hS, ?_⟩
    simp only [Act.put, pA, pB, pC]
    refine tk 8 (.tuple #[.agg #[.bool s9, .slice a9 n9 c9], .bool true]) 29 rfl rfl ?_
    simp only [Act.put, pA, pB, pC]
    refine tk 9 (.agg #[.bool s9, .slice a9 n9 c9]) 38 rfl rfl ?_
    simp only [Act.put, pA, pB, pC]
    refine tk 10 (.bool true) 39 rfl rfl ?_
    simp only [Act.put, pA, pB, pC]
    refine wpAnyH_one 11 (by kernel_rfl) ?_
    obtain ⟨Wz, hWz⟩ : ∃ W, (r4.setCell ⟨B5, 0, none⟩ (.bool s9)).setCell ⟨B5, 1, none⟩ (.slice a9 n9 c9) = W := ⟨_, rfl⟩
    have H5n : Held Wz B5 s9 a9 n9 c9 (z * 4294967296 + r) := by rw [← hWz]; exact Held.put N9 H5.box
    have H6 : Held Wz B6 s6 a6 n6 c6 4294967296 := by rw [← hWz]; exact H6.other H5.box q56 _ _
    have bR : Box2 Wz w.heap.size (.bool false) (.slice none 0 0) := by rw [← hWz]; exact bR.other _ _ qR5
    have hS : Below w.heap.size WE Wz := by rw [← hWz]; exact below_set2 hS (Nat.le_of_lt l5) _ _
    obtain ⟨y0, y1, yz0, yz1⟩ := id H5.box
    have H5 := H5n
    clear H5n N9
    refine wpOp_run (i := 11) rfl ?_
    go_simp
    try rw [hWz]
    try refine ⟨hS, ?_⟩
    clear y0 y1 yz0 yz1 hWz
    refine wpAnyH_done (by kernel_rfl) ?_ _
   all_goals
    have hB := hB.trans hS
    clear hE hS lS hx hHeld
    go_wp2
    go_roundw
    case rel => exact ⟨k + 1, z * 4294967296 + r, s9, a9, n9, c9, by have := HKK.out.1; omega, by have := HKK.out.2.2; omega, by go_num, by rw [show k + 1 - 3 = k - 3 + 1 by have := HKK.out.1; omega]; exact HZ.out.2.1, l9, k9, H5, H6, bR, hB⟩
    case measure => simp [intOf]; have := HKK.out.2.2; omega
  case neg =>
   have hz3 := lt_mono hz (by omega : k - 3 ≤ 3)
   have K2 := hide hz3
   clear hz3
   by_cases hlt : k < L
   case pos =>
    have h3 : k = 6 := by omega
    subst h3
    have q1 : (6 : Int) < (L : Int) := by omega
    clear hgo hz hk0 hk1
    have N9 := H5.num
    have o5 := id H5.box
    clear H6
    obtain ⟨Wz, hWz⟩ : ∃ W, (wr.setCell ⟨w.heap.size, 0, none⟩ (.bool s)).setCell ⟨w.heap.size, 1, none⟩ (.slice a n c) = W := ⟨_, rfl⟩
    have hQ := bR.set (.bool s) (.slice a n c)
    have hBz := below_set2 hB (B := w.heap.size) (by omega) (.bool s) (.slice a n c)
    have N9 := N9.put bR (.bool s) (.slice a n c)
    rw [hWz] at hQ hBz N9
    have K := hide (And.intro hQ (And.intro N9 hBz))
    have HWz := hide hWz
    clear hQ hBz hWz N9
    obtain ⟨x90, x91, z90, z91⟩ := id bR
    obtain ⟨x10, x11, -, -⟩ := id o5
    go_wp2
    obtain ⟨⟨q0, q1, -, -⟩, P1, hBB⟩ := K.out
    rw [HWz.out]
    exact bodyPost_ret (v := .agg #[.bool s, .slice a n c]) (by simp [results, Tryz.results53, go_sem, q0, q1]) rfl ⟨_, _, _, _, _, rfl, P1, K2.out, hn, hnc, hBB⟩
   case neg =>
    have q1 : decide ((k : Int) < (L : Int)) = false := decide_eq_false (by omega)
    clear hgo hz hk0 hk1
    have N9 := H5.num
    have o5 := id H5.box
    clear H6
    obtain ⟨Wz, hWz⟩ : ∃ W, (wr.setCell ⟨w.heap.size, 0, none⟩ (.bool s)).setCell ⟨w.heap.size, 1, none⟩ (.slice a n c) = W := ⟨_, rfl⟩
    have hQ := bR.set (.bool s) (.slice a n c)
    have hBz := below_set2 hB (B := w.heap.size) (by omega) (.bool s) (.slice a n c)
    have N9 := N9.put bR (.bool s) (.slice a n c)
    rw [hWz] at hQ hBz N9
    have K := hide (And.intro hQ (And.intro N9 hBz))
    have HWz := hide hWz
    clear hQ hBz hWz N9
    obtain ⟨x90, x91, z90, z91⟩ := id bR
    obtain ⟨x10, x11, -, -⟩ := id o5
    go_wp2
    obtain ⟨⟨q0, q1, -, -⟩, P1, hBB⟩ := K.out
    rw [HWz.out]
    exact bodyPost_ret (v := .agg #[.bool s, .slice a n c]) (by simp [results, Tryz.results53, go_sem, q0, q1]) rfl ⟨_, _, _, _, _, rfl, P1, K2.out, hn, hnc, hBB⟩
end Go.Proofs.YtikepnocefdmnaaGreatDoor

namespace Go.Proofs.YtikepnocefdmnaaGreatDoor
open Go.RowKit Go.Shelf

def MadeR (w : World) (e : Ending) (w' : World) : Prop := ∃ x : Rat, RB 3 x ∧ RatVal w (some x) e w'
set_option maxRecDepth 100000 in
set_option maxHeartbeats 16000000 in
theorem made_long (ao : Option Addr) (L cap : Nat) (g : Nat → Int) (h3 : 3 ≤ L) (hL : L ≤ 9223372036854775807) (w : World) (hl : Ints w ao L g) :
 Calls Tryz.prog 12 #[.slice ao L cap] w (MadeR w) := by
 have HLI := hide hl
 have q3 : decide ((L : Int) < 3) = false := decide_eq_false (by omega)
 clear h3
 go_enter Tryz.func12, Tryz.ntmps12
 go_wp2_with fail
 obtain ⟨W1, hW1⟩ : ∃ W1, w.alloc (Obj.cells #[.bool false, .slice none 0 0, .bool false, .slice none 0 0] 27) = W1 := ⟨_, rfl⟩
 have qC : Quad W1 w.heap.size (.bool false) (.slice none 0 0) (.bool false) (.slice none 0 0) := by rw [← hW1]; exact Quad.new _ _ _ _ _ _
 have hB : Below w.heap.size w W1 := by rw [← hW1]; exact below_alloc _ _
 try rw [hW1]
 clear hW1
 refine (rnumber_3 ao L cap g hL W1 (HLI.out.below hB)).mono ?_
 rintro e u1 ⟨z, s4, a4, n4, c4, rfl, N4, hz, k4, l4, hk⟩
 have hB := hB.trans (hk.mono hB.size)
 have qC := qC.below hk
 clear hk
 have HZ := hide hz
 clear hz
 obtain ⟨Z4, hZ4⟩ : ∃ Z, u1.alloc (Obj.cells #[.bool false, .slice none 0 0] 25) = Z := ⟨_, rfl⟩
 obtain ⟨W4, hW4⟩ : ∃ W, (Z4.setCell ⟨u1.heap.size, 0, none⟩ (.bool s4)).setCell ⟨u1.heap.size, 1, none⟩ (.slice a4 n4 c4) = W := ⟨_, rfl⟩
 obtain ⟨H4, hk, bx4⟩ := num_new (c := c4) hZ4 hW4 N4
 clear N4
 obtain ⟨B4, hB4⟩ : ∃ B, u1.heap.size = B := ⟨_, rfl⟩
 have lqC := qC.lt
 rw [hB4] at lqC
 have hB := hB.trans (hk.mono hB.size)
 have qC := qC.below hk
 clear hk
 rw [hB4] at hW4 H4 bx4
 obtain ⟨y40, y41, yz40, yz41⟩ := id bx4
 go_wp2_with fail
 try rw [hW4]
 try rw [hB4]
 clear hW4 hB4
 clear y40 y41 yz40 yz41
 have hB := hB.drew
 have H4 := H4.below (Below.drew (Below.refl W4.heap.size W4))
 have qC := qC.below (Below.drew (Below.refl W4.heap.size W4))
 refine wp_region_held_drew (S := fun w' => Below (W4.drew.heap.size) W4.drew w') (by kernel_rfl) (Below.refl _ _) (fun hHeld => ?_)
 obtain ⟨WE, hWE⟩ : ∃ W, W4.drew = W := ⟨_, rfl⟩
 rw [hWE] at hB H4 qC hHeld ⊢
 clear hWE
 have hE := Below.refl WE.heap.size WE
 have lA := H4.box.lt
 obtain ⟨x10, x11, -, -⟩ := id H4.box
 refine tk 0 (.agg #[.bool s4, .slice a4 n4 c4]) 32 rfl rfl ?_ (Or.inl ⟨by rfl, fun w' hSw => by have q0 := (hSw.cell (p := ⟨B4, 0, none⟩) lA).trans x10; have q1 := (hSw.cell (p := ⟨B4, 1, none⟩) lA).trans x11; go_simp⟩)
 simp only [Act.put, pA, pB, pC]
 refine wpAnyH_one 1 (by kernel_rfl) ?_
 refine wpOp_call (i := 1) (f := 55) (args := #[.int .i64 0]) 33 rfl rfl (by rfl) (by go_simp) ?_
 refine (whole_r 0 (by decide) (by decide) WE).mono ?_
 rintro e r1 ⟨s7, a7, n7, c7, rfl, N7, k7, -, hk⟩
 have hE := hE.trans (hk.mono hE.size)
 have H4 := H4.below hk
 have qC := qC.below hk
 refine ⟨_, rfl, hE, ?_⟩
 simp only [Act.put, pA, pB, pC]
 refine wpAnyH_one 2 (by kernel_rfl) ?_
 have cc := rcmp_any s4 s7 a4 a7 n4 n7 c4 c7 z 0 k4 k7 r1 H4.num N7
 obtain ⟨O, hO⟩ : ∃ O, cmpZ z 0 = O := ⟨_, rfl⟩
 rw [hO] at cc
 have HO := hide hO
 clear hO
 refine wpOp_call (i := 2) (f := 54) (args := #[.agg #[.bool s4, .slice a4 n4 c4], .agg #[.bool s7, .slice a7 n7 c7]]) 34 rfl rfl (by rfl) (by go_simp) ?_
 refine (cc).mono ?_
 rintro e r2 ⟨rfl, hk⟩
 clear cc
 have hE := hE.trans (hk.mono hE.size)
 have H4 := H4.below hk
 have qC := qC.below hk
 have N7 := N7.below hk
 clear N7
 refine ⟨_, rfl, hE, ?_⟩
 simp only [Act.put, pA, pB, pC]
 refine tk 3 (.bool (O == 0)) 35 rfl rfl ?_
 simp only [Act.put, pA, pB, pC]
 refine wpAnyH_done (by kernel_rfl) ?_ _
 clear x10 x11 lA
 have hB := hB.trans (hE.mono hB.size)
 clear hE hHeld
 by_cases hz0 : z = 0
 case pos =>
  have hO0 : (O == 0) = true := by rw [← HO.out, hz0]; rfl
  clear hz0
  go_wp2_with fail
  refine (whole_r 1 (by decide) (by decide) r2).mono ?_
  rintro e v1 ⟨s8, a8, n8, c8, rfl, N8, k8, l8, hk⟩
  have hB := hB.trans (hk.mono hB.size)
  have H4 := H4.below hk
  have qC := qC.below hk
  clear hk
  obtain ⟨V1, hV1⟩ : ∃ W, (v1.setCell ⟨B4, 0, none⟩ (.bool s8)).setCell ⟨B4, 1, none⟩ (.slice a8 n8 c8) = W := ⟨_, rfl⟩
  have H4n : Held V1 B4 s8 a8 n8 c8 1 := by rw [← hV1]; exact Held.put N8 H4.box
  have hT : Touch B4 0 2 v1 V1 := by rw [← hV1]; exact (Touch.setCell v1 _ (Nat.le_refl _) (by omega)).trans (Touch.setCell _ _ (by omega) (by omega))
  have qC := qC.touch (Nat.ne_of_lt lqC) (hT.widen (Nat.le_refl _) (by omega))
  have hB : Below w.heap.size w V1 := by rw [← hV1]; exact below_set2 hB (Nat.le_of_lt lqC) _ _
  have ho := id H4.box
  have H4 := H4n
  clear H4n hT N8
  obtain ⟨y0, y1, yz0, yz1⟩ := id ho
  go_wp2_with fail
  try rw [hV1]
  clear hV1
  clear y0 y1 yz0 yz1
  clear ho
  obtain ⟨S11, hS11⟩ : ∃ b, V1.drew.heap.size = b := ⟨_, rfl⟩
  have lS : S11 ≤ V1.drew.heap.size := by omega
  have l4E : B4 < S11 := by rw [← hS11]; exact H4.box.lt
  have lCE : w.heap.size < S11 := by rw [← hS11]; exact qC.lt
  clear hS11
  have hB := hB.drew
  have H4 := H4.below (Below.drew (Below.refl V1.heap.size V1))
  have qC := qC.below (Below.drew (Below.refl V1.heap.size V1))
  refine wp_region_held_drew (S := fun w' => Below (S11) V1.drew w') (by kernel_rfl) (Below.refl _ _) (fun hHeld => ?_)
  obtain ⟨WF, hWE⟩ : ∃ W, V1.drew = W := ⟨_, rfl⟩
  rw [hWE] at hB H4 qC hHeld lS ⊢
  clear hWE
  have hE := Below.refl WF.heap.size WF
  have hS : Below S11 WF WF := Below.refl _ _
  obtain ⟨x10, x11, -, -⟩ := id H4.box
  refine tk 0 (.slice ao L cap) 38 rfl rfl ?_
  simp only [Act.put, pA, pB, pC]
  refine tk 2 (.agg #[.bool s8, .slice a8 n8 c8]) 40 rfl rfl ?_ (Or.inl ⟨by rfl, fun w' hSw => by have q0 := (hSw.cell (p := ⟨B4, 0, none⟩) l4E).trans x10; have q1 := (hSw.cell (p := ⟨B4, 1, none⟩) l4E).trans x11; go_simp⟩)
  simp only [Act.put, pA, pB, pC]
  refine wpAnyH_twoR 1 7 (by kernel_rfl) ?g1 ?g2
  case' g1 =>
   refine wpOp_call (i := 1) (f := 53) (args := #[.slice ao L cap, .int .i64 0]) 39 rfl rfl (by rfl) (by go_simp) ?_
   refine (rnumber_0 ao L cap g hL WF (HLI.out.below (hB.trans (hE.mono hB.size)))).mono ?_
   rintro e r1 ⟨y, s9, a9, n9, c9, rfl, N9, hy, k9, l9, hk⟩
   have HY := hide hy
   clear hy
   have hE := hE.trans (hk.mono hE.size)
   have H4 := H4.below hk
   have qC := qC.below hk
   have hS : Below S11 WF r1 := hE.mono lS
   refine ⟨_, rfl, hS, ?_⟩
   simp only [Act.put, pA, pB, pC]
   refine wpAnyH_twoR 3 7 (by kernel_rfl) ?g3 ?g4
   case' g3 =>
    refine wpOp_call (i := 3) (f := 25) (args := #[.agg #[.bool s9, .slice a9 n9 c9], .agg #[.bool s8, .slice a8 n8 c8]]) 41 rfl rfl (by rfl) (by go_simp) ?_
    refine (rofR_any s9 s8 a9 a8 n9 n8 c9 c8 y 1 k9 k8 l9 l8 (by decide) r1 N9 H4.num).mono ?_
    rintro e r2 ⟨s11, a11, n11, c11, s12, a12, n12, c12, rfl, P1, P2, k11, k12, hk⟩
    have hE := hE.trans (hk.mono hE.size)
    have H4 := H4.below hk
    have qC := qC.below hk
    have N9 := N9.below hk
    clear N9
    have hS : Below S11 WF r2 := hE.mono lS
    refine ⟨_, rfl, hS, ?_⟩
    simp only [Act.put, pA, pB, pC]
    refine tk 4 (.tuple #[.agg #[.bool s11, .slice a11 n11 c11, .bool s12, .slice a12 n12 c12], .bool true]) 37 rfl rfl ?_
    simp only [Act.put, pA, pB, pC]
    refine tk 5 (.agg #[.bool s11, .slice a11 n11 c11, .bool s12, .slice a12 n12 c12]) 42 rfl rfl ?_
    simp only [Act.put, pA, pB, pC]
    refine tk 6 (.bool true) 43 rfl rfl ?_
    simp only [Act.put, pA, pB, pC]
    refine wpAnyH_one 7 (by kernel_rfl) ?_
    refine wpOp_run (i := 7) rfl ?_
    go_simp
    have qr := Quad.new r2 (Value.bool false) (Value.slice none 0 0) (Value.bool false) (Value.slice none 0 0) 27
    have hk := below_alloc' r2 (Obj.cells #[.bool false, .slice none 0 0, .bool false, .slice none 0 0] 27)
    obtain ⟨r3, hw⟩ : ∃ W, r2.alloc (Obj.cells #[.bool false, .slice none 0 0, .bool false, .slice none 0 0] 27) = W := ⟨_, rfl⟩
    obtain ⟨bqr, hbb⟩ : ∃ b, r2.heap.size = b := ⟨_, rfl⟩
    have gqr : WF.heap.size ≤ bqr := by rw [← hbb]; exact hE.size
    rw [hw] at hk qr ⊢
    have hE := hE.trans (hk.mono hE.size)
    have H4 := H4.below hk
    have qC := qC.below hk
    have P1 := P1.below hk
    have P2 := P2.below hk
    rw [hbb] at qr ⊢
    clear hw hbb hk
    have hS : Below S11 WF r3 := hE.mono lS
    refine ⟨hS, ?_⟩
    refine wpAnyH_one 8 (by kernel_rfl) ?_
    obtain ⟨Wy, hWy⟩ : ∃ W, (((r3.setCell ⟨bqr, 0, none⟩ (.bool s11)).setCell ⟨bqr, 1, none⟩ (.slice a11 n11 c11)).setCell ⟨bqr, 2, none⟩ (.bool s12)).setCell ⟨bqr, 3, none⟩ (.slice a12 n12 c12) = W := ⟨_, rfl⟩
    obtain ⟨hQ, hT⟩ := qr.set _ _ _ _ hWy
    have qC := qC.touch (Nat.ne_of_lt (Nat.lt_of_lt_of_le lCE (Nat.le_trans lS gqr))) hT
    have P1 := P1.quad qr.four hT
    have P2 := P2.quad qr.four hT
    have hE : Below WF.heap.size WF Wy := by rw [← hWy]; exact below_set4 hE gqr _ _ _ _
    have hS := hE.mono lS
    obtain ⟨⟨y0, y1, y2, y3⟩, yz0, yz1, yz2, yz3⟩ := id qr
    refine wpOp_run (i := 8) rfl ?_
    go_simp
    try rw [hWy]
    try refine ⟨hS, ?_⟩
    clear y0 y1 y2 y3 yz0 yz1 yz2 yz3 hWy hT qr
    refine tk 9 (.bool true) 6 rfl rfl ?_
    simp only [Act.put, pA, pB, pC]
    refine wpAnyH_done (by kernel_rfl) ?_ _
   case' g4 =>
    refine wpOp_run (i := 7) rfl ?_
    go_simp
    have qr := Quad.new r1 (Value.bool false) (Value.slice none 0 0) (Value.bool false) (Value.slice none 0 0) 27
    have hk := below_alloc' r1 (Obj.cells #[.bool false, .slice none 0 0, .bool false, .slice none 0 0] 27)
    obtain ⟨r4, hw⟩ : ∃ W, r1.alloc (Obj.cells #[.bool false, .slice none 0 0, .bool false, .slice none 0 0] 27) = W := ⟨_, rfl⟩
    obtain ⟨bqr, hbb⟩ : ∃ b, r1.heap.size = b := ⟨_, rfl⟩
    have gqr : WF.heap.size ≤ bqr := by rw [← hbb]; exact hE.size
    rw [hw] at hk qr ⊢
    have hE := hE.trans (hk.mono hE.size)
    have H4 := H4.below hk
    have qC := qC.below hk
    have N9 := N9.below hk
    rw [hbb] at qr ⊢
    clear hw hbb hk
    have hS : Below S11 WF r4 := hE.mono lS
    refine ⟨hS, ?_⟩
    refine wpAnyH_one 3 (by kernel_rfl) ?_
    refine wpOp_call (i := 3) (f := 25) (args := #[.agg #[.bool s9, .slice a9 n9 c9], .agg #[.bool s8, .slice a8 n8 c8]]) 41 rfl rfl (by rfl) (by go_simp) ?_
    refine (rofR_any s9 s8 a9 a8 n9 n8 c9 c8 y 1 k9 k8 l9 l8 (by decide) r4 N9 H4.num).mono ?_
    rintro e r5 ⟨s11, a11, n11, c11, s12, a12, n12, c12, rfl, P1, P2, k11, k12, hk⟩
    have hE := hE.trans (hk.mono hE.size)
    have H4 := H4.below hk
    have qC := qC.below hk
    have N9 := N9.below hk
    have qr := qr.below hk
    clear N9
    have hS : Below S11 WF r5 := hE.mono lS
    refine ⟨_, rfl, hS, ?_⟩
    simp only [Act.put, pA, pB, pC]
    refine tk 4 (.tuple #[.agg #[.bool s11, .slice a11 n11 c11, .bool s12, .slice a12 n12 c12], .bool true]) 37 rfl rfl ?_
    simp only [Act.put, pA, pB, pC]
    refine tk 5 (.agg #[.bool s11, .slice a11 n11 c11, .bool s12, .slice a12 n12 c12]) 42 rfl rfl ?_
    simp only [Act.put, pA, pB, pC]
    refine tk 6 (.bool true) 43 rfl rfl ?_
    simp only [Act.put, pA, pB, pC]
    refine wpAnyH_one 8 (by kernel_rfl) ?_
    obtain ⟨Wy, hWy⟩ : ∃ W, (((r5.setCell ⟨bqr, 0, none⟩ (.bool s11)).setCell ⟨bqr, 1, none⟩ (.slice a11 n11 c11)).setCell ⟨bqr, 2, none⟩ (.bool s12)).setCell ⟨bqr, 3, none⟩ (.slice a12 n12 c12) = W := ⟨_, rfl⟩
    obtain ⟨hQ, hT⟩ := qr.set _ _ _ _ hWy
    have qC := qC.touch (Nat.ne_of_lt (Nat.lt_of_lt_of_le lCE (Nat.le_trans lS gqr))) hT
    have P1 := P1.quad qr.four hT
    have P2 := P2.quad qr.four hT
    have hE : Below WF.heap.size WF Wy := by rw [← hWy]; exact below_set4 hE gqr _ _ _ _
    have hS := hE.mono lS
    obtain ⟨⟨y0, y1, y2, y3⟩, yz0, yz1, yz2, yz3⟩ := id qr
    refine wpOp_run (i := 8) rfl ?_
    go_simp
    try rw [hWy]
    try refine ⟨hS, ?_⟩
    clear y0 y1 y2 y3 yz0 yz1 yz2 yz3 hWy hT qr
    refine tk 9 (.bool true) 6 rfl rfl ?_
    simp only [Act.put, pA, pB, pC]
    refine wpAnyH_done (by kernel_rfl) ?_ _
  case' g2 =>
   refine wpOp_run (i := 7) rfl ?_
   go_simp
   have qr := Quad.new WF (Value.bool false) (Value.slice none 0 0) (Value.bool false) (Value.slice none 0 0) 27
   have hk := below_alloc' WF (Obj.cells #[.bool false, .slice none 0 0, .bool false, .slice none 0 0] 27)
   obtain ⟨r6, hw⟩ : ∃ W, WF.alloc (Obj.cells #[.bool false, .slice none 0 0, .bool false, .slice none 0 0] 27) = W := ⟨_, rfl⟩
   obtain ⟨bqr, hbb⟩ : ∃ b, WF.heap.size = b := ⟨_, rfl⟩
   have gqr : WF.heap.size ≤ bqr := by rw [← hbb]; exact hE.size
   rw [hw] at hk qr ⊢
   have hE := hE.trans (hk.mono hE.size)
   have H4 := H4.below hk
   have qC := qC.below hk
   rw [hbb] at qr ⊢
   clear hw hbb hk
   have hS : Below S11 WF r6 := hE.mono lS
   refine ⟨hS, ?_⟩
   refine wpAnyH_one 1 (by kernel_rfl) ?_
   refine wpOp_call (i := 1) (f := 53) (args := #[.slice ao L cap, .int .i64 0]) 39 rfl rfl (by rfl) (by go_simp) ?_
   refine (rnumber_0 ao L cap g hL r6 (HLI.out.below (hB.trans (hE.mono hB.size)))).mono ?_
   rintro e r7 ⟨y, s9, a9, n9, c9, rfl, N9, hy, k9, l9, hk⟩
   have HY := hide hy
   clear hy
   have hE := hE.trans (hk.mono hE.size)
   have H4 := H4.below hk
   have qC := qC.below hk
   have qr := qr.below hk
   have hS : Below S11 WF r7 := hE.mono lS
   refine ⟨_, rfl, hS, ?_⟩
   simp only [Act.put, pA, pB, pC]
   refine wpAnyH_one 3 (by kernel_rfl) ?_
   refine wpOp_call (i := 3) (f := 25) (args := #[.agg #[.bool s9, .slice a9 n9 c9], .agg #[.bool s8, .slice a8 n8 c8]]) 41 rfl rfl (by rfl) (by go_simp) ?_
   refine (rofR_any s9 s8 a9 a8 n9 n8 c9 c8 y 1 k9 k8 l9 l8 (by decide) r7 N9 H4.num).mono ?_
   rintro e r8 ⟨s11, a11, n11, c11, s12, a12, n12, c12, rfl, P1, P2, k11, k12, hk⟩
   have hE := hE.trans (hk.mono hE.size)
   have H4 := H4.below hk
   have qC := qC.below hk
   have qr := qr.below hk
   have N9 := N9.below hk
   clear N9
   have hS : Below S11 WF r8 := hE.mono lS
   refine ⟨_, rfl, hS, ?_⟩
   simp only [Act.put, pA, pB, pC]
   refine tk 4 (.tuple #[.agg #[.bool s11, .slice a11 n11 c11, .bool s12, .slice a12 n12 c12], .bool true]) 37 rfl rfl ?_
   simp only [Act.put, pA, pB, pC]
   refine tk 5 (.agg #[.bool s11, .slice a11 n11 c11, .bool s12, .slice a12 n12 c12]) 42 rfl rfl ?_
   simp only [Act.put, pA, pB, pC]
   refine tk 6 (.bool true) 43 rfl rfl ?_
   simp only [Act.put, pA, pB, pC]
   refine wpAnyH_one 8 (by kernel_rfl) ?_
   obtain ⟨Wy, hWy⟩ : ∃ W, (((r8.setCell ⟨bqr, 0, none⟩ (.bool s11)).setCell ⟨bqr, 1, none⟩ (.slice a11 n11 c11)).setCell ⟨bqr, 2, none⟩ (.bool s12)).setCell ⟨bqr, 3, none⟩ (.slice a12 n12 c12) = W := ⟨_, rfl⟩
   obtain ⟨hQ, hT⟩ := qr.set _ _ _ _ hWy
   have qC := qC.touch (Nat.ne_of_lt (Nat.lt_of_lt_of_le lCE (Nat.le_trans lS gqr))) hT
   have P1 := P1.quad qr.four hT
   have P2 := P2.quad qr.four hT
   have hE : Below WF.heap.size WF Wy := by rw [← hWy]; exact below_set4 hE gqr _ _ _ _
   have hS := hE.mono lS
   obtain ⟨⟨y0, y1, y2, y3⟩, yz0, yz1, yz2, yz3⟩ := id qr
   refine wpOp_run (i := 8) rfl ?_
   go_simp
   try rw [hWy]
   try refine ⟨hS, ?_⟩
   clear y0 y1 y2 y3 yz0 yz1 yz2 yz3 hWy hT qr
   refine tk 9 (.bool true) 6 rfl rfl ?_
   simp only [Act.put, pA, pB, pC]
   refine wpAnyH_done (by kernel_rfl) ?_ _
  all_goals
   clear x10 x11
   have hB := hB.trans (hE.mono hB.size)
   clear hE hS hHeld
   obtain ⟨Wz, hWz⟩ : ∃ W, (((Wy.setCell ⟨w.heap.size, 0, none⟩ (.bool s11)).setCell ⟨w.heap.size, 1, none⟩ (.slice a11 n11 c11)).setCell ⟨w.heap.size, 2, none⟩ (.bool s12)).setCell ⟨w.heap.size, 3, none⟩ (.slice a12 n12 c12) = W := ⟨_, rfl⟩
   obtain ⟨hQ, hT⟩ := qC.set _ _ _ _ hWz
   have hBz : Below w.heap.size w Wz := by rw [← hWz]; exact below_set4 hB (by omega) _ _ _ _
   have P1 := P1.quad qC.four hT
   have P2 := P2.quad qC.four hT
   have K := hide (And.intro hQ (And.intro P1 (And.intro P2 hBz)))
   have HWz := hide hWz
   clear hQ hBz hWz hT P1 P2
   obtain ⟨⟨x90, x91, x92, x93⟩, z90, z91, z92, z93⟩ := id qC
   obtain ⟨⟨x70, x71, x72, x73⟩, -, -, -, -⟩ := id hQ
   go_wp2
   obtain ⟨⟨⟨q0, q1, q2, q3⟩, -, -, -, -⟩, P1, P2, hBB⟩ := K.out
   rw [HWz.out]
   exact bodyPost_ret (v := .agg #[.bool s11, .slice a11 n11 c11, .bool s12, .slice a12 n12 c12]) (by simp [results, Tryz.results12, go_sem, q0, q1, q2, q3]) rfl ⟨_, RB.divInt (by decide) HY.out (Nat.lt_of_lt_of_le (m := 2) (by decide) (by decide)), _, _, _, _, _, _, _, _, rfl, P1, P2, k11, k12, hBB⟩
 case neg =>
  have hO0 : (O == 0) = false := by
   rw [← HO.out]; unfold cmpZ
   by_cases h : z < 0
   · rw [if_pos h]; rfl
   · rw [if_neg h, if_neg (by omega)]; rfl
  have HN := hide hz0
  clear hz0
  go_wp2_with fail
  obtain ⟨S11, hS11⟩ : ∃ b, r2.drew.heap.size = b := ⟨_, rfl⟩
  have lS : S11 ≤ r2.drew.heap.size := by omega
  have l4E : B4 < S11 := by rw [← hS11]; exact H4.box.lt
  have lCE : w.heap.size < S11 := by rw [← hS11]; exact qC.lt
  clear hS11
  have hB := hB.drew
  have H4 := H4.below (Below.drew (Below.refl r2.heap.size r2))
  have qC := qC.below (Below.drew (Below.refl r2.heap.size r2))
  refine wp_region_held_drew (S := fun w' => Below (S11) r2.drew w') (by kernel_rfl) (Below.refl _ _) (fun hHeld => ?_)
  obtain ⟨WF, hWE⟩ : ∃ W, r2.drew = W := ⟨_, rfl⟩
  rw [hWE] at hB H4 qC hHeld lS ⊢
  clear hWE
  have hE := Below.refl WF.heap.size WF
  have hS : Below S11 WF WF := Below.refl _ _
  obtain ⟨x10, x11, -, -⟩ := id H4.box
  refine tk 0 (.slice ao L cap) 38 rfl rfl ?_
  simp only [Act.put, pA, pB, pC]
  refine tk 2 (.agg #[.bool s4, .slice a4 n4 c4]) 40 rfl rfl ?_ (Or.inl ⟨by rfl, fun w' hSw => by have q0 := (hSw.cell (p := ⟨B4, 0, none⟩) l4E).trans x10; have q1 := (hSw.cell (p := ⟨B4, 1, none⟩) l4E).trans x11; go_simp⟩)
  simp only [Act.put, pA, pB, pC]
  refine wpAnyH_twoR 1 7 (by kernel_rfl) ?g5 ?g6
  case' g5 =>
   refine wpOp_call (i := 1) (f := 53) (args := #[.slice ao L cap, .int .i64 0]) 39 rfl rfl (by rfl) (by go_simp) ?_
   refine (rnumber_0 ao L cap g hL WF (HLI.out.below (hB.trans (hE.mono hB.size)))).mono ?_
   rintro e r1 ⟨y, s9, a9, n9, c9, rfl, N9, hy, k9, l9, hk⟩
   have HY := hide hy
   clear hy
   have hE := hE.trans (hk.mono hE.size)
   have H4 := H4.below hk
   have qC := qC.below hk
   have hS : Below S11 WF r1 := hE.mono lS
   refine ⟨_, rfl, hS, ?_⟩
   simp only [Act.put, pA, pB, pC]
   refine wpAnyH_twoR 3 7 (by kernel_rfl) ?g7 ?g8
   case' g7 =>
    refine wpOp_call (i := 3) (f := 25) (args := #[.agg #[.bool s9, .slice a9 n9 c9], .agg #[.bool s4, .slice a4 n4 c4]]) 41 rfl rfl (by rfl) (by go_simp) ?_
    refine (rofR_any s9 s4 a9 a4 n9 n4 c9 c4 y z k9 k4 l9 l4 HN.out r1 N9 H4.num).mono ?_
    rintro e r2 ⟨s11, a11, n11, c11, s12, a12, n12, c12, rfl, P1, P2, k11, k12, hk⟩
    have hE := hE.trans (hk.mono hE.size)
    have H4 := H4.below hk
    have qC := qC.below hk
    have N9 := N9.below hk
    clear N9
    have hS : Below S11 WF r2 := hE.mono lS
    refine ⟨_, rfl, hS, ?_⟩
    simp only [Act.put, pA, pB, pC]
    refine tk 4 (.tuple #[.agg #[.bool s11, .slice a11 n11 c11, .bool s12, .slice a12 n12 c12], .bool true]) 37 rfl rfl ?_
    simp only [Act.put, pA, pB, pC]
    refine tk 5 (.agg #[.bool s11, .slice a11 n11 c11, .bool s12, .slice a12 n12 c12]) 42 rfl rfl ?_
    simp only [Act.put, pA, pB, pC]
    refine tk 6 (.bool true) 43 rfl rfl ?_
    simp only [Act.put, pA, pB, pC]
    refine wpAnyH_one 7 (by kernel_rfl) ?_
    refine wpOp_run (i := 7) rfl ?_
    go_simp
    have qr := Quad.new r2 (Value.bool false) (Value.slice none 0 0) (Value.bool false) (Value.slice none 0 0) 27
    have hk := below_alloc' r2 (Obj.cells #[.bool false, .slice none 0 0, .bool false, .slice none 0 0] 27)
    obtain ⟨r3, hw⟩ : ∃ W, r2.alloc (Obj.cells #[.bool false, .slice none 0 0, .bool false, .slice none 0 0] 27) = W := ⟨_, rfl⟩
    obtain ⟨bqr, hbb⟩ : ∃ b, r2.heap.size = b := ⟨_, rfl⟩
    have gqr : WF.heap.size ≤ bqr := by rw [← hbb]; exact hE.size
    rw [hw] at hk qr ⊢
    have hE := hE.trans (hk.mono hE.size)
    have H4 := H4.below hk
    have qC := qC.below hk
    have P1 := P1.below hk
    have P2 := P2.below hk
    rw [hbb] at qr ⊢
    clear hw hbb hk
    have hS : Below S11 WF r3 := hE.mono lS
    refine ⟨hS, ?_⟩
    refine wpAnyH_one 8 (by kernel_rfl) ?_
    obtain ⟨Wy, hWy⟩ : ∃ W, (((r3.setCell ⟨bqr, 0, none⟩ (.bool s11)).setCell ⟨bqr, 1, none⟩ (.slice a11 n11 c11)).setCell ⟨bqr, 2, none⟩ (.bool s12)).setCell ⟨bqr, 3, none⟩ (.slice a12 n12 c12) = W := ⟨_, rfl⟩
    obtain ⟨hQ, hT⟩ := qr.set _ _ _ _ hWy
    have qC := qC.touch (Nat.ne_of_lt (Nat.lt_of_lt_of_le lCE (Nat.le_trans lS gqr))) hT
    have P1 := P1.quad qr.four hT
    have P2 := P2.quad qr.four hT
    have hE : Below WF.heap.size WF Wy := by rw [← hWy]; exact below_set4 hE gqr _ _ _ _
    have hS := hE.mono lS
    obtain ⟨⟨y0, y1, y2, y3⟩, yz0, yz1, yz2, yz3⟩ := id qr
    refine wpOp_run (i := 8) rfl ?_
    go_simp
    try rw [hWy]
    try refine ⟨hS, ?_⟩
    clear y0 y1 y2 y3 yz0 yz1 yz2 yz3 hWy hT qr
    refine tk 9 (.bool true) 6 rfl rfl ?_
    simp only [Act.put, pA, pB, pC]
    refine wpAnyH_done (by kernel_rfl) ?_ _
   case' g8 =>
    refine wpOp_run (i := 7) rfl ?_
    go_simp
    have qr := Quad.new r1 (Value.bool false) (Value.slice none 0 0) (Value.bool false) (Value.slice none 0 0) 27
    have hk := below_alloc' r1 (Obj.cells #[.bool false, .slice none 0 0, .bool false, .slice none 0 0] 27)
    obtain ⟨r4, hw⟩ : ∃ W, r1.alloc (Obj.cells #[.bool false, .slice none 0 0, .bool false, .slice none 0 0] 27) = W := ⟨_, rfl⟩
    obtain ⟨bqr, hbb⟩ : ∃ b, r1.heap.size = b := ⟨_, rfl⟩
    have gqr : WF.heap.size ≤ bqr := by rw [← hbb]; exact hE.size
    rw [hw] at hk qr ⊢
    have hE := hE.trans (hk.mono hE.size)
    have H4 := H4.below hk
    have qC := qC.below hk
    have N9 := N9.below hk
    rw [hbb] at qr ⊢
    clear hw hbb hk
    have hS : Below S11 WF r4 := hE.mono lS
    refine ⟨hS, ?_⟩
    refine wpAnyH_one 3 (by kernel_rfl) ?_
    refine wpOp_call (i := 3) (f := 25) (args := #[.agg #[.bool s9, .slice a9 n9 c9], .agg #[.bool s4, .slice a4 n4 c4]]) 41 rfl rfl (by rfl) (by go_simp) ?_
    refine (rofR_any s9 s4 a9 a4 n9 n4 c9 c4 y z k9 k4 l9 l4 HN.out r4 N9 H4.num).mono ?_
    rintro e r5 ⟨s11, a11, n11, c11, s12, a12, n12, c12, rfl, P1, P2, k11, k12, hk⟩
    have hE := hE.trans (hk.mono hE.size)
    have H4 := H4.below hk
    have qC := qC.below hk
    have N9 := N9.below hk
    have qr := qr.below hk
    clear N9
    have hS : Below S11 WF r5 := hE.mono lS
    refine ⟨_, rfl, hS, ?_⟩
    simp only [Act.put, pA, pB, pC]
    refine tk 4 (.tuple #[.agg #[.bool s11, .slice a11 n11 c11, .bool s12, .slice a12 n12 c12], .bool true]) 37 rfl rfl ?_
    simp only [Act.put, pA, pB, pC]
    refine tk 5 (.agg #[.bool s11, .slice a11 n11 c11, .bool s12, .slice a12 n12 c12]) 42 rfl rfl ?_
    simp only [Act.put, pA, pB, pC]
    refine tk 6 (.bool true) 43 rfl rfl ?_
    simp only [Act.put, pA, pB, pC]
    refine wpAnyH_one 8 (by kernel_rfl) ?_
    obtain ⟨Wy, hWy⟩ : ∃ W, (((r5.setCell ⟨bqr, 0, none⟩ (.bool s11)).setCell ⟨bqr, 1, none⟩ (.slice a11 n11 c11)).setCell ⟨bqr, 2, none⟩ (.bool s12)).setCell ⟨bqr, 3, none⟩ (.slice a12 n12 c12) = W := ⟨_, rfl⟩
    obtain ⟨hQ, hT⟩ := qr.set _ _ _ _ hWy
    have qC := qC.touch (Nat.ne_of_lt (Nat.lt_of_lt_of_le lCE (Nat.le_trans lS gqr))) hT
    have P1 := P1.quad qr.four hT
    have P2 := P2.quad qr.four hT
    have hE : Below WF.heap.size WF Wy := by rw [← hWy]; exact below_set4 hE gqr _ _ _ _
    have hS := hE.mono lS
    obtain ⟨⟨y0, y1, y2, y3⟩, yz0, yz1, yz2, yz3⟩ := id qr
    refine wpOp_run (i := 8) rfl ?_
    go_simp
    try rw [hWy]
    try refine ⟨hS, ?_⟩
    clear y0 y1 y2 y3 yz0 yz1 yz2 yz3 hWy hT qr
    refine tk 9 (.bool true) 6 rfl rfl ?_
    simp only [Act.put, pA, pB, pC]
    refine wpAnyH_done (by kernel_rfl) ?_ _
  case' g6 =>
   refine wpOp_run (i := 7) rfl ?_
   go_simp
   have qr := Quad.new WF (Value.bool false) (Value.slice none 0 0) (Value.bool false) (Value.slice none 0 0) 27
   have hk := below_alloc' WF (Obj.cells #[.bool false, .slice none 0 0, .bool false, .slice none 0 0] 27)
   obtain ⟨r6, hw⟩ : ∃ W, WF.alloc (Obj.cells #[.bool false, .slice none 0 0, .bool false, .slice none 0 0] 27) = W := ⟨_, rfl⟩
   obtain ⟨bqr, hbb⟩ : ∃ b, WF.heap.size = b := ⟨_, rfl⟩
   have gqr : WF.heap.size ≤ bqr := by rw [← hbb]; exact hE.size
   rw [hw] at hk qr ⊢
   have hE := hE.trans (hk.mono hE.size)
   have H4 := H4.below hk
   have qC := qC.below hk
   rw [hbb] at qr ⊢
   clear hw hbb hk
   have hS : Below S11 WF r6 := hE.mono lS
   refine ⟨hS, ?_⟩
   refine wpAnyH_one 1 (by kernel_rfl) ?_
   refine wpOp_call (i := 1) (f := 53) (args := #[.slice ao L cap, .int .i64 0]) 39 rfl rfl (by rfl) (by go_simp) ?_
   refine (rnumber_0 ao L cap g hL r6 (HLI.out.below (hB.trans (hE.mono hB.size)))).mono ?_
   rintro e r7 ⟨y, s9, a9, n9, c9, rfl, N9, hy, k9, l9, hk⟩
   have HY := hide hy
   clear hy
   have hE := hE.trans (hk.mono hE.size)
   have H4 := H4.below hk
   have qC := qC.below hk
   have qr := qr.below hk
   have hS : Below S11 WF r7 := hE.mono lS
   refine ⟨_, rfl, hS, ?_⟩
   simp only [Act.put, pA, pB, pC]
   refine wpAnyH_one 3 (by kernel_rfl) ?_
   refine wpOp_call (i := 3) (f := 25) (args := #[.agg #[.bool s9, .slice a9 n9 c9], .agg #[.bool s4, .slice a4 n4 c4]]) 41 rfl rfl (by rfl) (by go_simp) ?_
   refine (rofR_any s9 s4 a9 a4 n9 n4 c9 c4 y z k9 k4 l9 l4 HN.out r7 N9 H4.num).mono ?_
   rintro e r8 ⟨s11, a11, n11, c11, s12, a12, n12, c12, rfl, P1, P2, k11, k12, hk⟩
   have hE := hE.trans (hk.mono hE.size)
   have H4 := H4.below hk
   have qC := qC.below hk
   have qr := qr.below hk
   have N9 := N9.below hk
   clear N9
   have hS : Below S11 WF r8 := hE.mono lS
   refine ⟨_, rfl, hS, ?_⟩
   simp only [Act.put, pA, pB, pC]
   refine tk 4 (.tuple #[.agg #[.bool s11, .slice a11 n11 c11, .bool s12, .slice a12 n12 c12], .bool true]) 37 rfl rfl ?_
   simp only [Act.put, pA, pB, pC]
   refine tk 5 (.agg #[.bool s11, .slice a11 n11 c11, .bool s12, .slice a12 n12 c12]) 42 rfl rfl ?_
   simp only [Act.put, pA, pB, pC]
   refine tk 6 (.bool true) 43 rfl rfl ?_
   simp only [Act.put, pA, pB, pC]
   refine wpAnyH_one 8 (by kernel_rfl) ?_
   obtain ⟨Wy, hWy⟩ : ∃ W, (((r8.setCell ⟨bqr, 0, none⟩ (.bool s11)).setCell ⟨bqr, 1, none⟩ (.slice a11 n11 c11)).setCell ⟨bqr, 2, none⟩ (.bool s12)).setCell ⟨bqr, 3, none⟩ (.slice a12 n12 c12) = W := ⟨_, rfl⟩
   obtain ⟨hQ, hT⟩ := qr.set _ _ _ _ hWy
   have qC := qC.touch (Nat.ne_of_lt (Nat.lt_of_lt_of_le lCE (Nat.le_trans lS gqr))) hT
   have P1 := P1.quad qr.four hT
   have P2 := P2.quad qr.four hT
   have hE : Below WF.heap.size WF Wy := by rw [← hWy]; exact below_set4 hE gqr _ _ _ _
   have hS := hE.mono lS
   obtain ⟨⟨y0, y1, y2, y3⟩, yz0, yz1, yz2, yz3⟩ := id qr
   refine wpOp_run (i := 8) rfl ?_
   go_simp
   try rw [hWy]
   try refine ⟨hS, ?_⟩
   clear y0 y1 y2 y3 yz0 yz1 yz2 yz3 hWy hT qr
   refine tk 9 (.bool true) 6 rfl rfl ?_
   simp only [Act.put, pA, pB, pC]
   refine wpAnyH_done (by kernel_rfl) ?_ _
  all_goals
   clear x10 x11
   have hB := hB.trans (hE.mono hB.size)
   clear hE hS hHeld
   obtain ⟨Wz, hWz⟩ : ∃ W, (((Wy.setCell ⟨w.heap.size, 0, none⟩ (.bool s11)).setCell ⟨w.heap.size, 1, none⟩ (.slice a11 n11 c11)).setCell ⟨w.heap.size, 2, none⟩ (.bool s12)).setCell ⟨w.heap.size, 3, none⟩ (.slice a12 n12 c12) = W := ⟨_, rfl⟩
   obtain ⟨hQ, hT⟩ := qC.set _ _ _ _ hWz
   have hBz : Below w.heap.size w Wz := by rw [← hWz]; exact below_set4 hB (by omega) _ _ _ _
   have P1 := P1.quad qC.four hT
   have P2 := P2.quad qC.four hT
   have K := hide (And.intro hQ (And.intro P1 (And.intro P2 hBz)))
   have HWz := hide hWz
   clear hQ hBz hWz hT P1 P2
   obtain ⟨⟨x90, x91, x92, x93⟩, z90, z91, z92, z93⟩ := id qC
   obtain ⟨⟨x70, x71, x72, x73⟩, -, -, -, -⟩ := id hQ
   go_wp2
   obtain ⟨⟨⟨q0, q1, q2, q3⟩, -, -, -, -⟩, P1, P2, hBB⟩ := K.out
   rw [HWz.out]
   exact bodyPost_ret (v := .agg #[.bool s11, .slice a11 n11 c11, .bool s12, .slice a12 n12 c12]) (by simp [results, Tryz.results12, go_sem, q0, q1, q2, q3]) rfl ⟨_, RB.divInt HN.out HY.out HZ.out, _, _, _, _, _, _, _, _, rfl, P1, P2, k11, k12, hBB⟩
theorem madeR_any (ao : Option Addr) (L cap : Nat) (g : Nat → Int) (hL : L ≤ 9223372036854775807) (w : World) (hl : Ints w ao L g) :
 Calls Tryz.prog 12 #[.slice ao L cap] w (MadeR w) := by
 by_cases h : 3 ≤ L
 · exact made_long ao L cap g h hL w hl
 · exact (made_small ao L cap g (by omega) w hl).mono fun _ _ ⟨x, hs, hv⟩ => ⟨x, hs.rb.mono (by decide), hv⟩
end Go.Proofs.YtikepnocefdmnaaGreatDoor

