/- num's Mul. -/
import Derived.Test.YtmpdeiopdempcaaGreatDoorNumM
namespace Go.Proofs.YtmpdeiopdempcaaGreatDoor
open Go.RowKit Go.Shelf

set_option maxRecDepth 100000 in
set_option maxHeartbeats 2000000 in
theorem mul_any (sa sb : Bool) (aa ab : Option Addr) (na nb ca cb : Nat) (za zb : Int) (hna : na ≤ 64) (hnb : nb ≤ 64) (w : World) (ha : IsN w sa aa na za) (hb : IsN w sb ab nb zb) (hfit : dlen (za * zb).natAbs ≤ 64) :
    Calls Tryz.prog 24 #[.agg #[.bool sa, .slice aa na ca], .agg #[.bool sb, .slice ab nb cb]] w (NumPost w (za * zb)) := by
  have hz : signed (sa != sb) (za.natAbs * zb.natAbs) = za * zb ∧ (za * zb).natAbs = za.natAbs * zb.natAbs := by
    refine ⟨?_, Int.natAbs_mul za zb⟩
    have h1 := ha.sign
    have h2 := hb.sign
    have e1 : za = signed sa za.natAbs := by unfold signed; rw [h1]; by_cases h : za < 0 <;> simp [h] <;> omega
    have e2 : zb = signed sb zb.natAbs := by unfold signed; rw [h2]; by_cases h : zb < 0 <;> simp [h] <;> omega
    generalize za.natAbs = x at e1 ⊢
    generalize zb.natAbs = y at e2 ⊢
    rw [e1, e2]
    unfold signed
    cases sa <;> cases sb <;> simp [Int.mul_neg, Int.neg_mul]
  have HZ := hide hz
  clear hz
  go_enter Tryz.func24, Tryz.ntmps24
  go_wp2_with fail
  obtain ⟨W0, hW0⟩ : ∃ W0, ((w.alloc (Obj.cells #[Value.bool sa, Value.slice aa na ca] 27)).alloc (Obj.cells #[Value.bool sb, Value.slice ab nb cb] 27)).alloc (Obj.cells #[Value.bool false, Value.slice none 0 0] 27) = W0 := ⟨_, rfl⟩
  have bA : Box2 W0 w.heap.size (.bool sa) (.slice aa na ca) := by rw [← hW0]; exact ((Box2.new w _ _ _).alloc _).alloc _
  have bB : Box2 W0 (w.heap.size + 1) (.bool sb) (.slice ab nb cb) := by
    have := (Box2.new (w.alloc (Obj.cells #[Value.bool sa, Value.slice aa na ca] 27)) (.bool sb) (.slice ab nb cb) 27).alloc (Obj.cells #[Value.bool false, Value.slice none 0 0] 27)
    rw [World.size_alloc] at this; rw [← hW0]; exact this
  have bC : Box2 W0 (w.heap.size + 1 + 1) (.bool false) (.slice none 0 0) := by
    have := Box2.new ((w.alloc (Obj.cells #[Value.bool sa, Value.slice aa na ca] 27)).alloc (Obj.cells #[Value.bool sb, Value.slice ab nb cb] 27)) (.bool false) (.slice none 0 0) 27
    rw [World.size_alloc, World.size_alloc] at this; rw [← hW0]; exact this
  have hsz : W0.heap.size = w.heap.size + 3 := by rw [← hW0]; simp
  have hB0 : Below w.heap.size w W0 := by rw [← hW0]; exact (((Below.refl _ w).alloc (Nat.le_refl _) _).alloc (by simp) _).alloc (by simp; omega) _
  rw [hW0]
  clear hW0
  refine (right_yes sa aa na ca za hna _ (ha.below hB0)).mono ?_
  rintro e w1 ⟨rfl, hb1⟩
  have hB1 : Below w.heap.size w w1 := hB0.trans (hb1.mono (by omega))
  have bA1 := bA.below hb1 (by omega)
  have bB1 := bB.below hb1 (by omega)
  have bC1 := bC.below hb1 (by omega)
  obtain ⟨b0, b1, -, -⟩ := bB1
  go_wp2_with fail
  refine (right_yes sb ab nb cb zb hnb _ (hb.below hB1)).mono ?_
  rintro e w2 ⟨rfl, hb2⟩
  have hB2 : Below w.heap.size w w2 := hB1.trans (hb2.mono hB1.size)
  have bA2 := bA1.below hb2 (by have := hb1.size; omega)
  have bB2 := bB.below (hb1.trans (hb2.mono hb1.size)) (by omega)
  have bC2 := bC1.below hb2 (by have := hb1.size; omega)
  clear b0 b1
  have bC2k := bC2
  have bA2k := bA2
  have bB2k := bB2
  obtain ⟨a0, a1, -, -⟩ := bA2
  obtain ⟨b0, b1, -, -⟩ := bB2
  obtain ⟨r0, r1, z0, z1⟩ := bC2
  go_wp2_with fail
  have hA2 : IsD w2.drew aa na za.natAbs := (ha.dig.below hB2).below (Below.drew (Below.refl _ _))
  have hB2' : IsD w2.drew ab nb zb.natAbs := (hb.dig.below hB2).below (Below.drew (Below.refl _ _))
  have hlt2 : w.heap.size + 1 + 1 < w2.heap.size := lt_of_cell r0
  go_region_held3 (fun w' => w'.cell? ⟨w.heap.size, 0, none⟩ = some (.bool sa) ∧ w'.cell? ⟨w.heap.size, 1, none⟩ = some (.slice aa na ca) ∧ w'.cell? ⟨w.heap.size + 1, 0, none⟩ = some (.bool sb) ∧ w'.cell? ⟨w.heap.size + 1, 1, none⟩ = some (.slice ab nb cb))
    (first | exact ⟨a0, a1, b0, b1⟩ | exact ⟨a0', a1', b0', b1'⟩ | exact ⟨a0'', a1'', b0'', b1''⟩ | (refine ⟨?_, ?_, ?_, ?_⟩ <;> (rw [World.cell?_setCell_far _ _ _ _ (by first | omega | (simp; done) | (simp; omega)), World.cell?_setCell_far _ _ _ _ (by first | omega | (simp; done) | (simp; omega))]; assumption)) | go_keep)
    (first
      | (go_at_call 59; refine (times_any aa ab _ _ na nb ca cb (by omega) (by omega) _ hA2 hB2').mono ?_; rintro e w3 ⟨a3, n3, cap3, rfl, hd3, hcap3, hfr3, hb3⟩; have a0' := (hb3.cell (p := ⟨w.heap.size, 0, none⟩) (by simp; omega)).trans a0; have a1' := (hb3.cell (p := ⟨w.heap.size, 1, none⟩) (by simp; omega)).trans a1; have b1' := (hb3.cell (p := ⟨w.heap.size + 1, 1, none⟩) (by simp; omega)).trans b1; have b0' := (hb3.cell (p := ⟨w.heap.size + 1, 0, none⟩) (by simp; omega)).trans b0; have bC3 := (bC2k.below (Below.drew (Below.refl _ _)) bC2k.lt : Box2 w2.drew _ _ _).below hb3 bC2k.lt)
      | (go_at_call 42; refine (number_of (sa != sb) a3 n3 cap3 _ hcap3 (by rw [hd3.len, ← HZ.out.2]; exact hfit) _ hd3).mono ?_; rintro e w4 ⟨s4, a4, n4, cap4, rfl, hn4, ha4, hb4⟩; have a0'' := (hb4.cell (p := ⟨w.heap.size, 0, none⟩) (lt_of_cell a0')).trans a0'; have a1'' := (hb4.cell (p := ⟨w.heap.size, 1, none⟩) (lt_of_cell a1')).trans a1'; have b1'' := (hb4.cell (p := ⟨w.heap.size + 1, 1, none⟩) (lt_of_cell b1')).trans b1'; have b0'' := (hb4.cell (p := ⟨w.heap.size + 1, 0, none⟩) (lt_of_cell b0')).trans b0'; obtain ⟨r0'', r1'', z0'', z1''⟩ := bC3.below hb4 bC3.lt))
  have hne : n4 = 0 ∨ ∀ ad, a4 = some ad → ad.block ≠ w.heap.size + 1 + 1 := by
    have hn43 : n4 = n3 := by rw [hn4.dig.len, hd3.len, signed_abs]
    rcases ha4 with h | h
    · exact .inl h
    · rcases hfr3 with h' | h'
      · exact .inl (hn43.trans h')
      · exact .inr fun ad e => by have := h' ad (h ▸ e); simp at this; omega
  have hfw : n4 = 0 ∨ Fresh w a4 := by
    have hn43 : n4 = n3 := by rw [hn4.dig.len, hd3.len, signed_abs]
    rcases ha4 with h | h
    · exact .inl h
    · rcases hfr3 with h' | h'
      · exact .inl (hn43.trans h')
      · exact .inr fun ad e => by have := h' ad (h ▸ e); simp at this; omega
  have hBw4 : Below w.heap.size w w4 := (hB2.drew.trans (hb3.mono hB2.size)).trans (hb4.mono (Nat.le_trans hB2.size hb3.size))
  obtain ⟨hbx, hN, hBB⟩ := num_store (cap := cap4) (bC3.below hb4 bC3.lt) (by omega) hBw4 hn4 hne
  rw [HZ.out.1] at hN
  obtain ⟨q0, q1, -, -⟩ := hbx
  clear a0 a1 b0 b1 a0' a1' b0' b1' a0'' a1'' b0'' b1'' r0 r1 z0 z1 r0'' r1'' z0'' z1''
  go_wp2
  exact bodyPost_ret (v := .tuple #[.agg #[.bool s4, .slice a4 n4 cap4], .bool true]) (by simp [results, Tryz.results24, go_sem, q0, q1]) rfl ⟨_, _, _, _, rfl, hN, hfw, hBB⟩
end Go.Proofs.YtmpdeiopdempcaaGreatDoor
