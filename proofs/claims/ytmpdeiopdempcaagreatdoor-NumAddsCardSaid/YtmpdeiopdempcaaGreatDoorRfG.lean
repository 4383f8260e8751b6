/- The reference's negated and Sub of any Nums. -/
import Derived.Test.YtmpdeiopdempcaaGreatDoorRfE
import Derived.Test.YtmpdeiopdempcaaGreatDoorRfF
namespace Go.Proofs.YtmpdeiopdempcaaGreatDoor
open Go.RowKit Go.Shelf

set_option maxRecDepth 100000 in
set_option maxHeartbeats 1000000 in
theorem rneg_any (s : Bool) (a : Option Addr) (n c : Nat) (w : World) :
    Calls Tryz.prog 63 #[.agg #[.bool s, .slice a n c]] w fun e w' => e = .returned (.agg #[.bool (flipB s n), .slice a n c]) ∧ Below w.heap.size w w' := by
  have hB0 := below_alloc' w (Obj.cells #[Value.bool s, Value.slice a n c] 27)
  have HB := hide hB0
  clear hB0
  rcases Nat.eq_zero_or_pos n with rfl | hpos
  · cases s
    · go_enter Tryz.func63, Tryz.ntmps63
      go_wp2
      refine bodyPost_ret (v := .agg #[.bool (flipB false 0), .slice a 0 c]) (by simp [results, Tryz.results63, go_sem, flipB]) rfl ⟨rfl, HB.out.trans ((below_alloc' _ _).mono (by simp))⟩
    · go_enter Tryz.func63, Tryz.ntmps63
      go_wp2
      refine bodyPost_ret (v := .agg #[.bool (flipB true 0), .slice a 0 c]) (by simp [results, Tryz.results63, go_sem, flipB]) rfl ⟨rfl, HB.out.trans ((below_alloc' _ _).mono (by simp))⟩
  · have hp : (0 : Int) < n := by omega
    rw [show flipB s n = !s by simp [flipB, hpos]]
    cases s
    · go_enter Tryz.func63, Tryz.ntmps63
      go_wp2
      refine bodyPost_ret (v := .agg #[.bool (!false), .slice a n c]) (by simp [results, Tryz.results63, go_sem]) rfl ⟨rfl, HB.out.trans ((below_alloc' _ _).mono (by simp))⟩
    · go_enter Tryz.func63, Tryz.ntmps63
      go_wp2
      refine bodyPost_ret (v := .agg #[.bool (!true), .slice a n c]) (by simp [results, Tryz.results63, go_sem]) rfl ⟨rfl, HB.out.trans ((below_alloc' _ _).mono (by simp))⟩
theorem radd_hid (sa sb : Bool) (aa ab : Option Addr) (na nb ca cb : Nat) (x y : Option Int) {O : Option Int} (HO : Hid (addO x y = O)) (w : World) (ha : Arg w sa aa na x) (hb : Arg w sb ab nb y) :
    Calls Tryz.prog 33 #[.agg #[.bool sa, .slice aa na ca], .agg #[.bool sb, .slice ab nb cb]] w (OptPost w O) := by
  have := radd_arg sa sb aa ab na nb ca cb x y w ha hb
  rw [HO.out] at this; exact this

set_option maxRecDepth 100000 in
set_option maxHeartbeats 2000000 in
theorem rsub_no (sa sb : Bool) (aa ab : Option Addr) (na nb ca cb : Nat) (w : World) (hb : Arg w sb ab nb none) :
    Calls Tryz.prog 34 #[.agg #[.bool sa, .slice aa na ca], .agg #[.bool sb, .slice ab nb cb]] w (NoPost w) := by
  go_enter Tryz.func34, Tryz.ntmps34
  go_wp2_with fail
  obtain ⟨W0, hW0⟩ : ∃ W0, ((w.alloc (Obj.cells #[Value.bool sa, Value.slice aa na ca] 27)).alloc (Obj.cells #[Value.bool sb, Value.slice ab nb cb] 27)).alloc (Obj.cells #[Value.bool false, Value.slice none 0 0] 27) = W0 := ⟨_, rfl⟩
  have bC : Box2 W0 (w.heap.size + 1 + 1) (.bool false) (.slice none 0 0) := by
    have := Box2.new ((w.alloc (Obj.cells #[Value.bool sa, Value.slice aa na ca] 27)).alloc (Obj.cells #[Value.bool sb, Value.slice ab nb cb] 27)) (.bool false) (.slice none 0 0) 27
    rw [World.size_alloc, World.size_alloc] at this; rw [← hW0]; exact this
  have hsz : W0.heap.size = w.heap.size + 3 := by rw [← hW0]; simp
  have hB0 : Below w.heap.size w W0 := by rw [← hW0]; exact (((Below.refl _ w).alloc (Nat.le_refl _) _).alloc (by simp) _).alloc (by simp; omega) _
  rw [hW0]
  clear hW0
  refine (rright_arg sb ab nb cb none _ (hb.below hB0)).mono ?_
  rintro e w1 ⟨rfl, hb1⟩
  have hB1 : Below w.heap.size w w1 := hB0.trans (hb1.mono (by omega))
  have bC1 := bC.below hb1 (by omega)
  have K := hide (no_store bC1 (by omega) hB1)
  obtain ⟨r0, r1, z0, z1⟩ := bC1
  go_wp2
  obtain ⟨⟨q0, q1, -, -⟩, hBB⟩ := K.out
  exact bodyPost_ret (v := .tuple #[.agg #[.bool false, .slice none 0 0], .bool false]) (by simp [results, Tryz.results34, go_sem, q0, q1]) rfl ⟨rfl, hBB⟩


set_option maxRecDepth 100000 in
set_option maxHeartbeats 2000000 in
theorem rsub_right (sa sb : Bool) (aa ab : Option Addr) (na nb ca cb : Nat) (x O : Option Int) (zb : Int) (hnb : nb ≤ 64) (w : World) (ha : Arg w sa aa na x) (hb : IsN w sb ab nb zb) (HO : Hid (addO x (some (-zb)) = O)) :
    Calls Tryz.prog 34 #[.agg #[.bool sa, .slice aa na ca], .agg #[.bool sb, .slice ab nb cb]] w (OptPost w O) := by
  go_enter Tryz.func34, Tryz.ntmps34
  go_wp2_with fail
  obtain ⟨W0, hW0⟩ : ∃ W0, ((w.alloc (Obj.cells #[Value.bool sa, Value.slice aa na ca] 27)).alloc (Obj.cells #[Value.bool sb, Value.slice ab nb cb] 27)).alloc (Obj.cells #[Value.bool false, Value.slice none 0 0] 27) = W0 := ⟨_, rfl⟩
  have bA : Box2 W0 w.heap.size (.bool sa) (.slice aa na ca) := by rw [← hW0]; exact ((Box2.new w _ _ _).alloc _).alloc _
  have bB : Box2 W0 (w.heap.size + 1) (.bool sb) (.slice ab nb cb) := by
    have := (Box2.new (w.alloc (Obj.cells #[Value.bool sa, Value.slice aa na ca] 27)) (.bool sb) (.slice ab nb cb) 27).alloc (Obj.cells #[Value.bool false, Value.slice none 0 0] 27)
    rw [World.size_alloc] at this; rw [← hW0]; exact this
  have bC : Box2 W0 (w.heap.size + 1 + 1) (.bool false) (.slice none 0 0) := by
    have := Box2.new ((w.alloc (Obj.cells #[Value.bool sa, Value.slice aa na ca] 27)).alloc (Obj.cells #[Value.bool sb, Value.slice ab nb cb] 27)) (.bool false) (.slice none 0 0) 27
    rw [World.size_alloc, World.size_alloc] at this; rw [← hW0]; exact this
  have hsz : W0.heap.size = w.heap.size + 3 := by rw [← hW0]; simp
  have hB0 : Below w.heap.size w W0 := by rw [← hW0]; exact (((Below.refl _ w).alloc (Nat.le_refl _) _).alloc (by simp) _).alloc (by simp; omega) _
  rw [hW0]
  clear hW0
  refine (rright_arg sb ab nb cb (some zb) _ ⟨hb.below hB0, hnb⟩).mono ?_
  rintro e w2 ⟨rfl, hb1⟩
  have hB2 : Below w.heap.size w w2 := hB0.trans (hb1.mono (by omega))
  have bA2 := bA.below hb1 (by omega)
  have bB2 := bB.below hb1 (by omega)
  have bC2k := bC.below hb1 (by omega)
  have bC2 := bC2k
  obtain ⟨a0, a1, -, -⟩ := bA2
  obtain ⟨b0, b1, -, -⟩ := bB2
  obtain ⟨r0, r1, z0, z1⟩ := bC2
  go_wp2_with fail
  have hlt2 : w.heap.size + 1 + 1 < w2.heap.size := lt_of_cell r0
  go_region_held3 (fun w' => w'.cell? ⟨w.heap.size, 0, none⟩ = some (.bool sa) ∧ w'.cell? ⟨w.heap.size, 1, none⟩ = some (.slice aa na ca) ∧ w'.cell? ⟨w.heap.size + 1, 0, none⟩ = some (.bool sb) ∧ w'.cell? ⟨w.heap.size + 1, 1, none⟩ = some (.slice ab nb cb))
    (first | exact ⟨a0, a1, b0, b1⟩ | exact ⟨a0', a1', b0', b1'⟩ | exact ⟨a0'', a1'', b0'', b1''⟩ | (refine ⟨?_, ?_, ?_, ?_⟩ <;> (rw [World.cell?_setCell_far _ _ _ _ (by first | omega | (simp; done) | (simp; omega)), World.cell?_setCell_far _ _ _ _ (by first | omega | (simp; done) | (simp; omega))]; assumption)) | go_keep)
    (first
      | (go_at_call 63; refine (rneg_any sb ab nb cb _).mono ?_; rintro e w4 ⟨rfl, hb4⟩; have a0' := (hb4.cell (p := ⟨w.heap.size, 0, none⟩) (by simp; omega)).trans a0; have a1' := (hb4.cell (p := ⟨w.heap.size, 1, none⟩) (by simp; omega)).trans a1; have b0' := (hb4.cell (p := ⟨w.heap.size + 1, 0, none⟩) (by simp; omega)).trans b0; have b1' := (hb4.cell (p := ⟨w.heap.size + 1, 1, none⟩) (by simp; omega)).trans b1; have bC4 := (bC2k.below (Below.drew (Below.refl _ _)) bC2k.lt : Box2 w2.drew _ _ _).below hb4 bC2k.lt; have hB4 : Below w.heap.size w w4 := hB2.drew.trans (hb4.mono hB2.size))
      | (go_at_call 33; refine (radd_hid sa (flipB sb nb) aa ab na nb ca cb x (some (-zb)) HO _ (ha.below hB4) ⟨(hb.below hB4).neg, hnb⟩).mono ?_; rintro e w5 ⟨s4, a4, n4, cap4, rfl, hn4, h64, hf4, hb5⟩; have a0'' := (hb5.cell (p := ⟨w.heap.size, 0, none⟩) (lt_of_cell a0')).trans a0'; have a1'' := (hb5.cell (p := ⟨w.heap.size, 1, none⟩) (lt_of_cell a1')).trans a1'; have b0'' := (hb5.cell (p := ⟨w.heap.size + 1, 0, none⟩) (lt_of_cell b0')).trans b0'; have b1'' := (hb5.cell (p := ⟨w.heap.size + 1, 1, none⟩) (lt_of_cell b1')).trans b1'; obtain ⟨r0'', r1'', z0'', z1''⟩ := bC4.below hb5 bC4.lt))
  have hs4 := hb4.size
  have hBw : Below w.heap.size w w5 := hB4.trans (hb5.mono hB4.size)
  have hne : n4 = 0 ∨ ∀ ad, a4 = some ad → ad.block ≠ w.heap.size + 1 + 1 := hf4.imp id fun h ad e => by have := h ad e; simp at hs4; omega
  have hfw : n4 = 0 ∨ Fresh w a4 := hf4.imp id fun h ad e => by have := h ad e; simp at hs4; omega
  obtain ⟨hbx, hN, hBB⟩ := num_store (cap := cap4) (bC4.below hb5 bC4.lt) (by omega) hBw hn4 hne
  obtain ⟨q0, q1, -, -⟩ := hbx
  clear a0 a1 b0 b1 a0' a1' b0' b1' a0'' a1'' b0'' b1'' r0 r1 z0 z1 r0'' r1'' z0'' z1''
  go_wp2
  exact bodyPost_ret (v := .tuple #[.agg #[.bool s4, .slice a4 n4 cap4], .bool O.isSome]) (by simp [results, Tryz.results34, go_sem, q0, q1]) rfl ⟨_, _, _, _, rfl, hN, h64, hfw, hBB⟩
/-- the reference's Sub of any Nums -/
theorem rsub_arg (sa sb : Bool) (aa ab : Option Addr) (na nb ca cb : Nat) (x y : Option Int) (w : World) (ha : Arg w sa aa na x) (hb : Arg w sb ab nb y) :
    Calls Tryz.prog 34 #[.agg #[.bool sa, .slice aa na ca], .agg #[.bool sb, .slice ab nb cb]] w (OptPost w (subO x y)) := by
  cases y with
  | none => exact (rsub_no sa sb aa ab na nb ca cb w hb).mono fun e w' h => h.opt (subO_none x)
  | some v => rw [subO_eq]; exact rsub_right sa sb aa ab na nb ca cb x _ v hb.2 w ha hb.1 (hide rfl)
end Go.Proofs.YtmpdeiopdempcaaGreatDoor
