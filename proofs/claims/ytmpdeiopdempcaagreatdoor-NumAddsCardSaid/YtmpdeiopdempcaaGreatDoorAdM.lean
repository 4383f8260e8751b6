/- num's Sub, Int and Cmp of any Nums. -/
import Derived.Test.YtmpdeiopdempcaaGreatDoorAdN
import Derived.Test.YtmpdeiopdempcaaGreatDoorNumP
namespace Go.Proofs.YtmpdeiopdempcaaGreatDoor
open Go.RowKit Go.Shelf

theorem subO_eq (x : Option Int) (v : Int) : subO x (some v) = addO x (some (-v)) := by
  cases x with
  | none => rfl
  | some z => show fitO _ = fitO _; rw [Int.sub_eq_add_neg]

set_option maxRecDepth 100000 in
set_option maxHeartbeats 2000000 in
theorem sub_no (sa sb : Bool) (aa ab : Option Addr) (na nb ca cb : Nat) (w : World) (hb : Arg w sb ab nb none) :
    Calls Tryz.prog 25 #[.agg #[.bool sa, .slice aa na ca], .agg #[.bool sb, .slice ab nb cb]] w (NoPost w) := by
  go_enter Tryz.func25, Tryz.ntmps25
  go_wp2_with fail
  obtain ⟨W0, hW0⟩ : ∃ W0, ((w.alloc (Obj.cells #[Value.bool sa, Value.slice aa na ca] 27)).alloc (Obj.cells #[Value.bool sb, Value.slice ab nb cb] 27)).alloc (Obj.cells #[Value.bool false, Value.slice none 0 0] 27) = W0 := ⟨_, rfl⟩
  have bC : Box2 W0 (w.heap.size + 1 + 1) (.bool false) (.slice none 0 0) := by
    have := Box2.new ((w.alloc (Obj.cells #[Value.bool sa, Value.slice aa na ca] 27)).alloc (Obj.cells #[Value.bool sb, Value.slice ab nb cb] 27)) (.bool false) (.slice none 0 0) 27
    rw [World.size_alloc, World.size_alloc] at this; rw [← hW0]; exact this
  have hsz : W0.heap.size = w.heap.size + 3 := by rw [← hW0]; simp
  have hB0 : Below w.heap.size w W0 := by rw [← hW0]; exact (((Below.refl _ w).alloc (Nat.le_refl _) _).alloc (by simp) _).alloc (by simp; omega) _
  rw [hW0]
  clear hW0
  refine (right_arg sb ab nb cb none _ (hb.below hB0)).mono ?_
  rintro e w1 ⟨rfl, hb1⟩
  have hB1 : Below w.heap.size w w1 := hB0.trans (hb1.mono (by omega))
  have bC1 := bC.below hb1 (by omega)
  have K := hide (no_store bC1 (by omega) hB1)
  obtain ⟨r0, r1, z0, z1⟩ := bC1
  go_wp2
  obtain ⟨⟨q0, q1, -, -⟩, hBB⟩ := K.out
  exact bodyPost_ret (v := .tuple #[.agg #[.bool false, .slice none 0 0], .bool false]) (by simp [results, Tryz.results25, go_sem, q0, q1]) rfl ⟨rfl, hBB⟩

set_option maxRecDepth 100000 in
set_option maxHeartbeats 2000000 in
theorem sub_right (sa sb : Bool) (aa ab : Option Addr) (na nb ca cb : Nat) (x O : Option Int) (zb : Int) (hnb : nb ≤ 64) (w : World) (ha : Arg w sa aa na x) (hb : IsN w sb ab nb zb) (HO : Hid (addO x (some (-zb)) = O)) :
    Calls Tryz.prog 25 #[.agg #[.bool sa, .slice aa na ca], .agg #[.bool sb, .slice ab nb cb]] w (OptPost w O) := by
  have hN := hb.neg
  obtain ⟨t, ht⟩ : ∃ t, t = flipB sb nb := ⟨_, rfl⟩
  rw [← ht] at hN
  have hfl : (sb = true ∧ t = false) ∨ (sb = false ∧ nb = 0 ∧ t = false) ∨ (sb = false ∧ 0 < nb ∧ t = true) := by
    unfold flipB at ht
    cases sb with
    | true => exact .inl ⟨rfl, by simpa using ht⟩
    | false =>
      rcases Nat.eq_zero_or_pos nb with h | h
      · exact .inr (.inl ⟨rfl, h, by simpa [h] using ht⟩)
      · exact .inr (.inr ⟨rfl, h, by simpa [h] using ht⟩)
  clear ht
  have hB0 : Below w.heap.size w (((w.alloc (Obj.cells #[Value.bool sa, Value.slice aa na ca] 27)).alloc (Obj.cells #[Value.bool sb, Value.slice ab nb cb] 27)).alloc (Obj.cells #[Value.bool false, Value.slice none 0 0] 27)) := (((Below.refl _ w).alloc (Nat.le_refl _) _).alloc (by simp) _).alloc (by simp; omega) _
  have bA : Box2 (((w.alloc (Obj.cells #[Value.bool sa, Value.slice aa na ca] 27)).alloc (Obj.cells #[Value.bool sb, Value.slice ab nb cb] 27)).alloc (Obj.cells #[Value.bool false, Value.slice none 0 0] 27)) w.heap.size (.bool sa) (.slice aa na ca) := ((Box2.new w _ _ _).alloc _).alloc _
  have bB : Box2 (((w.alloc (Obj.cells #[Value.bool sa, Value.slice aa na ca] 27)).alloc (Obj.cells #[Value.bool sb, Value.slice ab nb cb] 27)).alloc (Obj.cells #[Value.bool false, Value.slice none 0 0] 27)) (w.heap.size + 1) (.bool sb) (.slice ab nb cb) := by
    have := (Box2.new (w.alloc (Obj.cells #[Value.bool sa, Value.slice aa na ca] 27)) (.bool sb) (.slice ab nb cb) 27).alloc (Obj.cells #[Value.bool false, Value.slice none 0 0] 27)
    rw [World.size_alloc] at this; exact this
  have bC : Box2 (((w.alloc (Obj.cells #[Value.bool sa, Value.slice aa na ca] 27)).alloc (Obj.cells #[Value.bool sb, Value.slice ab nb cb] 27)).alloc (Obj.cells #[Value.bool false, Value.slice none 0 0] 27)) (w.heap.size + 1 + 1) (.bool false) (.slice none 0 0) := by
    have := Box2.new ((w.alloc (Obj.cells #[Value.bool sa, Value.slice aa na ca] 27)).alloc (Obj.cells #[Value.bool sb, Value.slice ab nb cb] 27)) (.bool false) (.slice none 0 0) 27
    rw [World.size_alloc, World.size_alloc] at this; exact this
  obtain ⟨W0, hW0⟩ : ∃ W0, ((w.alloc (Obj.cells #[Value.bool sa, Value.slice aa na ca] 27)).alloc (Obj.cells #[Value.bool sb, Value.slice ab nb cb] 27)).alloc (Obj.cells #[Value.bool false, Value.slice none 0 0] 27) = W0 := ⟨_, rfl⟩
  have hsz : W0.heap.size = w.heap.size + 3 := by rw [← hW0]; simp
  rw [hW0] at hB0 bA bB bC
  have HW := hide hW0
  clear hW0
  go_enter Tryz.func25, Tryz.ntmps25
  go_wp2_with fail
  rw [HW.out]
  refine (right_yes sb ab nb cb zb hnb _ (hb.below hB0)).mono ?_
  rintro e w1 ⟨rfl, hb1⟩
  have hB1 : Below w.heap.size w w1 := hB0.trans (hb1.mono (by omega))
  have bA1 := bA.below hb1 (by omega)
  have bB1 := bB.below hb1 (by omega)
  have bC1 := bC.below hb1 (by omega)
  have HA1 := hide bA1
  have HB1 := hide bB1
  have HC1 := hide bC1
  have HN := hide hN
  clear bA bB bC hN
  obtain ⟨a0, a1, -, -⟩ := bA1
  obtain ⟨b0, b1, bz0, -⟩ := bB1
  obtain ⟨r0, r1, z0, z1⟩ := bC1
  have hset : ∀ t : Bool, Below w.heap.size w (w1.setCell ⟨w.heap.size + 1, 0, none⟩ (.bool t)) ∧ Box2 (w1.setCell ⟨w.heap.size + 1, 0, none⟩ (.bool t)) (w.heap.size + 1 + 1) (.bool false) (.slice none 0 0) := fun t => by
    refine ⟨hB1.setCell (p := ⟨w.heap.size + 1, 0, none⟩) (by simp) _, ?_, ?_, by rw [World.frozen?_setCell]; exact z0, by rw [World.frozen?_setCell]; exact z1⟩
    · rw [cell_setCell_ne _ _ _ _ (fun e => by have := congrArg Addr.block e; simp at this) rfl rfl]; exact r0
    · rw [cell_setCell_ne _ _ _ _ (fun e => by have := congrArg Addr.block e; simp at this) rfl rfl]; exact r1
  have HSET := hide hset
  clear hset
  rcases hfl with ⟨rfl, rfl⟩ | ⟨rfl, rfl, rfl⟩ | ⟨rfl, hpos, rfl⟩
  all_goals
    go_wp2_with fail
    have hcall := fun (s1 : Bool) (n1 : Nat) (h : IsN w s1 ab n1 (-zb)) (hn1 : n1 ≤ 64) => add_arg sa s1 aa ab na n1 ca cb x (some (-zb)) _ (ha.below (HSET.out s1).1) ⟨h.below (HSET.out s1).1, hn1⟩
    simp only [HO.out] at hcall
    have HC := hide hcall
    clear hcall
    refine (HC.out _ _ HN.out hnb).mono ?_
    rintro e w3 ⟨s4, a4, n4, cap4, rfl, hn4, h64, hf4, hb4⟩
    have hlt1 := (HSET.out true).2.lt
    rw [World.size_setCell] at hlt1
    have hC3 := (HSET.out _).2.below hb4 (HSET.out _).2.lt
    have hB3 := (HSET.out _).1.trans (hb4.mono (HSET.out _).1.size)
    have hfw : n4 = 0 ∨ Fresh w a4 := hf4.imp id fun h ad e => by have := h ad e; rw [World.size_setCell] at this; omega
    have hne : n4 = 0 ∨ ∀ ad, a4 = some ad → ad.block ≠ w.heap.size + 1 + 1 := hf4.imp id fun h ad e => by have := h ad e; rw [World.size_setCell] at this; omega
    obtain ⟨hbx, hNN, hBB⟩ := num_store (cap := cap4) hC3 (by omega) hB3 hn4 hne
    obtain ⟨q0, q1, -, -⟩ := hbx
    clear a0 a1 b0 b1 bz0 r0 r1 z0 z1
    obtain ⟨r0, r1, z0, z1⟩ := hC3
    go_wp2
    exact bodyPost_ret (v := .tuple #[.agg #[.bool s4, .slice a4 n4 cap4], .bool O.isSome]) (by simp [results, Tryz.results25, go_sem, q0, q1]) rfl ⟨_, _, _, _, rfl, hNN, h64, hfw, hBB⟩
/-- Sub of any Nums -/
theorem sub_arg (sa sb : Bool) (aa ab : Option Addr) (na nb ca cb : Nat) (x y : Option Int) (w : World) (ha : Arg w sa aa na x) (hb : Arg w sb ab nb y) :
    Calls Tryz.prog 25 #[.agg #[.bool sa, .slice aa na ca], .agg #[.bool sb, .slice ab nb cb]] w (OptPost w (subO x y)) := by
  cases y with
  | none => exact (sub_no sa sb aa ab na nb ca cb w hb).mono fun e w' h => h.opt (subO_none x)
  | some v => rw [subO_eq]; exact sub_right sa sb aa ab na nb ca cb x _ v hb.2 w ha hb.1 (hide rfl)

/-- what Int hands back -/
def IntPost (w : World) (o : Option Int) (e : Ending) (w' : World) : Prop := e = .returned (.tuple #[.int .i64 (o.getD 0), .bool o.isSome]) ∧ Below w.heap.size w w'

set_option maxRecDepth 100000 in
set_option maxHeartbeats 2000000 in
theorem int_no (s : Bool) (a : Option Addr) (n c : Nat) (w : World) (ha : Arg w s a n none) :
    Calls Tryz.prog 31 #[.agg #[.bool s, .slice a n c]] w (IntPost w none) := by
  have HB0 := hide (below_alloc' w (Obj.cells #[Value.bool s, Value.slice a n c] 27))
  go_enter Tryz.func31, Tryz.ntmps31
  go_wp2_with fail
  refine (right_arg s a n c none _ (ha.below HB0.out)).mono ?_
  rintro e w1 ⟨rfl, hb⟩
  have hB1 := HB0.out.trans (hb.mono HB0.out.size)
  go_wp2
  go_ret2
  exact ⟨rfl, hB1⟩
theorem int_arg (s : Bool) (a : Option Addr) (n c : Nat) (x : Option Int) (w : World) (ha : Arg w s a n x) :
    Calls Tryz.prog 31 #[.agg #[.bool s, .slice a n c]] w (IntPost w (intO x)) := by
  cases x with
  | none => exact int_no s a n c w ha
  | some z =>
    by_cases hz : -9223372036854775808 ≤ z ∧ z ≤ 9223372036854775807
    · rw [show intO (some z) = some z from if_pos hz]; exact int_fit s a n c z hz.1 hz.2 w ha.1
    · rw [show intO (some z) = none from if_neg hz]; exact int_unfit s a n c z ha.2 (by omega) w ha.1

set_option maxRecDepth 100000 in
set_option maxHeartbeats 2000000 in
theorem cmp_no_a (sa sb : Bool) (aa ab : Option Addr) (na nb ca cb : Nat) (w : World) (ha : Arg w sa aa na none) :
    Calls Tryz.prog 26 #[.agg #[.bool sa, .slice aa na ca], .agg #[.bool sb, .slice ab nb cb]] w fun e w' => e = .returned (.int .i64 0) ∧ Below w.heap.size w w' := by
  have hB0 : Below w.heap.size w ((w.alloc (Obj.cells #[Value.bool sa, Value.slice aa na ca] 27)).alloc (Obj.cells #[Value.bool sb, Value.slice ab nb cb] 27)) := (below_alloc' _ _).trans ((below_alloc' _ _).mono (by simp))
  have HB0 := hide hB0
  clear hB0
  go_enter Tryz.func26, Tryz.ntmps26
  go_wp2_with fail
  refine (right_arg sa aa na ca none _ (ha.below HB0.out)).mono ?_
  rintro e w1 ⟨rfl, hb1⟩
  have hB1 := HB0.out.trans (hb1.mono HB0.out.size)
  go_wp2
  go_ret
  exact ⟨rfl, hB1⟩
set_option maxRecDepth 100000 in
set_option maxHeartbeats 2000000 in
theorem cmp_no_b (sa sb : Bool) (aa ab : Option Addr) (na nb ca cb : Nat) (z : Int) (w : World) (ha : Arg w sa aa na (some z)) (hb : Arg w sb ab nb none) :
    Calls Tryz.prog 26 #[.agg #[.bool sa, .slice aa na ca], .agg #[.bool sb, .slice ab nb cb]] w fun e w' => e = .returned (.int .i64 0) ∧ Below w.heap.size w w' := by
  have hB0 : Below w.heap.size w ((w.alloc (Obj.cells #[Value.bool sa, Value.slice aa na ca] 27)).alloc (Obj.cells #[Value.bool sb, Value.slice ab nb cb] 27)) := (below_alloc' _ _).trans ((below_alloc' _ _).mono (by simp))
  have bB : Box2 ((w.alloc (Obj.cells #[Value.bool sa, Value.slice aa na ca] 27)).alloc (Obj.cells #[Value.bool sb, Value.slice ab nb cb] 27)) (w.heap.size + 1) (.bool sb) (.slice ab nb cb) := by
    have := Box2.new (w.alloc (Obj.cells #[Value.bool sa, Value.slice aa na ca] 27)) (.bool sb) (.slice ab nb cb) 27
    rw [World.size_alloc] at this; exact this
  have HB0 := hide hB0
  have HBB := hide bB
  clear hB0 bB
  go_enter Tryz.func26, Tryz.ntmps26
  go_wp2_with fail
  refine (right_arg sa aa na ca (some z) _ (ha.below HB0.out)).mono ?_
  rintro e w1 ⟨rfl, hb1⟩
  have hB1 := HB0.out.trans (hb1.mono HB0.out.size)
  obtain ⟨b0, b1, -, -⟩ := HBB.out.below hb1 HBB.out.lt
  go_wp2_with fail
  refine (right_arg sb ab nb cb none _ (hb.below hB1)).mono ?_
  rintro e w2 ⟨rfl, hb2⟩
  have hB2 := hB1.trans (hb2.mono hB1.size)
  clear b0 b1
  go_wp2
  go_ret
  exact ⟨rfl, hB2⟩
theorem cmp_arg (sa sb : Bool) (aa ab : Option Addr) (na nb ca cb : Nat) (x y : Option Int) (w : World) (ha : Arg w sa aa na x) (hb : Arg w sb ab nb y) :
    Calls Tryz.prog 26 #[.agg #[.bool sa, .slice aa na ca], .agg #[.bool sb, .slice ab nb cb]] w fun e w' => e = .returned (.int .i64 (cmpO x y)) ∧ Below w.heap.size w w' := by
  cases x with
  | none => exact cmp_no_a sa sb aa ab na nb ca cb w ha
  | some z =>
    cases y with
    | none => exact cmp_no_b sa sb aa ab na nb ca cb z w ha hb
    | some v => exact cmp_any sa sb aa ab na nb ca cb z v ha.2 hb.2 w ha.1 hb.1
end Go.Proofs.YtmpdeiopdempcaaGreatDoor
