/- num's Add, Sub, Mul and Cmp of right Nums. -/
import Derived.Test.YtmpdeiopdempcaaGreatDoorNumM
namespace Go.Proofs.YtmpdeiopdempcaaGreatDoor
open Go.RowKit Go.Shelf

theorem add_any (sa sb : Bool) (aa ab : Option Addr) (na nb ca cb : Nat) (za zb : Int) (hna : na ≤ 64) (hnb : nb ≤ 64) (w : World) (ha : IsN w sa aa na za) (hb : IsN w sb ab nb zb) (hfit : dlen (za + zb).natAbs ≤ 64) :
    Calls Tryz.prog 23 #[.agg #[.bool sa, .slice aa na ca], .agg #[.bool sb, .slice ab nb cb]] w (NumPost w (za + zb)) := by
  by_cases h : sa = sb
  · subst h; exact add_same sa aa ab na nb ca cb za zb hna hnb w ha hb hfit
  · have hs : (sa == sb) = false := by simpa using h
    rcases Nat.lt_or_ge za.natAbs zb.natAbs with h1 | h1
    · exact add_diff_lt sa sb hs aa ab na nb ca cb za zb hna hnb h1 w ha hb
    · exact add_diff_ge sa sb hs aa ab na nb ca cb za zb hna hnb h1 w ha hb

/-- the sign of -z -/
def flipB (s : Bool) (n : Nat) : Bool := !s && decide (0 < n)
theorem IsN.neg {w : World} {s : Bool} {a : Option Addr} {n : Nat} {z : Int} (h : IsN w s a n z) : IsN w (flipB s n) a n (-z) := by
  refine ⟨?_, by rw [Int.natAbs_neg]; exact h.dig⟩
  have h1 := h.sign
  have h2 : n = 0 ↔ z.natAbs = 0 := by rw [h.dig.len]; exact dlen_eq_zero
  unfold flipB
  rw [h1]
  by_cases hz : z < 0
  · simp [hz]; omega
  · by_cases hn : n = 0
    · simp [hn]; omega
    · simp [hz]
      have : z.natAbs ≠ 0 := fun e => hn (h2.2 e)
      constructor <;> intro <;> omega

set_option maxRecDepth 100000 in
set_option maxHeartbeats 2000000 in
theorem sub_any (sa sb : Bool) (aa ab : Option Addr) (na nb ca cb : Nat) (za zb : Int) (hna : na ≤ 64) (hnb : nb ≤ 64) (w : World) (ha : IsN w sa aa na za) (hb : IsN w sb ab nb zb) (hfit : dlen (za - zb).natAbs ≤ 64) :
    Calls Tryz.prog 25 #[.agg #[.bool sa, .slice aa na ca], .agg #[.bool sb, .slice ab nb cb]] w (NumPost w (za - zb)) := by
  have hN := hb.neg
  obtain ⟨t, ht⟩ : ∃ t, t = flipB sb nb := ⟨_, rfl⟩
  rw [← ht] at hN
  have hfl : (sb = true ∧ t = false) ∨ (sb = false ∧ nb = 0 ∧ t = false) ∨ (sb = false ∧ 0 < nb ∧ t = true) := by
    unfold flipB at ht
    cases sb with
    | true => exact .inl ⟨rfl, by simpa using ht⟩
    | false =>
      rcases Nat.eq_zero_or_pos nb with h | h
      · exact .inr (.inl ⟨rfl, h, by simpa [h] using ht⟩)
      · exact .inr (.inr ⟨rfl, h, by simpa [h] using ht⟩)
  have HF : Hid (dlen (za + -zb).natAbs ≤ 64) := by rw [← Int.sub_eq_add_neg]; exact hfit
  clear ht hfit
  have hB0 : Below w.heap.size w (((w.alloc (Obj.cells #[Value.bool sa, Value.slice aa na ca] 27)).alloc (Obj.cells #[Value.bool sb, Value.slice ab nb cb] 27)).alloc (Obj.cells #[Value.bool false, Value.slice none 0 0] 27)) := (((Below.refl _ w).alloc (Nat.le_refl _) _).alloc (by simp) _).alloc (by simp; omega) _
  have bA : Box2 (((w.alloc (Obj.cells #[Value.bool sa, Value.slice aa na ca] 27)).alloc (Obj.cells #[Value.bool sb, Value.slice ab nb cb] 27)).alloc (Obj.cells #[Value.bool false, Value.slice none 0 0] 27)) w.heap.size (.bool sa) (.slice aa na ca) := ((Box2.new w _ _ _).alloc _).alloc _
  have bB : Box2 (((w.alloc (Obj.cells #[Value.bool sa, Value.slice aa na ca] 27)).alloc (Obj.cells #[Value.bool sb, Value.slice ab nb cb] 27)).alloc (Obj.cells #[Value.bool false, Value.slice none 0 0] 27)) (w.heap.size + 1) (.bool sb) (.slice ab nb cb) := by
    have := (Box2.new (w.alloc (Obj.cells #[Value.bool sa, Value.slice aa na ca] 27)) (.bool sb) (.slice ab nb cb) 27).alloc (Obj.cells #[Value.bool false, Value.slice none 0 0] 27)
    rw [World.size_alloc] at this; exact this
  have bC : Box2 (((w.alloc (Obj.cells #[Value.bool sa, Value.slice aa na ca] 27)).alloc (Obj.cells #[Value.bool sb, Value.slice ab nb cb] 27)).alloc (Obj.cells #[Value.bool false, Value.slice none 0 0] 27)) (w.heap.size + 1 + 1) (.bool false) (.slice none 0 0) := by
    have := Box2.new ((w.alloc (Obj.cells #[Value.bool sa, Value.slice aa na ca] 27)).alloc (Obj.cells #[Value.bool sb, Value.slice ab nb cb] 27)) (.bool false) (.slice none 0 0) 27
    rw [World.size_alloc, World.size_alloc] at this; exact this
  obtain ⟨W0, hW0⟩ : ∃ W0, ((w.alloc (Obj.cells #[Value.bool sa, Value.slice aa na ca] 27)).alloc (Obj.cells #[Value.bool sb, Value.slice ab nb cb] 27)).alloc (Obj.cells #[Value.bool false, Value.slice none 0 0] 27) = W0 := ⟨_, rfl⟩
  have hsz : W0.heap.size = w.heap.size + 3 := by rw [← hW0]; simp
  rw [hW0] at hB0 bA bB bC
  have HW := hide hW0
  clear hW0
  go_enter Tryz.func25, Tryz.ntmps25
  go_wp2_with fail
  rw [HW.out]
  refine (right_yes sb ab nb cb zb hnb _ (hb.below hB0)).mono ?_
  rintro e w1 ⟨rfl, hb1⟩
  have hB1 : Below w.heap.size w w1 := hB0.trans (hb1.mono (by omega))
  have bA1 := bA.below hb1 (by omega)
  have bB1 := bB.below hb1 (by omega)
  have bC1 := bC.below hb1 (by omega)
  have HA1 := hide bA1
  have HB1 := hide bB1
  have HC1 := hide bC1
  have HN := hide hN
  clear bA bB bC hN
  obtain ⟨a0, a1, -, -⟩ := bA1
  obtain ⟨b0, b1, bz0, -⟩ := bB1
  obtain ⟨r0, r1, z0, z1⟩ := bC1
  have hset : ∀ t : Bool, Below w.heap.size w (w1.setCell ⟨w.heap.size + 1, 0, none⟩ (.bool t)) ∧ Box2 (w1.setCell ⟨w.heap.size + 1, 0, none⟩ (.bool t)) (w.heap.size + 1 + 1) (.bool false) (.slice none 0 0) := fun t => by
    refine ⟨hB1.setCell (p := ⟨w.heap.size + 1, 0, none⟩) (by simp) _, ?_, ?_, by rw [World.frozen?_setCell]; exact z0, by rw [World.frozen?_setCell]; exact z1⟩
    · rw [cell_setCell_ne _ _ _ _ (fun e => by have := congrArg Addr.block e; simp at this) rfl rfl]; exact r0
    · rw [cell_setCell_ne _ _ _ _ (fun e => by have := congrArg Addr.block e; simp at this) rfl rfl]; exact r1
  have HSET := hide hset
  clear hset
  rcases hfl with ⟨rfl, rfl⟩ | ⟨rfl, rfl, rfl⟩ | ⟨rfl, hpos, rfl⟩
  all_goals
    go_wp2_with fail
    refine (add_any _ _ aa ab _ _ ca cb za (-zb) hna hnb _ (ha.below (HSET.out _).1) (HN.out.below (HSET.out _).1) HF.out).mono ?_
    rintro e w3 ⟨s4, a4, n4, cap4, rfl, hn4, hf4, hb4⟩
    have hlt1 := (HSET.out true).2.lt
    rw [World.size_setCell] at hlt1
    have hC3 := (HSET.out _).2.below hb4 (HSET.out _).2.lt
    have hB3 := (HSET.out _).1.trans (hb4.mono (HSET.out _).1.size)
    have hfw : n4 = 0 ∨ Fresh w a4 := hf4.imp id fun h ad e => by have := h ad e; rw [World.size_setCell] at this; omega
    have hne : n4 = 0 ∨ ∀ ad, a4 = some ad → ad.block ≠ w.heap.size + 1 + 1 := hf4.imp id fun h ad e => by have := h ad e; rw [World.size_setCell] at this; omega
    obtain ⟨hbx, hNN, hBB⟩ := num_store (cap := cap4) hC3 (by omega) hB3 hn4 hne
    obtain ⟨q0, q1, -, -⟩ := hbx
    clear a0 a1 b0 b1 bz0 r0 r1 z0 z1
    obtain ⟨r0, r1, z0, z1⟩ := hC3
    go_wp2
    exact bodyPost_ret (v := .tuple #[.agg #[.bool s4, .slice a4 n4 cap4], .bool true]) (by simp [results, Tryz.results25, go_sem, q0, q1]) rfl ⟨_, _, _, _, rfl, by rw [Int.sub_eq_add_neg]; exact hNN, hfw, hBB⟩
end Go.Proofs.YtmpdeiopdempcaaGreatDoor
