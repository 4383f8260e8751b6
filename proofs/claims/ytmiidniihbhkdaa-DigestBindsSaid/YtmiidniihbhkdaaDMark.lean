/- Mark and Check. -/
import Derived.Test.YtmiidniihbhkdaaDPub
import Derived.Outline
namespace Go.Proofs.Ytmiidniihbhkdaa
open Go.RowKit

/-- a variable of eight cells -/
structure Box8 (w : World) (b : Nat) (v : Nat → Value) : Prop where
  cell : ∀ j, j < 8 → w.cell? ⟨b, j, none⟩ = some (v j)
  free : ∀ j, j < 8 → w.frozen? ⟨b, j, none⟩ = false
theorem Box8.lt {w : World} {b : Nat} {v : Nat → Value} (h : Box8 w b v) : b < w.heap.size := lt_of_cell (h.cell 0 (by decide))
theorem Box8.below {w w' : World} {b B : Nat} {v : Nat → Value} (h : Box8 w b v) (t : Below B w w') (hB : b < B) : Box8 w' b v :=
  ⟨fun j hj => (t.cell (p := ⟨b, j, none⟩) hB).trans (h.cell j hj), fun j hj => (t.frozen (p := ⟨b, j, none⟩) hB).trans (h.free j hj)⟩
theorem Box8.new (w : World) (v0 v1 v2 v3 v4 v5 v6 v7 : Value) (t : TypeId) : Box8 (w.alloc (.cells #[v0, v1, v2, v3, v4, v5, v6, v7] t)) w.heap.size (fun j => #[v0, v1, v2, v3, v4, v5, v6, v7].getD j undef) := by
  refine ⟨fun j hj => ?_, fun j hj => ?_⟩ <;>
  match j, hj with
  | 0, _ | 1, _ | 2, _ | 3, _ | 4, _ | 5, _ | 6, _ | 7, _ => simp [go_sem]

theorem cell_setCell_ne (w : World) (a c : Addr) (v : Value) (h : c ≠ a) (hs : a.spot = none) (hc : c.spot = none) : (w.setCell a v).cell? c = w.cell? c := by
  obtain ⟨ab, ao, sa⟩ := a
  obtain ⟨cb, co, sc⟩ := c
  obtain rfl : sa = none := hs
  obtain rfl : sc = none := hc
  by_cases e : cb = ab
  · subst e
    have hne : ao ≠ co := fun e => h (by rw [e])
    unfold World.cell? World.setCell
    simp only [Array.getElem?_modify, if_pos]
    cases w.heap[cb]? with
    | none => rfl
    | some o => cases o <;> simp [Array.getElem?_setIfInBounds_ne hne]
  · exact World.cell?_of_block (Below.heap_setCell w _ v cb e)
theorem cell_put (w : World) (b o p : Nat) (v : Value) : (w.setCell ⟨b, o, none⟩ v).cell? ⟨b, p, none⟩ = if p = o ∧ (w.cell? ⟨b, o, none⟩).isSome then some v else w.cell? ⟨b, p, none⟩ := by
  by_cases e : p = o
  · subst e
    by_cases hs : (w.cell? ⟨b, p, none⟩).isSome
    · rw [if_pos ⟨rfl, hs⟩]; exact World.cell?_setCell_same' _ _ _ hs
    · rw [if_neg (fun h => hs h.2)]
      have hn : w.cell? ⟨b, p, none⟩ = none := by simpa using hs
      rw [hn]
      unfold World.cell? World.setCell at *
      simp only [Array.getElem?_modify, if_pos] at *
      cases hh : w.heap[b]? with
      | none => simp
      | some o => cases o <;> simp_all
  · rw [if_neg (fun h => e h.1)]; exact cell_setCell_ne _ _ _ _ (fun h => e (congrArg Addr.off h)) rfl rfl
/-- the eight cells of a digest from o on are stored -/
abbrev set8 (w : World) (b o : Nat) (l : List UInt8) : World :=
  (((((((w.setCell ⟨b, o, none⟩ (.int .u8 (db l 0 : Int))).setCell ⟨b, o + 1, none⟩ (.int .u8 (db l 1 : Int))).setCell ⟨b, o + 2, none⟩ (.int .u8 (db l 2 : Int))).setCell ⟨b, o + 3, none⟩ (.int .u8 (db l 3 : Int))).setCell ⟨b, o + 4, none⟩ (.int .u8 (db l 4 : Int))).setCell ⟨b, o + 5, none⟩ (.int .u8 (db l 5 : Int))).setCell ⟨b, o + 6, none⟩ (.int .u8 (db l 6 : Int))).setCell ⟨b, o + 7, none⟩ (.int .u8 (db l 7 : Int))
theorem set8_below {w w' : World} {B b o : Nat} (l : List UInt8) (h : Below B w w') (hb : B ≤ b) : Below B w (set8 w' b o l) := by
  exact ((((((((h.setCell (p := ⟨b, o, none⟩) hb _).setCell (p := ⟨b, o + 1, none⟩) hb _).setCell (p := ⟨b, o + 2, none⟩) hb _).setCell (p := ⟨b, o + 3, none⟩) hb _).setCell (p := ⟨b, o + 4, none⟩) hb _).setCell (p := ⟨b, o + 5, none⟩) hb _).setCell (p := ⟨b, o + 6, none⟩) hb _).setCell (p := ⟨b, o + 7, none⟩) hb _)
theorem set8_frozen (w : World) (b o : Nat) (l : List UInt8) (a : Addr) : (set8 w b o l).frozen? a = w.frozen? a := by
  unfold set8
  simp only [World.frozen?_setCell]
theorem set8_other (w : World) (b o p : Nat) (l : List UInt8) (h : p < o ∨ o + 8 ≤ p) : (set8 w b o l).cell? ⟨b, p, none⟩ = w.cell? ⟨b, p, none⟩ := by
  unfold set8
  simp only [cell_put]
  repeat rw [if_neg (by omega)]
theorem set8_block (w : World) (b o c p : Nat) (l : List UInt8) (h : c ≠ b) : (set8 w b o l).cell? ⟨c, p, none⟩ = w.cell? ⟨c, p, none⟩ := by
  unfold set8
  repeat rw [cell_setCell_ne _ _ _ _ (fun e => h (congrArg Addr.block e)) rfl rfl]
theorem set8_cell (w : World) (b o : Nat) (l : List UInt8) (h : ∀ j, j < 8 → (w.cell? ⟨b, o + j, none⟩).isSome) : ∀ j, j < 8 → (set8 w b o l).cell? ⟨b, o + j, none⟩ = some (.int .u8 (db l j : Int)) := by
  intro j hj
  have h0 := h 0 (by decide)
  have h1 := h 1 (by decide)
  have h2 := h 2 (by decide)
  have h3 := h 3 (by decide)
  have h4 := h 4 (by decide)
  have h5 := h 5 (by decide)
  have h6 := h 6 (by decide)
  have h7 := h 7 (by decide)
  rw [Nat.add_zero] at h0
  unfold set8
  match j, hj with
  | 0, _ | 1, _ | 2, _ | 3, _ | 4, _ | 5, _ | 6, _ | 7, _ => simp [cell_put, h0, h1, h2, h3, h4, h5, h6, h7]
/-- a digest lies in a block from o on -/
def Dig8 (w : World) (b o : Nat) (l : List UInt8) : Prop := ∀ j, j < 8 → w.cell? ⟨b, o + j, none⟩ = some (.int .u8 (db l j : Int))
theorem Box8.set {w : World} {b : Nat} {v : Nat → Value} (h : Box8 w b v) (l : List UInt8) : Box8 (set8 w b 0 l) b (fun j => .int .u8 (db l j : Int)) := by
  refine ⟨fun j hj => ?_, fun j hj => (set8_frozen _ _ _ _ _).trans (h.free j hj)⟩
  have := set8_cell w b 0 l (fun j hj => by rw [Nat.zero_add, h.cell j hj]; rfl) j hj
  rwa [Nat.zero_add] at this

theorem digestOf_newB (L : List ByteArray) (hl : L.length ≤ 1099511627776) (hs : ∀ s ∈ L, s.size ≤ 9223372036854775807) (t : TypeId) (w : World) (b : Nat) (hb : w.heap.size = b) :
    Calls Try.prog 30 #[.slice (some ⟨b, 0, none⟩) L.length L.length] (w.alloc (.cells (L.map Value.string).toArray t)) fun e w' => e = .returned (aggD (join L)) ∧ Below w.heap.size w w' := by
  refine (digestOf_new L hl hs t w b hb).mono ?_
  rintro e w' ⟨rfl, rfl⟩
  exact ⟨rfl, by repeat (first | exact Below.refl _ _ | refine Below.alloc ?_ (by simp; try omega) _)⟩

set_option maxRecDepth 100000 in
set_option maxHeartbeats 1000000 in
theorem markOf_any (k m : ByteArray) (hk : k.size ≤ 9223372036854775807) (hm : m.size ≤ 9223372036854775807) (w : World) :
    Calls Try.prog 34 #[.string k, .string m] w fun e w' => e = .returned (aggD (5 :: (le4 (bs k).length ++ (bs k ++ (le4 (bs m).length ++ (bs m ++ bs k)))))) ∧ Below w.heap.size w w' := by
  have hj : join [⟨#[5]⟩, ⟨(le4 k.size).toArray⟩, k, ⟨(le4 m.size).toArray⟩, m, k] = 5 :: (le4 (bs k).length ++ (bs k ++ (le4 (bs m).length ++ (bs m ++ bs k)))) := by simp [join, bs]
  have h := fun (W : World) (c : Nat) => digestOf_newB [⟨#[5]⟩, ⟨(le4 k.size).toArray⟩, k, ⟨(le4 m.size).toArray⟩, m, k] (by simp) (fun x hx => by
    simp only [List.mem_cons, List.not_mem_nil, or_false] at hx
    rcases hx with rfl | rfl | rfl | rfl | rfl | rfl <;> first | exact small4 _ | exact hk | exact hm | decide) 9 W c
  rw [hj] at h
  have H := hide h
  clear hj h
  generalize (5 :: (le4 (bs k).length ++ (bs k ++ (le4 (bs m).length ++ (bs m ++ bs k))))) = l at H ⊢
  have b0 := Box8.new w (.int .u8 0) (.int .u8 0) (.int .u8 0) (.int .u8 0) (.int .u8 0) (.int .u8 0) (.int .u8 0) (.int .u8 0) 43
  have B0 : Below w.heap.size w (w.alloc (.cells #[.int .u8 0, .int .u8 0, .int .u8 0, .int .u8 0, .int .u8 0, .int .u8 0, .int .u8 0, .int .u8 0] 43)) := (Below.refl _ w).alloc (Nat.le_refl _) _
  go_enter Try.func34, Try.ntmps34
  go_wp2_with fail
  refine (length_any k hk _).mono ?_
  rintro e w1 ⟨rfl, hb1⟩
  have b1 := b0.below hb1 b0.lt
  have B1 := B0.trans (hb1.mono B0.size)
  go_wp2_with fail
  refine (length_any m hm _).mono ?_
  rintro e w2 ⟨rfl, hb2⟩
  have b2 := b1.below hb2 b1.lt
  have B2 := B1.trans (hb2.mono B1.size)
  go_wp2_with fail
  refine (H.out _ _ (by simp)).mono ?_
  rintro e w3 ⟨rfl, hb3⟩
  have b3 := b2.below hb3 b2.lt
  have B3 := B2.trans (hb3.mono B2.size)
  have hlt := b3.lt
  have q0 : w3.cell? ⟨w.heap.size, 0, none⟩ = some (.int .u8 0) := b3.cell 0 (by decide)
  have q1 : w3.cell? ⟨w.heap.size, 1, none⟩ = some (.int .u8 0) := b3.cell 1 (by decide)
  have q2 : w3.cell? ⟨w.heap.size, 2, none⟩ = some (.int .u8 0) := b3.cell 2 (by decide)
  have q3 : w3.cell? ⟨w.heap.size, 3, none⟩ = some (.int .u8 0) := b3.cell 3 (by decide)
  have q4 : w3.cell? ⟨w.heap.size, 4, none⟩ = some (.int .u8 0) := b3.cell 4 (by decide)
  have q5 : w3.cell? ⟨w.heap.size, 5, none⟩ = some (.int .u8 0) := b3.cell 5 (by decide)
  have q6 : w3.cell? ⟨w.heap.size, 6, none⟩ = some (.int .u8 0) := b3.cell 6 (by decide)
  have q7 : w3.cell? ⟨w.heap.size, 7, none⟩ = some (.int .u8 0) := b3.cell 7 (by decide)
  have z0 := b3.free 0 (by decide)
  have z1 := b3.free 1 (by decide)
  have z2 := b3.free 2 (by decide)
  have z3 := b3.free 3 (by decide)
  have z4 := b3.free 4 (by decide)
  have z5 := b3.free 5 (by decide)
  have z6 := b3.free 6 (by decide)
  have z7 := b3.free 7 (by decide)
  go_wp2
  have b9 := b3.set l
  have B9 := set8_below (o := 0) l B3 (Nat.le_refl _)
  clear q0 q1 q2 q3 q4 q5 q6 q7 z0 z1 z2 z3 z4 z5 z6 z7 b0 b1 b2 b3
  simp only [set8, Nat.zero_add] at b9 B9
  generalize hW : World.setCell _ _ _ = W9 at b9 B9 ⊢
  clear hW
  have q0 := b9.cell 0 (by decide)
  have q1 := b9.cell 1 (by decide)
  have q2 := b9.cell 2 (by decide)
  have q3 := b9.cell 3 (by decide)
  have q4 := b9.cell 4 (by decide)
  have q5 := b9.cell 5 (by decide)
  have q6 := b9.cell 6 (by decide)
  have q7 := b9.cell 7 (by decide)
  exact bodyPost_ret (v := aggD l) (by simp [results, Try.results34, go_sem, q0, q1, q2, q3, q4, q5, q6, q7]) rfl ⟨rfl, B9⟩

set_option maxRecDepth 100000 in
set_option maxHeartbeats 1000000 in
theorem mark_any (k m : ByteArray) (hk : k.size ≤ 9223372036854775807) (hm : m.size ≤ 9223372036854775807) (w : World) :
    Calls Try.prog 17 #[.string k, .string m] w fun e w' => e = .returned (str (dMark (bs k) (bs m))) ∧ Below w.heap.size w w' := by
  go_enter Try.func17, Try.ntmps17
  go_wp2_with fail
  refine (markOf_any k m hk hm _).mono ?_
  rintro e w1 ⟨rfl, hb1⟩
  go_wp2_with fail
  refine (text_any _ _).mono ?_
  rintro e w' ⟨rfl, rfl⟩
  go_wp2_with fail
  go_ret
  exact ⟨rfl, by repeat (first | exact hb1 | refine Below.alloc ?_ (by have hz := hb1.size; simp; try omega) _)⟩
end Go.Proofs.Ytmiidniihbhkdaa
