/- num's resize: a copy of digits of another length. -/
import Derived.Deep.OwnRows
import Derived.Laws.CopyOwn
import Derived.Test.YtmpdeiopdempcaaGreatDoorMem
import Derived.Test.YtmpdeiopdempcaaGreatDoorBack
namespace Go.Proofs.YtmpdeiopdempcaaGreatDoor
open Go.RowKit

theorem info_u32 : (Tryz.prog.info? 52).map (fun i => (i.zero, i.size, i.bytes)) = some (some (.int .u32 0), 1, 4) := by kernel_rfl

theorem size_u32 : (Tryz.prog.info? 52).map (·.size) = some 1 := by kernel_rfl

/-- digits as values -/
def digVals (f : Nat → Nat) (n : Nat) : List Value := (List.range n).map fun j => .int .u32 ((f j : Nat) : Int)
theorem digVals_length (f : Nat → Nat) (n : Nat) : (digVals f n).length = n := by simp [digVals]
theorem digVals_get (f : Nat → Nat) {n j : Nat} (h : j < n) : (digVals f n)[j]? = some (.int .u32 ((f j : Nat) : Int)) := by simp [digVals, h]
theorem digVals_one (f : Nat → Nat) (n : Nat) : ∀ v ∈ digVals f n, v.oneCell' = true := by
  intro v hv
  obtain ⟨j, _, rfl⟩ := List.mem_map.1 hv
  rfl
theorem madeCells_digs (n : Nat) : (madeCells #[.int .u32 0] n) = (digVals (fun _ => 0) n).toArray := by
  apply Array.ext
  · simp [madeCells, digVals]
  · intro i h1 h2
    have : i % 1 = 0 := Nat.mod_one i
    simp [madeCells, digVals, this]
theorem splice_digVals (f g : Nat → Nat) (n m : Nat) (h : m ≤ n) : splice (digVals f n) 0 (digVals g m) = digVals (mixF g f m) n := by
  apply List.ext_getElem?
  intro i
  unfold splice
  simp only [List.take_zero, List.nil_append, Nat.zero_add, digVals_length]
  by_cases h1 : i < m
  · rw [List.getElem?_append_left (by rw [digVals_length]; exact h1), digVals_get _ h1, digVals_get _ (by omega)]
    simp [mixF, h1]
  · rw [List.getElem?_append_right (by rw [digVals_length]; omega), digVals_length, List.getElem?_drop]
    by_cases h2 : i < n
    · rw [show m + (i - m) = i from by omega, digVals_get _ h2, digVals_get _ h2]
      simp [mixF, h1]
    · rw [List.getElem?_eq_none (by rw [digVals_length]; omega), List.getElem?_eq_none (by rw [digVals_length]; omega)]

theorem cells_of_heap {w : World} {g n : Nat} {f : Nat → Nat} {t : TypeId} (h : w.heap[g]? = some (.cells (digVals f n).toArray t (0, 0))) : Cells w g 0 n f ∧ Free w g 0 n := by
  refine ⟨fun j hj => ?_, fun j hj => ?_⟩
  · unfold World.cell?; simp only [h]; simp [digVals_get f hj]
  · unfold World.frozen?; simp only [h]; simp

/-- 'make([]uint32, n)', the new world by its cells alone -/
theorem make_digs {w : World} {ops : Array Oper} {rest : List Oper} {o : Oper} {a : Act} {Q : Exit → Act → World → Prop} (hg : o.guard = none) (l c : Operand) (hop : o.op = Op.makeSlice 25 l c)
    (kl kc : IntKind) (z1 z2 : Int) (n : Nat) (hl : a.eval l = .int kl z1) (hc : a.eval c = .int kc z2) (h1 : z1 = (n : Int)) (h2 : z2 = (n : Int)) (hn : n ≤ 35184372088832)
    (hK : ∀ w', Cells w' w.heap.size 0 n (fun _ => 0) → Free w' w.heap.size 0 n → Below w.heap.size w w' → wpList Tryz.prog ops Q rest (a.put o.dst (.slice (some ⟨w.heap.size, 0, none⟩) n n)) w') :
    wpList Tryz.prog ops Q (o :: rest) a w := by
  subst h1 h2
  obtain ⟨i0, hi, hz0, hz1, hz2⟩ := info_parts info_u32
  refine wpList_make_row w hg l c 25 hop 52 i0 (.int .u32 0) Tryz.underlying25 hi hz0 hz1 rfl kl kc n hl hc (by rw [hz2]; omega) (by omega) ?_
  have hh : (w.alloc (.cells (madeCells #[.int .u32 0] n) 52)).heap[w.heap.size]? = some (.cells (digVals (fun _ => 0) n).toArray 52 (0, 0)) := by
    rw [madeCells_digs]; exact World.alloc_heap_new w _
  obtain ⟨h4, h5⟩ := cells_of_heap hh
  exact hK _ h4 h5 ((Below.refl _ w).alloc (Nat.le_refl _) _)

set_option maxRecDepth 100000 in
set_option maxHeartbeats 1000000 in
theorem resize_any (a : Option Addr) (L cap n : Nat) (z : Int) (hz : z = (n : Int)) (f : Nat → Nat) (hL : L ≤ n) (hn : n ≤ 1099511627776) (w : World) (hd : Dig w a L f) :
    Calls Tryz.prog 65 #[.slice a L cap, .int .i64 z] w fun e w' => ∃ g : Nat, e = .returned (.slice (some ⟨g, 0, none⟩) n n) ∧ w.heap.size ≤ g ∧
      Cells w' g 0 n (mixF f (fun _ => 0) L) ∧ Free w' g 0 n ∧ Below w.heap.size w w' := by
  subst hz
  obtain ⟨i0, hi, hz0, hz1, hz2⟩ := info_parts info_u32
  have hb : i0.bytes * n ≤ 281474976710656 := by rw [hz2]; omega
  have HB : Hid (i0.bytes * n ≤ 281474976710656) := hb
  have HI : Hid (Tryz.prog.info? 52 = some i0) := hi
  have HZ : Hid (i0.zero = some (.int .u32 0) ∧ i0.size = 1) := ⟨hz0, hz1⟩
  clear hb hi hz0 hz1 hz2
  have hg : (w.alloc (.cells (madeCells #[.int .u32 0] n) 52)).heap[w.heap.size]? = some (.cells (digVals (fun _ => 0) n).toArray 52 (0, 0)) := by
    rw [madeCells_digs]; exact World.alloc_heap_new w _
  have HG := hide hg
  have HC : Hid (∀ (B : World), Below w.heap.size w B → 0 < (digVals f L).length → some (Addr.mk w.heap.size 0 none) = some ⟨w.heap.size, 0, none⟩ ∧ ∃ ad, a = some ad ∧ ∀ j v, (digVals f L)[j]? = some v → B.cell? (ad.add j) = some v) := by
    intro B hB h0
    rw [digVals_length] at h0
    obtain ⟨b, off, rfl, hc⟩ := hd.at h0
    refine ⟨rfl, _, rfl, fun j v hv => ?_⟩
    have hj : j < L := by
      rcases Nat.lt_or_ge j L with h | h
      · exact h
      · rw [List.getElem?_eq_none (by rw [digVals_length]; exact h)] at hv; cases hv
    rw [digVals_get f hj] at hv; cases hv
    have := hc.below hB (.inl (Nat.le_refl _)) j hj
    unfold Addr.add; split
    · rename_i h; subst h; exact this
    · exact this
  have HA : Hid (Below w.heap.size w (w.alloc (.cells (madeCells #[.int .u32 0] n) 52))) := (Below.refl _ w).alloc (Nat.le_refl _) _
  clear hg
  go_enter Tryz.func65, Tryz.ntmps65
  go_wp2_with (first | (at_make; refine wpList_make_row _ rfl _ _ 25 rfl 52 i0 (.int .u32 0) Tryz.underlying25 HI.out HZ.out.1 HZ.out.2 rfl _ _ n rfl rfl HB.out (by omega) ?_) | (with_reducible refine wpList_copy_splice rfl (.tmp 8) (.tmp 9) 25 25 rfl 52 Tryz.underlying25 size_u32 _ _ _ _ _ _ rfl rfl w.heap.size 0 (digVals (fun _ => 0) n) 52 HG.out (digVals f L) (by rw [digVals_length]; exact (Nat.min_eq_left hL).symm) (HC.out _ HA.out) (by rw [digVals_length, digVals_length]; omega) (digVals_one f L) w.heap.size w HA.out (Nat.le_refl _) ?_))
  intro w2 hw2 hb2
  go_wp2
  go_ret
  have h3 := hw2.out
  rw [splice_digVals _ _ _ _ hL] at h3
  obtain ⟨h4, h5⟩ := cells_of_heap h3
  exact ⟨_, rfl, Nat.le_refl _, h4, h5, hb2⟩
end Go.Proofs.YtmpdeiopdempcaaGreatDoor
