/- Several texts in one. -/
import Derived.WalkKit
import Derived.RangeFuncWrites
import Derived.RangeFuncLeaves
import Derived.RangeFuncRecord
import Derived.Test.YtgenaicmjddjcaaGreatDoorPMath
import Derived.RangeFuncNested
import Derived.RangeFuncBound
import Derived.RangeFuncCalls
import Derived.Shelf.Abstract
import Derived.Shelf.RegionOpen
import Derived.OwnWalkIn
import Derived.TacticsInMore
import Derived.LoopNIn
import Derived.LoopIn
import Derived.Outline
import Derived.Test.YtgenaicmjddjcaaGreatDoorRows
/- Digits that lie in memory, and what a call changes there. It speaks of no program. -/
namespace Go.Proofs.YtgenaicmjddjcaaGreatDoor
open Go.RowKit

theorem hide {p : Prop} (h : p) : Hid p := h

def Cells (w : World) (b off L : Nat) (f : Nat → Nat) : Prop := ∀ j, j < L → w.cell? ⟨b, off + j, none⟩ = some (.int .u32 ((f j : Nat) : Int))
def Dig (w : World) (a : Option Addr) (L : Nat) (f : Nat → Nat) : Prop := L = 0 ∨ ∃ b off, a = some ⟨b, off, none⟩ ∧ Cells w b off L f
def Free (w : World) (b off L : Nat) : Prop := ∀ j, j < L → w.frozen? ⟨b, off + j, none⟩ = false

theorem lt_of_cell {w : World} {a : Addr} {v : Value} (h : w.cell? a = some v) : a.block < w.heap.size := by
 obtain ⟨o, ho, _⟩ := cells_of_cell h
 exact (Array.getElem?_eq_some_iff.1 ho).1
theorem Cells.lt {w : World} {b off L : Nat} {f : Nat → Nat} (h : Cells w b off L f) (hL : 0 < L) : b < w.heap.size := lt_of_cell (h 0 hL)
theorem Cells.mono {w : World} {b off L L' : Nat} {f : Nat → Nat} (h : Cells w b off L f) (hL : L' ≤ L) : Cells w b off L' f := fun j hj => h j (by omega)
theorem Cells.congr {w : World} {b off L : Nat} {f g : Nat → Nat} (h : Cells w b off L f) (e : ∀ j, j < L → f j = g j) : Cells w b off L g := fun j hj => by rw [h j hj, e j hj]
theorem Cells.shift {w : World} {b off L k n : Nat} {f : Nat → Nat} (h : Cells w b off L f) (hk : k + n ≤ L) : Cells w b (off + k) n (fun j => f (k + j)) := fun j hj => by
 rw [Nat.add_assoc]; exact h (k + j) (by omega)
theorem Dig.mono {w : World} {a : Option Addr} {L L' : Nat} {f : Nat → Nat} (h : Dig w a L f) (hL : L' ≤ L) : Dig w a L' f := by
 rcases h with h | ⟨b, off, e, h⟩
 · exact .inl (by omega)
 · exact .inr ⟨b, off, e, h.mono hL⟩
theorem Dig.congr {w : World} {a : Option Addr} {L : Nat} {f g : Nat → Nat} (h : Dig w a L f) (e : ∀ j, j < L → f j = g j) : Dig w a L g := by
 rcases h with h | ⟨b, off, e', h⟩
 · exact .inl h
 · exact .inr ⟨b, off, e', h.congr e⟩
theorem Dig.at {w : World} {a : Option Addr} {L : Nat} {f : Nat → Nat} (h : Dig w a L f) (hL : 0 < L) : ∃ b off, a = some ⟨b, off, none⟩ ∧ Cells w b off L f := by
 rcases h with h | h
 · omega
 · exact h

theorem cell_of_block_eq {w w' : World} {b : Nat} (h : w'.heap[b]? = w.heap[b]?) (o : Nat) : w'.cell? ⟨b, o, none⟩ = w.cell? ⟨b, o, none⟩ := World.cell?_of_block h
theorem frozen_of_block_eq {w w' : World} {b : Nat} (h : w'.heap[b]? = w.heap[b]?) (o : Nat) : w'.frozen? ⟨b, o, none⟩ = w.frozen? ⟨b, o, none⟩ := World.frozen?_of_block h

structure Touch (b lo hi : Nat) (w w' : World) : Prop where
 os : w'.os = w.os
 tape : w'.tape = w.tape
 output : w'.output = w.output
 size : w.heap.size ≤ w'.heap.size
 block : ∀ k, k < w.heap.size → k ≠ b → w'.heap[k]? = w.heap[k]?
 cell : ∀ o, ¬ (lo ≤ o ∧ o < hi) → w'.cell? ⟨b, o, none⟩ = w.cell? ⟨b, o, none⟩
 frozen : ∀ o, w'.frozen? ⟨b, o, none⟩ = w.frozen? ⟨b, o, none⟩
theorem Touch.refl (b lo hi : Nat) (w : World) : Touch b lo hi w w := ⟨rfl, rfl, rfl, Nat.le_refl _, fun _ _ _ => rfl, fun _ _ => rfl, fun _ => rfl⟩
theorem Touch.trans {b lo hi : Nat} {x y z : World} (h : Touch b lo hi x y) (k : Touch b lo hi y z) : Touch b lo hi x z :=
 ⟨k.os.trans h.os, k.tape.trans h.tape, k.output.trans h.output, Nat.le_trans h.size k.size,
   fun i hi' hne => (k.block i (Nat.lt_of_lt_of_le hi' h.size) hne).trans (h.block i hi' hne), fun o ho => (k.cell o ho).trans (h.cell o ho), fun o => (k.frozen o).trans (h.frozen o)⟩
theorem Touch.widen {b lo hi lo' hi' : Nat} {x y : World} (h : Touch b lo hi x y) (h1 : lo' ≤ lo) (h2 : hi ≤ hi') : Touch b lo' hi' x y :=
 ⟨h.os, h.tape, h.output, h.size, h.block, fun o ho => h.cell o (by omega), h.frozen⟩
theorem Touch.of_below {B b lo hi : Nat} {x y : World} (h : Below B x y) (hB : x.heap.size ≤ B) (hb : b < x.heap.size) : Touch b lo hi x y :=
 ⟨h.os, h.tape, h.output, h.size, fun k hk _ => h.block k (by omega), fun _ _ => h.cell (by show b < B; omega), fun _ => h.frozen (by show b < B; omega)⟩
theorem Touch.below {B b lo hi : Nat} {x y : World} (h : Touch b lo hi x y) (hB : B ≤ b) (hs : B ≤ x.heap.size) : Below B x y :=
 ⟨h.os, h.tape, h.output, h.size, fun k hk => h.block k (by omega) (by omega)⟩
theorem cell_setCell_ne (w : World) (a c : Addr) (v : Value) (h : c ≠ a) (hs : a.spot = none) (hc : c.spot = none) : (w.setCell a v).cell? c = w.cell? c := by
 obtain ⟨ab, ao, asv⟩ := a
 obtain ⟨cb, co, cs⟩ := c
 obtain rfl : asv = none := hs
 obtain rfl : cs = none := hc
 by_cases e : cb = ab
 · subst e
   have hne : ao ≠ co := fun e => h (by rw [e])
   unfold World.cell? World.setCell
   simp only [Array.getElem?_modify, if_pos]
   cases w.heap[cb]? with
   | none => rfl
   | some o => cases o <;> simp [Array.getElem?_setIfInBounds_ne hne]
 · exact World.cell?_of_block (Below.heap_setCell w _ v cb e)
theorem Touch.setCell {b lo hi o : Nat} (w : World) (v : Value) (h1 : lo ≤ o) (h2 : o < hi) : Touch b lo hi w (w.setCell ⟨b, o, none⟩ v) :=
 ⟨rfl, rfl, rfl, by simp [World.setCell], fun k _ hne => Below.heap_setCell w _ v k hne,
   fun p hp => cell_setCell_ne w _ _ v (fun e => hp (by cases e; exact ⟨h1, h2⟩)) rfl rfl, fun p => World.frozen?_setCell _ _ _ _⟩
theorem Touch.drew {b lo hi : Nat} {x y : World} (h : Touch b lo hi x y) : Touch b lo hi x y.drew := ⟨h.os, h.tape, h.output, h.size, h.block, h.cell, h.frozen⟩


theorem Cells.touch {w w' : World} {b c lo hi off L : Nat} {f : Nat → Nat} (h : Cells w b off L f) (t : Touch c lo hi w w') (hne : b ≠ c ∨ off + L ≤ lo ∨ hi ≤ off) : Cells w' b off L f := fun j hj => by
 by_cases e : b = c
 · subst e
   rw [t.cell _ (by rcases hne with h | h | h <;> first | exact absurd rfl h | omega)]; exact h j hj
 · rw [cell_of_block_eq (t.block b (lt_of_cell (h j hj)) e)]; exact h j hj
theorem Cells.below {w w' : World} {B b off L : Nat} {f : Nat → Nat} (h : Cells w b off L f) (t : Below B w w') (hB : w.heap.size ≤ B ∨ b < B) : Cells w' b off L f := fun j hj => by
 rw [t.cell (p := ⟨b, off + j, none⟩) (by have := lt_of_cell (h j hj); show b < B; simp only at this; omega)]; exact h j hj
theorem Dig.touch {w w' : World} {a : Option Addr} {c lo hi L : Nat} {f : Nat → Nat} (h : Dig w a L f) (t : Touch c lo hi w w') (hne : ∀ ad, a = some ad → ad.block ≠ c) : Dig w' a L f := by
 rcases h with h | ⟨b, off, e, h⟩
 · exact .inl h
 · exact .inr ⟨b, off, e, h.touch t (.inl (hne _ e))⟩
theorem Dig.below {w w' : World} {a : Option Addr} {L : Nat} {f : Nat → Nat} (h : Dig w a L f) (t : Below w.heap.size w w') : Dig w' a L f := by
 rcases h with h | ⟨b, off, e, h⟩
 · exact .inl h
 · exact .inr ⟨b, off, e, h.below t (.inl (Nat.le_refl _))⟩
theorem Free.touch {w w' : World} {b c lo hi off L : Nat} (h : Free w b off L) (t : Touch c lo hi w w') (hb : b < w.heap.size) : Free w' b off L := fun j hj => by
 by_cases e : b = c
 · subst e; rw [t.frozen]; exact h j hj
 · rw [frozen_of_block_eq (t.block b hb e)]; exact h j hj
theorem Free.below {w w' : World} {B b off L : Nat} (h : Free w b off L) (t : Below B w w') (hb : b < B) : Free w' b off L := fun j hj => by
 rw [t.frozen (p := ⟨b, off + j, none⟩) hb]; exact h j hj
structure Calm (B : Nat) (W W' : World) : Prop where
 cell : ∀ a v, W.cell? a = some v → W'.cell? a = some v
 frozen : ∀ a v, W.cell? a = some v → W'.frozen? a = W.frozen? a
 below : Below B W W'
theorem ownFrom_of {β : Type} {B : Nat} {I : β → World → Prop} (hs : ∀ s W, I s W → B ≤ W.heap.size) (h : ∀ s W W', I s W → Calm B W W' → I s W') : OwnFrom B I := fun s W W' _ hi hg hr =>
 h s W W' hi ⟨fun _ _ hc => cell_kept hc hg (fun r e => (hr r e).2), fun _ _ hc => frozen_kept hc hg (fun r e => (hr r e).2),
  (Below.refl B W).grown hg (hs s W hi) (fun k e => (hr k e).1)⟩
theorem calm_put {B D : Nat} {W : World} {o : Obj} (o' : Obj) (hB : B ≤ D) (h : W.heap[D]? = some o) (ho : o.isCells = false) : Calm B W (W.putObj D o') :=
 have hg := grownBy_putObj' W D o'
 have hr : ∀ r, some D = some r → ∃ o : Obj, W.heap[r]? = some o ∧ o.isCells = false := fun r e => by cases e; exact ⟨o, h, ho⟩
 ⟨fun _ _ hc => cell_kept hc hg hr, fun _ _ hc => frozen_kept hc hg hr, hg.os, hg.tape, hg.output, hg.size, fun k hk => World.putObj_heap_other (by omega)⟩
theorem Touch.calm {B b lo hi : Nat} {w W W' : World} (h : Touch b lo hi w W) (hc : Calm B W W') (hB : w.heap.size ≤ B) (hb : b < w.heap.size) : Touch b lo hi w W' :=
 ⟨hc.below.os.trans h.os, hc.below.tape.trans h.tape, hc.below.output.trans h.output, Nat.le_trans h.size hc.below.size,
   fun k hk hne => (hc.below.block k (by omega)).trans (h.block k hk hne), fun o ho => (hc.below.cell (p := ⟨b, o, none⟩) (by show b < B; omega)).trans (h.cell o ho),
   fun o => (hc.below.frozen (p := ⟨b, o, none⟩) (by show b < B; omega)).trans (h.frozen o)⟩
theorem Touch.newCell {b lo hi c o : Nat} {w W : World} (h : Touch b lo hi w W) (hc : w.heap.size ≤ c) (hb : b < w.heap.size) (v : Value) : Touch b lo hi w (W.setCell ⟨c, o, none⟩ v) :=
 ⟨h.os, h.tape, h.output, by rw [World.size_setCell]; exact h.size, fun k hk hne => (Below.heap_setCell W ⟨c, o, none⟩ v k (by show k ≠ c; omega)).trans (h.block k hk hne),
   fun p hp => (cell_of_block_eq (Below.heap_setCell W ⟨c, o, none⟩ v b (by show b ≠ c; omega)) p).trans (h.cell p hp),
   fun p => (World.frozen?_setCell _ _ _ _).trans (h.frozen p)⟩
theorem Calm.cells {B : Nat} {W W' : World} (h : Calm B W W') {b off L : Nat} {f : Nat → Nat} (hc : Cells W b off L f) : Cells W' b off L f := fun j hj => h.cell _ _ (hc j hj)
theorem Calm.dig {B : Nat} {W W' : World} (h : Calm B W W') {a : Option Addr} {L : Nat} {f : Nat → Nat} (hc : Dig W a L f) : Dig W' a L f := by
 rcases hc with hc | ⟨b, off, e, hc⟩
 · exact .inl hc
 · exact .inr ⟨b, off, e, h.cells hc⟩
theorem leavesM_one {n : Nat} {P : Program} {fn : Func} {tmps : Array Value} {R : Ending → World → Prop} {w : World} {D : Nat} (hK : w.heap[D]? = some (.deferred (some [])))
 (h : ∃ v, (results fn tmps).run P (w.putObj D (.deferred none)) = .ok v (w.putObj D (.deferred none)) ∧ R (.returned v) (w.putObj D (.deferred none))) :
 LeavesInM Fence.wide n P fn tmps R [{ target := .collected D, args := #[] }] .returning w :=
 ⟨by simp, .inl ⟨_, _, rfl, run_takeDeferred hK, h⟩⟩

def mixF (f g : Nat → Nat) (n : Nat) : Nat → Nat := fun j => if j < n then f j else g j
structure Box2 (w : World) (b : Nat) (v0 v1 : Value) : Prop where
 c0 : w.cell? ⟨b, 0, none⟩ = some v0
 c1 : w.cell? ⟨b, 1, none⟩ = some v1
 z0 : w.frozen? ⟨b, 0, none⟩ = false
 z1 : w.frozen? ⟨b, 1, none⟩ = false
theorem Box2.lt {w : World} {b : Nat} {v0 v1 : Value} (h : Box2 w b v0 v1) : b < w.heap.size := lt_of_cell h.c0
theorem Box2.below {w w' : World} {b B : Nat} {v0 v1 : Value} (h : Box2 w b v0 v1) (t : Below B w w') (hB : b < B) : Box2 w' b v0 v1 :=
 ⟨(t.cell (p := ⟨b, 0, none⟩) hB).trans h.c0, (t.cell (p := ⟨b, 1, none⟩) hB).trans h.c1, (t.frozen (p := ⟨b, 0, none⟩) hB).trans h.z0, (t.frozen (p := ⟨b, 1, none⟩) hB).trans h.z1⟩
theorem Box2.new (w : World) (v0 v1 : Value) (t : TypeId) : Box2 (w.alloc (.cells #[v0, v1] t)) w.heap.size v0 v1 := ⟨by simp [go_sem], by simp [go_sem], by simp [go_sem], by simp [go_sem]⟩
theorem Box2.alloc {w : World} {b : Nat} {v0 v1 : Value} (h : Box2 w b v0 v1) (o : Obj) : Box2 (w.alloc o) b v0 v1 := h.below ((Below.refl _ w).alloc (Nat.le_refl _) o) h.lt

def RegEnd (a0 : Act) (w0 : World) : Exit → Act → World → Prop := fun e a w => e = .normal ∧ a = a0 ∧ w = w0

theorem setNum {w : World} {B : Nat} {u0 u1 : Value} (v0 v1 : Value) (c0 : w.cell? ⟨B, 0, none⟩ = some u0) (c1 : w.cell? ⟨B, 1, none⟩ = some u1) :
 ((w.setCell ⟨B, 0, none⟩ v0).setCell ⟨B, 1, none⟩ v1).cell? ⟨B, 0, none⟩ = some v0 ∧ ((w.setCell ⟨B, 0, none⟩ v0).setCell ⟨B, 1, none⟩ v1).cell? ⟨B, 1, none⟩ = some v1 ∧
   Touch B 0 2 w ((w.setCell ⟨B, 0, none⟩ v0).setCell ⟨B, 1, none⟩ v1) := by
 refine ⟨?_, ?_, (Touch.setCell w v0 (Nat.le_refl _) (by omega)).trans (Touch.setCell _ v1 (by omega) (by omega))⟩
 · rw [cell_setCell_ne _ _ _ _ (fun e => by have := congrArg Addr.off e; simp at this) rfl rfl]; exact World.cell?_setCell_same' _ _ _ (by rw [c0]; rfl)
 · refine World.cell?_setCell_same' _ _ _ ?_
   rw [cell_setCell_ne _ _ _ _ (fun e => by have := congrArg Addr.off e; simp at this) rfl rfl, c1]; rfl
theorem Box2.set {w : World} {B : Nat} {u0 u1 : Value} (v0 v1 : Value) (h : Box2 w B u0 u1) : Box2 ((w.setCell ⟨B, 0, none⟩ v0).setCell ⟨B, 1, none⟩ v1) B v0 v1 := by
 obtain ⟨r0, r1, _⟩ := setNum v0 v1 h.c0 h.c1
 exact ⟨r0, r1, by rw [World.frozen?_setCell, World.frozen?_setCell]; exact h.z0, by rw [World.frozen?_setCell, World.frozen?_setCell]; exact h.z1⟩
theorem Box2.other {w : World} {B C : Nat} {u0 u1 : Value} (v0 v1 : Value) (h : Box2 w C u0 u1) (hne : C ≠ B) : Box2 ((w.setCell ⟨B, 0, none⟩ v0).setCell ⟨B, 1, none⟩ v1) C u0 u1 := by
 refine ⟨?_, ?_, by rw [World.frozen?_setCell, World.frozen?_setCell]; exact h.z0, by rw [World.frozen?_setCell, World.frozen?_setCell]; exact h.z1⟩
 · rw [cell_setCell_ne _ _ _ _ (fun e => hne (congrArg Addr.block e)) rfl rfl, cell_setCell_ne _ _ _ _ (fun e => hne (congrArg Addr.block e)) rfl rfl]; exact h.c0
 · rw [cell_setCell_ne _ _ _ _ (fun e => hne (congrArg Addr.block e)) rfl rfl, cell_setCell_ne _ _ _ _ (fun e => hne (congrArg Addr.block e)) rfl rfl]; exact h.c1
theorem below_set2 {w w' : World} {C B : Nat} (h : Below C w w') (hB : C ≤ B) (v0 v1 : Value) : Below C w ((w'.setCell ⟨B, 0, none⟩ v0).setCell ⟨B, 1, none⟩ v1) :=
 (h.setCell (p := ⟨B, 0, none⟩) hB v0).setCell (p := ⟨B, 1, none⟩) hB v1
theorem Dig.touch' {w w' : World} {a : Option Addr} {c lo hi L : Nat} {f : Nat → Nat} (h : Dig w a L f) (t : Touch c lo hi w w') (hne : L = 0 ∨ ∀ ad, a = some ad → ad.block ≠ c) : Dig w' a L f := by
 rcases hne with h0 | hne
 · exact .inl h0
 · exact h.touch t hne
def putF (f : Nat → Nat) (k v : Nat) : Nat → Nat := fun j => if j = k then v else f j
theorem putF_same (f : Nat → Nat) (k v : Nat) : putF f k v k = v := by simp [putF]
theorem putF_ne (f : Nat → Nat) {k j : Nat} (v : Nat) (h : j ≠ k) : putF f k v j = f j := by simp [putF, h]
theorem putF_lt {f : Nat → Nat} {k v L : Nat} (hf : ∀ j, j < L → f j < 4294967296) (hv : v < 4294967296) : ∀ j, j < L → putF f k v j < 4294967296 := fun j hj => by
 unfold putF; split
 · exact hv
 · exact hf j hj
theorem Cells.set {w : World} {b off L k : Nat} {f : Nat → Nat} (h : Cells w b off L f) (v : Nat) (hk : k < L) : Cells (w.setCell ⟨b, off + k, none⟩ (.int .u32 (v : Int))) b off L (putF f k v) := fun j hj => by
 by_cases e : j = k
 · subst e
   rw [putF_same]
   exact World.cell?_setCell_same' _ _ _ (by rw [h j hj]; rfl)
 · rw [putF_ne _ _ e, cell_setCell_ne _ _ _ _ (fun e' => e (by have := congrArg Addr.off e'; simp only at this; omega)) rfl rfl]; exact h j hj
theorem valF_putF_ge (f : Nat → Nat) {k i : Nat} (v : Nat) (h : i ≤ k) : valF (putF f k v) i = valF f i := valF_congr fun j hj => putF_ne _ _ (by omega)
end Go.Proofs.YtgenaicmjddjcaaGreatDoor

/- slices.Backward over a slice of uint32: the iterator's closure calls its yield with each index, from the last one on, and the digit that lies there at that moment. -/
namespace Go.Proofs.YtgenaicmjddjcaaGreatDoor
open Go.RowKit Go.Shelf
attribute [local go_sem] Oper.semAt_some

set_option maxRecDepth 100000 in
set_option maxHeartbeats 1000000 in
theorem back1_in (n : Nat) (hn : 1 ≤ n) (l box : Nat) (ao : Option Addr) (len cap : Nat) (hlen : len ≤ 9223372036854775807) (J : Nat → World → Prop) (Jx : World → Prop)
 (hbox : ∀ k W, J k W → W.cell? ⟨box, 0, none⟩ = some (.slice ao len cap))
 (hY : ∀ k W, k < len → J (k + 1) W → ∃ b off v, ao = some ⟨b, off, none⟩ ∧ W.cell? ⟨b, off + k, none⟩ = some (.int .u32 v) ∧
   YieldAt Fence.wide (n - 1) Tryz.prog l #[.int .i64 k, .int .u32 v] W fun e W' => (e = .returned (.bool true) ∧ J k W') ∨ (e = .returned (.bool false) ∧ Jx W'))
 (W : World) (h0 : J len W) :
 CallsIn Fence.wide n Tryz.prog 113 #[.func (.yield l) #[] #[], .pointer (some ⟨box, 0, none⟩)] W fun e W' => (∃ v, e = .returned v) ∧ (J 0 W' ∨ Jx W') := by
 refine callsIn_of_wp Tryz.func113 rfl trivial ?_ rfl
 simp only [Tryz.ntmps113, List.size_toArray, List.length_cons, List.length_nil, Nat.reduceAdd, Nat.reduceSub, Array.replicate_succ, Array.replicate_zero, List.push_toArray, List.append_toArray, List.nil_append, List.cons_append]
 have hb0 := hbox _ _ h0
 gi_wp2
 gi_loopw [3] (fun i wr => ∃ k : Nat, k ≤ len ∧ i = .int .i64 ((k : Int) - 1) ∧ J k wr)
  (fun i _ => (intOf i + 1).toNat)
 case atStart => exact ⟨len, Nat.le_refl _, rfl, h0⟩
 case round =>
  obtain ⟨k, hk, rfl, hJ⟩ := hrel
  have hbx := hbox _ _ hJ
  cases k with
  | zero =>
    rw [show (((0 : Nat) : Int) - 1) = -1 from rfl]
    gi_wp2
    go_end0
    exact ⟨⟨_, rfl⟩, .inl hJ⟩
  | succ m =>
    rw [show (((m + 1 : Nat) : Int) - 1) = (m : Int) from by omega]
    obtain ⟨b, off, v, rfl, hcv, fn, tmps, assign, body, hy, hR⟩ := hY m _ (by omega) hJ
    have hm1 : (m : Int) < len := by omega
    gi_wp2
    refine hR.mono ?_
    rintro e W3 (⟨rfl, hJ3⟩ | ⟨rfl, hJx3⟩)
    · gi_wp2
      go_roundw
      case rel => exact ⟨m, by omega, rfl, hJ3⟩
      case measure => simp [intOf]
    · gi_wp2
      refine bodyPost_ret (results_none rfl _ _ _) rfl ?_
      exact ⟨⟨_, rfl⟩, .inr hJx3⟩

def backPost (B k : Nat) (I : Nat → World → Prop) (Ix : Code → World → Prop) (W : World) : Exit → Act → World → Prop
 | .normal, _, W' => KeepsFrom B W W' ∧ I k W'
 | .ret, _, W' => KeepsFrom B W W' ∧ Ix .ret W'
 | .exit id, _, W' => KeepsFrom B W W' ∧ Ix (.exit id) W'
 | .goto t, _, W' => KeepsFrom B W W' ∧ Ix (.goto t) W'
 | .panic _, _, _ => False
 | .outgrown, _, _ => False

set_option maxHeartbeats 1000000 in
theorem wp_back {ps : Array Tmp} {assign body : Code} {Q : Exit → Act → World → Prop} {a : Act} {w : World} {g : Operand}
 (n : Nat) (hn : 3 ≤ n) (box : Nat) (ao : Option Addr) (len cap : Nat) (hlen : len ≤ 9223372036854775807)
 (hg : a.eval g = .func (.func 113) #[] #[.pointer (some ⟨box, 0, none⟩)]) (hps : ps.size = 2)
 (I : Nat → World → Prop) (Ix : Code → World → Prop) (hI : OwnFrom w.heap.size I) (hIx : OwnFrom w.heap.size Ix)
 (hbox : ∀ k W, I k W → W.cell? ⟨box, 0, none⟩ = some (.slice ao len cap)) (h0 : I len w) (a₁ : Nat → Int → Act)
 (hcell : ∀ k W, k < len → I (k + 1) W → ∃ b off v, ao = some ⟨b, off, none⟩ ∧ W.cell? ⟨b, off + k, none⟩ = some (.int .u32 v))
 (hassign : ∀ (l k : Nat) (v : Int) (W : World) (K : Act → World → Prop), K (a₁ k v) W →
   assign.wpIn (Fence.wide.inRound l) (n - 1 - 1) Tryz.prog (Exit.then K (fun _ _ _ => False)) { tmps := (ps.zip #[.int .i64 (k : Int), .int .u32 v]).foldl (fun t (p, v) => t.setIfInBounds p v) a.tmps, defers := [] } W)
 (hbody : ∀ (l k : Nat) (v : Int) (b off : Nat) (W : World), k < len → I (k + 1) W → ao = some ⟨b, off, none⟩ → W.cell? ⟨b, off + k, none⟩ = some (.int .u32 v) →
   body.wpIn (Fence.wide.inRound l) (n - 1 - 1) Tryz.prog (backPost w.heap.size k I Ix W) (a₁ k v) W)
 (hdone : ∀ (D : Nat) (W : World), w.heap.size ≤ D → I 0 W → W.heap[D]? = some (.deferred (some [])) → Q .normal { a with defers := { target := .collected D, args := #[] } :: a.defers } W)
 (hstop : ∀ (D : Nat) (c : Code) (W : World), w.heap.size ≤ D → Ix c W → W.heap[D]? = some (.deferred (some [])) → c.wpIn Fence.wide n Tryz.prog Q { a with defers := { target := .collected D, args := #[] } :: a.defers } W) :
 (Code.rangeFunc g ps assign body).wpIn Fence.wide n Tryz.prog Q a w := by
 refine wpIn_rangeFunc ?_
 intro fn hfn
 rw [show Fence.wide.round = none from rfl]
 obtain ⟨rec, hrec⟩ : ∃ rec : LoopState → Option Code → Loop, rec = fun st pe => { state := st, pending := pe, fn, tmps := a.tmps, params := ps, assign, body, defers := w.heap.size } := ⟨_, rfl⟩
 obtain ⟨W1, hW1⟩ : ∃ W1, (w.alloc (.deferred (some []))).alloc (.loop (rec .ready none)) = W1 := ⟨_, rfl⟩
 have hL1 : W1.heap[w.heap.size + 1]? = some (.loop (rec .ready none)) := by
  rw [← hW1]; have := World.alloc_heap_new (w.alloc (.deferred (some []))) (.loop (rec .ready none)); rwa [World.size_alloc] at this
 have hK1 : W1.heap[w.heap.size]? = some (.deferred (some [])) := by
  rw [← hW1]; exact (Below.heap_alloc _ _ _ (by simp)).trans (World.alloc_heap_new w _)
 have hI1 : I len W1 := by rw [← hW1]; exact hI.alloc _ (hI.alloc _ h0)
 refine ⟨w.heap.size + 1, [{ target := .collected w.heap.size, args := #[] }], W1, { target := .fn (.func 113) #[.pointer (some ⟨box, 0, none⟩)], args := #[.func (.yield (w.heap.size + 1)) #[] #[]] }, W1, 113,
  #[.func (.yield (w.heap.size + 1)) #[] #[]] ++ #[.pointer (some ⟨box, 0, none⟩)], W1, ?_, ?_, ?_, ?_, fun _ => by omega, ?_⟩
 · rw [← hW1, hrec]; exact run_enterLoop_outer _ _ _ _ _
 · simp only [resolve, hg]
   simp [go_sem]
 · intro f' _; trivial
 · simp [invoke, go_sem]
 · refine (back1_in (n - 1) (by omega) (w.heap.size + 1) box ao len cap hlen
    (fun k W => I k W ∧ W.heap[w.heap.size + 1]? = some (.loop (rec .ready none)) ∧ W.heap[w.heap.size]? = some (.deferred (some [])))
    (fun W => ∃ c, Ix c W ∧ W.heap[w.heap.size + 1]? = some (.loop (rec .done (some c))) ∧ W.heap[w.heap.size]? = some (.deferred (some [])))
    (fun k W h => hbox k W h.1) ?_ W1 ⟨hI1, hL1, hK1⟩).mono ?_
   · rintro k W hk ⟨hi, hl, hkd⟩
     obtain ⟨b, off, v, hao, hcv⟩ := hcell k W hk hi
     refine ⟨b, off, v, hao, hcv, ?_⟩
     have hlt : w.heap.size + 1 < W.heap.size := (Array.getElem?_eq_some_iff.1 hl).1
     have hy := run_yield (P := Tryz.prog) (args := #[.int .i64 (k : Int), .int .u32 v]) hl (by rw [hrec]; exact hps.symm)
     rw [hrec] at hy
     refine ⟨fn, _, assign, body, hy, roundIn_of_wpIn hfn (hassign _ k v W _ ⟨_, run_beginRound hl (by rw [hrec]), ?_⟩)⟩
     have hl2 : (W.putObj (w.heap.size + 1) (.loop { rec .ready none with state := .busy })).heap[w.heap.size + 1]? = some (.loop { rec .ready none with state := .busy }) := World.putObj_heap_same hlt
     have hk2 : (W.putObj (w.heap.size + 1) (.loop { rec .ready none with state := .busy })).heap[w.heap.size]? = some (.deferred (some [])) := (World.putObj_heap_other (by omega)).trans hkd
     have hcv2 : (W.putObj (w.heap.size + 1) (.loop { rec .ready none with state := .busy })).cell? ⟨b, off + k, none⟩ = some (.int .u32 v) :=
      cell_kept hcv (grownBy_putObj' _ _ _) (fun r e => by cases e; exact ⟨_, hl, rfl⟩)
     refine wpIn_mono (hbody _ k v b off _ hk (hI.putObj _ hi (by omega) hl rfl) hao hcv2) ?_
     have fin : ∀ (jump : Option Code) (W3 : World), KeepsFrom w.heap.size (W.putObj (w.heap.size + 1) (.loop { rec .ready none with state := .busy })) W3 →
      (Instr.endRound (w.heap.size + 1) jump).run Tryz.prog W3 = .ok (.bool jump.isNone) (W3.putObj (w.heap.size + 1) (.loop (rec (if jump.isNone then .ready else .done) jump))) ∧
      W3.heap[w.heap.size + 1]? = some (.loop { rec .ready none with state := .busy }) ∧
      (W3.putObj (w.heap.size + 1) (.loop (rec (if jump.isNone then .ready else .done) jump))).heap[w.heap.size + 1]? = some (.loop (rec (if jump.isNone then .ready else .done) jump)) ∧
      (W3.putObj (w.heap.size + 1) (.loop (rec (if jump.isNone then .ready else .done) jump))).heap[w.heap.size]? = some (.deferred (some [])) := fun jump W3 hk3 => by
      have hl3 := hk3.same _ _ (by omega) hl2 rfl
      have := run_endRound (P := Tryz.prog) jump hl3
      rw [hrec] at this ⊢
      exact ⟨this, by rw [hrec] at hl3; exact hl3, World.putObj_heap_same (Array.getElem?_eq_some_iff.1 hl3).1, (World.putObj_heap_other (by omega)).trans (hk3.same _ _ (Nat.le_refl _) hk2 rfl)⟩
     rintro e a3 W3 hp
     cases e with
     | normal =>
       obtain ⟨hk3, hi3⟩ := hp
       obtain ⟨hr, hl3, hl4, hk4⟩ := fin none W3 hk3
       exact ⟨_, _, hr, .inl ⟨rfl, hI.putObj _ hi3 (by omega) hl3 rfl, hl4, hk4⟩⟩
     | ret =>
       obtain ⟨hk3, hi3⟩ := hp
       obtain ⟨hr, hl3, hl4, hk4⟩ := fin (some .ret) W3 hk3
       exact ⟨_, _, hr, .inr ⟨rfl, .ret, hIx.putObj _ hi3 (by omega) hl3 rfl, hl4, hk4⟩⟩
     | exit id =>
       obtain ⟨hk3, hi3⟩ := hp
       obtain ⟨hr, hl3, hl4, hk4⟩ := fin (some (.exit id)) W3 hk3
       exact ⟨_, _, hr, .inr ⟨rfl, .exit id, hIx.putObj _ hi3 (by omega) hl3 rfl, hl4, hk4⟩⟩
     | goto t =>
       obtain ⟨hk3, hi3⟩ := hp
       obtain ⟨hr, hl3, hl4, hk4⟩ := fin (some (.goto t)) W3 hk3
       exact ⟨_, _, hr, .inr ⟨rfl, .goto t, hIx.putObj _ hi3 (by omega) hl3 rfl, hl4, hk4⟩⟩
     | panic ch => exact hp.elim
     | outgrown => exact hp.elim
   · rintro e W2 ⟨⟨v, rfl⟩, (⟨hi, hl, hk⟩ | ⟨c, hi, hl, hk⟩)⟩
     · exact ⟨none, _, by have := run_endLoop (P := Tryz.prog) hl (by rw [hrec]; simp); rw [hrec] at this; exact this, hdone _ _ (Nat.le_refl _) (hI.putObj _ hi (by omega) hl rfl) ((World.putObj_heap_other (by omega)).trans hk)⟩
     · exact ⟨some c, _, by have := run_endLoop (P := Tryz.prog) hl (by rw [hrec]; simp); rw [hrec] at this; exact this, hstop _ c _ (Nat.le_refl _) (hIx.putObj _ hi (by omega) hl rfl) ((World.putObj_heap_other (by omega)).trans hk)⟩

theorem wp_backW {ps : Array Tmp} {assign body : Code} {Q : Exit → Act → World → Prop} {a : Act} {w : World} {g : Operand}
 (box : Nat) (ao : Option Addr) (len cap : Nat) (hlen : len ≤ 9223372036854775807)
 (hg : a.eval g = .func (.func 113) #[] #[.pointer (some ⟨box, 0, none⟩)]) (hps : ps.size = 2)
 (I : Nat → World → Prop) (Ix : Code → World → Prop) (hI : OwnFrom w.heap.size I) (hIx : OwnFrom w.heap.size Ix)
 (hbox : ∀ k W, I k W → W.cell? ⟨box, 0, none⟩ = some (.slice ao len cap)) (h0 : I len w) (a₁ : Nat → Int → Act)
 (hcell : ∀ k W, k < len → I (k + 1) W → ∃ b off v, ao = some ⟨b, off, none⟩ ∧ W.cell? ⟨b, off + k, none⟩ = some (.int .u32 v))
 (hassign : ∀ (l k : Nat) (v : Int) (W : World) (K : Act → World → Prop), K (a₁ k v) W →
   assign.wpIn (Fence.wide.inRound l) 9 Tryz.prog (Exit.then K (fun _ _ _ => False)) { tmps := (ps.zip #[.int .i64 (k : Int), .int .u32 v]).foldl (fun t (p, v) => t.setIfInBounds p v) a.tmps, defers := [] } W)
 (hbody : ∀ (l k : Nat) (v : Int) (b off : Nat) (W : World), k < len → I (k + 1) W → ao = some ⟨b, off, none⟩ → W.cell? ⟨b, off + k, none⟩ = some (.int .u32 v) →
   body.wpIn (Fence.wide.inRound l) 9 Tryz.prog (backPost w.heap.size k I Ix W) (a₁ k v) W)
 (hdone : ∀ (D : Nat) (W : World), w.heap.size ≤ D → I 0 W → W.heap[D]? = some (.deferred (some [])) → Q .normal { a with defers := { target := .collected D, args := #[] } :: a.defers } W)
 (hstop : ∀ (D : Nat) (c : Code) (W : World), w.heap.size ≤ D → Ix c W → W.heap[D]? = some (.deferred (some [])) → c.wp Tryz.prog Q { a with defers := { target := .collected D, args := #[] } :: a.defers } W) :
 (Code.rangeFunc g ps assign body).wp Tryz.prog Q a w :=
 wpIn_wide.1 (wp_back 11 (by decide) box ao len cap hlen hg hps I Ix hI hIx hbox h0 a₁ hcell hassign hbody hdone (fun D c W h1 h2 h3 => wpIn_wide.2 (hstop D c W h1 h2 h3)))

theorem calls_marks {f : FuncId} {fn : Func} {c : Code} {args : Array Value} {w : World} {R : Ending → World → Prop} (hf : Tryz.prog.funcs[f]? = some fn) (hb : fn.body = some c)
 (h : c.wp Tryz.prog (bodyPostM Fence.wide 11 Tryz.prog fn R) { tmps := args ++ Array.replicate (fn.ntmps - args.size) undef, defers := [] } w) : Calls Tryz.prog f args w R :=
 callsIn_wide.1 (callsIn_of_wp_marks hf hb trivial (wpIn_wide.2 h) rfl)
theorem box2b {w W : World} {o1 : Obj} {v0 v1 : Value} {t : TypeId} (h : (w.alloc o1).alloc (Obj.cells #[v0, v1] t) = W) : Box2 W (w.heap.size + 1) v0 v1 := by
 have := Box2.new (w.alloc o1) v0 v1 t
 rw [World.size_alloc] at this; rw [← h]; exact this
theorem box3b {w W : World} {o1 o3 : Obj} {v0 v1 : Value} {t : TypeId} (h : ((w.alloc o1).alloc (Obj.cells #[v0, v1] t)).alloc o3 = W) : Box2 W (w.heap.size + 1) v0 v1 := by
 rw [← h]; exact (box2b rfl).alloc o3
theorem box3c {w W : World} {o1 o2 : Obj} {v0 v1 : Value} {t : TypeId} (h : ((w.alloc o1).alloc o2).alloc (Obj.cells #[v0, v1] t) = W) : Box2 W (w.heap.size + 1 + 1) v0 v1 := by
 have := Box2.new ((w.alloc o1).alloc o2) v0 v1 t
 rw [World.size_alloc, World.size_alloc] at this; rw [← h]; exact this
end Go.Proofs.YtgenaicmjddjcaaGreatDoor

