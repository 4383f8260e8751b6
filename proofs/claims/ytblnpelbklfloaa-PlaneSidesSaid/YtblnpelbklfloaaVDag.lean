/- A region that draws its order, with calls, variables that it makes and stores into them, and stores into variables that were there: each operation once, whatever the order. It speaks of no program. -/
import Derived.Test.YtblnpelbklfloaaVCom
import Derived.OrdersHeld
import Derived.Deep.RegionHeld
namespace Go.Proofs.Ytblnpelbklfloaa
open Go.RowKit

theorem cell_setCell_ne (w : World) (a c : Addr) (v : Value) (h : c ≠ a) (hs : a.spot = none) (hc : c.spot = none) : (w.setCell a v).cell? c = w.cell? c := by
  obtain ⟨ab, ao, asv⟩ := a
  obtain ⟨cb, co, cs⟩ := c
  obtain rfl : asv = none := hs
  obtain rfl : cs = none := hc
  by_cases e : cb = ab
  · subst e
    have hne : ao ≠ co := fun e => h (by rw [e])
    unfold World.cell? World.setCell
    simp only [Array.getElem?_modify, if_pos]
    cases w.heap[cb]? with
    | none => rfl
    | some o => cases o <;> simp [Array.getElem?_setIfInBounds_ne hne]
  · exact World.cell?_of_block (Below.heap_setCell w _ v cb e)
section
variable {P : Program} {ops : Array Oper} {Q : Exit → Act → World → Prop} {md : Region.Mode} {S : World → Prop}
theorem ready_nil_of_full {l : Array Bool} (hs : l.size = ops.size) (h : l.toList.count false = 0) : Region.ready md ops l = [] := by
  rw [List.eq_nil_iff_forall_not_mem]
  intro i hi
  obtain ⟨h0, o, ho, -⟩ := mem_ready.1 hi
  have hlt : i < l.size := by rw [hs]; exact (Array.getElem?_eq_some_iff.1 ho).1
  have : l[i] = false := by simpa [hlt] using h0
  have hm : false ∈ l.toList := by rw [← this]; simp
  rw [List.count_eq_zero] at h
  exact h hm
/-- a relation that each operation that may come up keeps -/
theorem wpAnyH_inv {I : Array Bool → Act → World → Prop} (hsz : ∀ l a w, I l a w → l.size = ops.size) (hS : ∀ l a w, I l a w → S w)
    (hstep : ∀ l a w, I l a w → ∀ i ∈ Region.ready md ops l, wpOp P ops Q i (I (l.setIfInBounds i true)) a w)
    (hend : ∀ l a w, I l a w → Region.ready md ops l = [] → Q .normal a w) :
    ∀ (fuel : Nat) (l : Array Bool) (a : Act) (w : World), l.toList.count false ≤ fuel → I l a w → wpAnyH P md ops Q S fuel l a w
  | 0, l, a, w, hf, hI => by
    have := ready_nil_of_full (md := md) (hsz l a w hI) (by omega : l.toList.count false = 0)
    exact ⟨this, hend l a w hI this⟩
  | fuel + 1, l, a, w, hf, hI => ⟨hend l a w hI, fun i hi => wpOp_mono (fun a' w' h' => ⟨hS _ _ _ h', wpAnyH_inv hsz hS hstep hend fuel _ a' w' (by
      obtain ⟨h0, o, ho, -⟩ := mem_ready.1 hi
      have hlt : i < l.size := by rw [hsz l a w hI]; exact (Array.getElem?_eq_some_iff.1 ho).1
      have h1 : l[i] = false := by simpa [hlt] using h0
      have h2 : 0 < l.toList.count false := List.count_pos_iff.2 (by rw [← h1]; simp)
      rw [Array.toList_setIfInBounds, List.count_set (by simpa using hlt)]
      have h3 : l.toList[i]'(by simpa using hlt) = false := by simpa using h1
      rw [h3, if_pos (by decide), if_neg (by decide)]; omega) h'⟩) (hstep l a w hI i hi)⟩
theorem wpOp_call {i : Nat} {o : Oper} {a : Act} {w : World} {K : Act → World → Prop} {f : FuncId} {args : Array Value} (d : Tmp) (hi : ops[i]? = some o) (hd : o.dst = some d) (hw : Region.wanted o (yielded ops a.tmps) = true)
    (he : (execOp a.eval o).run P w = .ok (.enter f args) w) (h : Calls P f args w fun e w' => ∃ v, e = .returned v ∧ K (a.put (some d) v) w') : wpOp P ops Q i K a w := by
  unfold wpOp; simp only [hi]
  rw [if_pos hw]
  refine .inl ?_
  unfold Oper.wp
  rw [he]
  simp only [Oper.upon]
  refine h.mono ?_
  rintro e w' ⟨v, rfl, hK⟩
  rw [hd]; exact hK
theorem wpOp_run {i : Nat} {o : Oper} {a : Act} {w : World} {K : Act → World → Prop} (hi : ops[i]? = some o) (h : if Region.wanted o (yielded ops a.tmps) then o.wp P a w K Q else K (a.put o.dst undef) w) : wpOp P ops Q i K a w := by
  unfold wpOp; simp only [hi]
  split
  · rename_i hw; rw [if_pos hw] at h; exact .inl h
  · rename_i hw; rw [if_neg hw] at h; exact h
end

def upd {α : Type} (f : Nat → α) (k : Nat) (v : α) : Nat → α := fun j => if j = k then v else f j
theorem upd_same {α : Type} (f : Nat → α) (k : Nat) (v : α) : upd f k v k = v := if_pos rfl
theorem upd_ne {α : Type} (f : Nat → α) {k j : Nat} (v : α) (h : j ≠ k) : upd f k v j = f j := if_neg h
theorem upd_eq {α : Type} (f : Nat → α) {k j : Nat} (v : α) (h : j = k) : upd f k v j = v := if_pos h

theorem getD_set_same {l : Array Bool} {i : Nat} (h : l.getD i true = false) (d : Bool) : (l.setIfInBounds i true).getD i d = true := by
  have hlt : i < l.size := by
    rcases Nat.lt_or_ge i l.size with h' | h'
    · exact h'
    · simp [Array.getElem?_eq_none h'] at h
  simp [hlt]
theorem getD_flip {l : Array Bool} {i : Nat} (hi : i < l.size) (d e : Bool) : l.getD i d = l.getD i e := by simp [hi]
/-- operation i surely waits for all of D -/
def waitsB (ops : Array Oper) (i : Nat) (D : List Nat) : Bool := match ops[i]? with
  | some o => D.all fun j => o.after.any fun e => Region.binds .any e && e.on == j
  | none => false
theorem waits_of {ops : Array Oper} {i : Nat} {D : List Nat} (h : waitsB ops i D = true) {l : Array Bool} (hr : i ∈ Region.ready .any ops l) : ∀ j ∈ D, l.getD j false = true := by
  intro j hj
  unfold waitsB at h
  obtain ⟨-, o, ho, hall⟩ := mem_ready.1 hr
  rw [ho] at h
  simp only [List.all_eq_true] at h
  have h1 := h j hj
  rw [Array.any_eq_true'] at h1
  obtain ⟨e, he, h2⟩ := h1
  simp only [Bool.and_eq_true, beq_iff_eq] at h2
  have := hall e he h2.1
  rw [h2.2] at this
  exact this
theorem waits_all {ops : Array Oper} {D : Nat → List Nat} {n : Nat} (h : ((List.range n).all fun i => waitsB ops i (D i)) = true) : ∀ i, i < n → waitsB ops i (D i) = true := fun i hi =>
  List.all_eq_true.1 h i (by simpa using hi)
/-- behind the last one all have come up, if each waits for earlier ones alone -/
theorem all_in {ops : Array Oper} {l : Array Bool} (ht : (ops.toList.zipIdx.all fun p => p.1.after.all fun e => !Region.binds .any e || decide (e.on < p.2)) = true) (hr : Region.ready .any ops l = []) : ∀ i, i < ops.size → l.getD i true = true := by
  intro i
  induction i using Nat.strongRecOn with
  | _ i ih =>
    intro hi
    cases h : l.getD i true with
    | true => rfl
    | false =>
      exfalso
      have : i ∈ Region.ready .any ops l := mem_ready.2 ⟨h, ops[i], by simp [hi], fun e he hb => by
        rw [List.all_eq_true] at ht
        have h1 := ht (ops[i], i) (by rw [List.mem_zipIdx_iff_getElem?]; simp [hi])
        rw [Array.all_eq_true'] at h1
        have h1 := h1 e he
        rw [hb] at h1
        have h1 : e.on < i := by simpa using h1
        have h2 := ih e.on h1 (by omega)
        have hlt : i < l.size := by
          rcases Nat.lt_or_ge i l.size with h' | h'
          · exact h'
          · simp [Array.getElem?_eq_none h'] at h
        have h3 : e.on < l.size := by omega
        simpa [h3] using h2⟩
      rw [hr] at this; cases this

/-- cells of a block from o on, which may be written -/
def Cel (w : World) (b : Nat) : Nat → List Value → Prop
  | _, [] => True
  | o, v :: l => (w.cell? ⟨b, o, none⟩ = some v ∧ w.frozen? ⟨b, o, none⟩ = false) ∧ Cel w b (o + 1) l
/-- a variable of some cells -/
def Var (w : World) (b : Nat) (l : List Value) : Prop := b < w.heap.size ∧ Cel w b 0 l
/-- values are stored in the cells from o on -/
def putC (b : Nat) : World → Nat → List Value → World
  | w, _, [] => w
  | w, o, v :: l => putC b (w.setCell ⟨b, o, none⟩ v) (o + 1) l
/-- the cells that a value takes -/
def vc : Value → List Value
  | .agg cs => cs.toList
  | v => [v]
theorem Cel.below {w w' : World} {b B : Nat} (t : Below B w w') (hb : b < B) : ∀ {l : List Value} {o : Nat}, Cel w b o l → Cel w' b o l
  | [], _, _ => trivial
  | _ :: _, o, h => ⟨⟨(t.cell (p := ⟨b, o, none⟩) hb).trans h.1.1, (t.frozen (p := ⟨b, o, none⟩) hb).trans h.1.2⟩, Cel.below t hb h.2⟩
theorem Cel.block {w w' : World} {b : Nat} (e : w'.heap[b]? = w.heap[b]?) : ∀ {l : List Value} {o : Nat}, Cel w b o l → Cel w' b o l
  | [], _, _ => trivial
  | _ :: _, _, h => ⟨⟨(World.cell?_of_block e).trans h.1.1, (World.frozen?_of_block e).trans h.1.2⟩, Cel.block e h.2⟩
theorem Var.below {w w' : World} {b : Nat} {l : List Value} (h : Var w b l) (t : Below w.heap.size w w') : Var w' b l := ⟨Nat.lt_of_lt_of_le h.1 t.size, h.2.below t h.1⟩
theorem Var.low {w w' : World} {b B : Nat} {l : List Value} (h : Var w b l) (t : Below B w w') (hb : b < B) : Var w' b l := ⟨Nat.lt_of_lt_of_le h.1 t.size, h.2.below t hb⟩
theorem putC_size (b : Nat) : ∀ (l : List Value) (w : World) (o : Nat), (putC b w o l).heap.size = w.heap.size
  | [], _, _ => rfl
  | _ :: l, _w, o => (putC_size b l _ (o + 1)).trans (World.size_setCell _ _ _)
theorem putC_block {b k : Nat} (h : k ≠ b) : ∀ (l : List Value) (w : World) (o : Nat), (putC b w o l).heap[k]? = w.heap[k]?
  | [], _, _ => rfl
  | _ :: l, w, o => (putC_block h l _ (o + 1)).trans (Below.heap_setCell w _ _ k h)
theorem putC_low {b o' : Nat} : ∀ (l : List Value) (w : World) (o : Nat), o' < o → (putC b w o l).cell? ⟨b, o', none⟩ = w.cell? ⟨b, o', none⟩ ∧ (putC b w o l).frozen? ⟨b, o', none⟩ = w.frozen? ⟨b, o', none⟩
  | [], _, _, _ => ⟨rfl, rfl⟩
  | v :: l, w, o, h => by
    obtain ⟨h1, h2⟩ := putC_low (b := b) (o' := o') l (w.setCell ⟨b, o, none⟩ v) (o + 1) (by omega)
    exact ⟨h1.trans (cell_setCell_ne _ _ _ _ (fun e => by have := congrArg Addr.off e; simp at this; omega) rfl rfl), h2.trans (World.frozen?_setCell _ _ _ _)⟩
theorem Cel.setLow {w : World} {b k : Nat} {v : Value} : ∀ {l : List Value} {o : Nat}, Cel w b o l → k < o → Cel (w.setCell ⟨b, k, none⟩ v) b o l
  | [], _, _, _ => trivial
  | _ :: _, o, h, hk => ⟨⟨(cell_setCell_ne _ _ _ _ (fun e => by have := congrArg Addr.off e; simp at this; omega) rfl rfl).trans h.1.1, (World.frozen?_setCell _ _ _ _).trans h.1.2⟩, Cel.setLow h.2 (by omega)⟩
theorem Cel.put {b : Nat} : ∀ {us vs : List Value} {w : World} {o : Nat}, Cel w b o us → us.length = vs.length → Cel (putC b w o vs) b o vs
  | [], [], _, _, _, _ => trivial
  | u :: us, v :: vs, w, o, h, e => by
    have h1 := Cel.put (vs := vs) (h.2.setLow (k := o) (v := v) (by omega)) (by simpa using e)
    obtain ⟨h2, h3⟩ := putC_low (b := b) (o' := o) vs (w.setCell ⟨b, o, none⟩ v) (o + 1) (by omega)
    exact ⟨⟨h2.trans (World.cell?_setCell_same' _ _ _ (by rw [h.1.1]; rfl)), h3.trans ((World.frozen?_setCell _ _ _ _).trans h.1.2)⟩, h1⟩
  | [], _ :: _, _, _, _, e => by simp at e
  | _ :: _, [], _, _, _, e => by simp at e
theorem Cel.new {w : World} {t : TypeId} : ∀ (l pre : List Value), Cel (w.alloc (.cells (pre ++ l).toArray t)) w.heap.size pre.length l
  | [], _ => trivial
  | v :: l, pre => by
    refine ⟨⟨by simp [go_sem], by simp [go_sem]⟩, ?_⟩
    have := Cel.new (w := w) (t := t) l (pre ++ [v])
    simpa using this
theorem Var.new (w : World) (l : List Value) (t : TypeId) : Var (w.alloc (.cells l.toArray t)) w.heap.size l := ⟨by simp, Cel.new (w := w) (t := t) l []⟩
theorem Var.put {w : World} {b : Nat} {us vs : List Value} (h : Var w b us) (e : us.length = vs.length) : Var (putC b w 0 vs) b vs := ⟨by rw [putC_size]; exact h.1, h.2.put e⟩
theorem Var.putOther {w : World} {b c : Nat} {us vs : List Value} (h : Var w c us) (hne : c ≠ b) : Var (putC b w 0 vs) c us := ⟨by rw [putC_size]; exact h.1, h.2.block (putC_block hne _ _ _)⟩
/-- what was there is as it was, but for some blocks -/
structure Keep (S : List Nat) (w w' : World) : Prop where
  os : w'.os = w.os
  tape : w'.tape = w.tape
  output : w'.output = w.output
  size : w.heap.size ≤ w'.heap.size
  block : ∀ k, k < w.heap.size → k ∉ S → w'.heap[k]? = w.heap[k]?
theorem Keep.refl (S : List Nat) (w : World) : Keep S w w := ⟨rfl, rfl, rfl, Nat.le_refl _, fun _ _ _ => rfl⟩
theorem Keep.then {S : List Nat} {a w w' : World} (h : Keep S a w) (t : Below w.heap.size w w') : Keep S a w' :=
  ⟨t.os.trans h.os, t.tape.trans h.tape, t.output.trans h.output, Nat.le_trans h.size t.size, fun k hk hS => (t.block k (Nat.lt_of_lt_of_le hk h.size)).trans (h.block k hk hS)⟩
theorem putC_rest (b : Nat) : ∀ (l : List Value) (w : World) (o : Nat), (putC b w o l).os = w.os ∧ (putC b w o l).tape = w.tape ∧ (putC b w o l).output = w.output
  | [], _, _ => ⟨rfl, rfl, rfl⟩
  | v :: l, w, o => putC_rest b l (w.setCell ⟨b, o, none⟩ v) (o + 1)
theorem Keep.put {S : List Nat} {a w : World} (h : Keep S a w) {b : Nat} (hb : a.heap.size ≤ b ∨ b ∈ S) (l : List Value) : Keep S a (putC b w 0 l) := by
  obtain ⟨r1, r2, r3⟩ := putC_rest b l w 0
  exact ⟨r1.trans h.os, r2.trans h.tape, r3.trans h.output, by rw [putC_size]; exact h.size, fun k hk hS => (putC_block (fun e => by subst e; rcases hb with hb | hb; omega; exact hS hb) l w 0).trans (h.block k hk hS)⟩
theorem Keep.low {S : List Nat} {a w : World} (h : Keep S a w) {B : Nat} (hB : B ≤ a.heap.size) (hS : ∀ b ∈ S, B ≤ b) : Below B a w :=
  ⟨h.os, h.tape, h.output, h.size, fun k hk => h.block k (by omega) fun e => by have := hS k e; omega⟩
theorem Keep.var {S : List Nat} {a w : World} (h : Keep S a w) {b : Nat} {l : List Value} (hv : Var a b l) (hb : b ∉ S) : Var w b l := ⟨Nat.lt_of_lt_of_le hv.1 h.size, hv.2.block (h.block b hv.1 hb)⟩
theorem Keep.nil {a w : World} (h : Keep [] a w) : Below a.heap.size a w := h.low (Nat.le_refl _) nofun
/-- the kinds of operations: (0, _, _) gives a value, (1, st, src) makes a variable in which operation st stores the value of src, (3, al, src) stores it, (4, b, src) stores it in the block b that was there -/
abbrev Kinds := List (Nat × Nat × Nat)
def kd (K : Kinds) (i : Nat) : Nat := (K.getD i (0, 0, 0)).1
def k1 (K : Kinds) (i : Nat) : Nat := (K.getD i (0, 0, 0)).2.1
def k2 (K : Kinds) (i : Nat) : Nat := (K.getD i (0, 0, 0)).2.2
def olds (K : Kinds) : List Nat := (K.filter (·.1 == 4)).map (·.2.1)
theorem olds_mem {K : Kinds} {i : Nat} (h : kd K i = 4) : k1 K i ∈ olds K := by
  unfold kd at h
  unfold k1 olds
  rw [List.getD_eq_getElem?_getD] at *
  cases e : K[i]? with
  | none => rw [e] at h; simp at h
  | some x =>
    rw [e] at h
    exact List.mem_map.2 ⟨x, List.mem_filter.2 ⟨List.mem_of_getElem? e, by simpa using h⟩, rfl⟩
def dagOk (K : Kinds) (D : Nat → List Nat) (n : Nat) : Bool := (List.range n).all fun i =>
  match kd K i with
  | 0 => true
  | 3 => decide (k1 K i < n) && decide (k2 K i < n) && (D i).contains (k1 K i) && (D i).contains (k2 K i) && kd K (k1 K i) == 1 && kd K (k2 K i) == 0 && k1 K (k1 K i) == i
  | 4 => decide (k2 K i < n) && (D i).contains (k2 K i) && kd K (k2 K i) == 0
  | k => k == 1 && decide (k1 K i < n) && kd K (k1 K i) == 3 && k1 K (k1 K i) == i && k2 K (k1 K i) == k2 K i
theorem dagOk_alloc {K : Kinds} {D : Nat → List Nat} {n i : Nat} (h : dagOk K D n = true) (hi : i < n) (hk : kd K i = 1) : k1 K i < n ∧ kd K (k1 K i) = 3 ∧ k1 K (k1 K i) = i ∧ k2 K (k1 K i) = k2 K i := by
  have h := List.all_eq_true.1 h i (by simpa using hi)
  rw [hk] at h; simp at h
  exact ⟨h.1.1.1, h.1.1.2, h.1.2, h.2⟩
theorem dagOk_store {K : Kinds} {D : Nat → List Nat} {n i : Nat} (h : dagOk K D n = true) (hi : i < n) (hk : kd K i = 3) :
    k1 K i < n ∧ k2 K i < n ∧ k1 K i ∈ D i ∧ k2 K i ∈ D i ∧ kd K (k1 K i) = 1 ∧ kd K (k2 K i) = 0 ∧ k1 K (k1 K i) = i := by
  have h := List.all_eq_true.1 h i (by simpa using hi)
  rw [hk] at h; simp at h
  exact ⟨h.1.1.1.1.1.1, h.1.1.1.1.1.2, h.1.1.1.1.2, h.1.1.1.2, h.1.1.2, h.1.2, h.2⟩
theorem dagOk_old {K : Kinds} {D : Nat → List Nat} {n i : Nat} (h : dagOk K D n = true) (hi : i < n) (hk : kd K i = 4) : k2 K i < n ∧ k2 K i ∈ D i ∧ kd K (k2 K i) = 0 := by
  have h := List.all_eq_true.1 h i (by simpa using hi)
  rw [hk] at h; simp at h
  exact ⟨h.1.1, h.1.2, h.2⟩
theorem dagOk_kind {K : Kinds} {D : Nat → List Nat} {n i : Nat} (h : dagOk K D n = true) (hi : i < n) : kd K i = 0 ∨ kd K i = 1 ∨ kd K i = 3 ∨ kd K i = 4 := by
  have h := List.all_eq_true.1 h i (by simpa using hi)
  split at h
  · exact .inl ‹_›
  · exact .inr (.inr (.inl ‹_›))
  · exact .inr (.inr (.inr ‹_›))
  · simp at h; exact .inr (.inl h.1.1.1.1)
/-- how things stand when the operations of L are done -/
structure DagI (K : Kinds) (Z : Nat → List Value) (G : Nat → Value → World → Prop) (n : Nat) (D : Nat → List Nat) (w0 : World) (L : Nat → Bool) (X : Nat → Value) (w : World) : Prop where
  keep : Keep (olds K) w0 w
  closed : ∀ i, i < n → L i = true → ∀ j ∈ D i, L j = true
  fact : ∀ i, i < n → L i = true → kd K i = 0 → G i (X i) w
  box : ∀ i, i < n → L i = true → kd K i = 1 → ∃ b, X i = .pointer (some ⟨b, 0, none⟩) ∧ w0.heap.size ≤ b ∧ Var w b (if L (k1 K i) then vc (X (k2 K i)) else Z i)
  old : ∀ i, i < n → kd K i = 4 → k1 K i < w0.heap.size ∧ Var w (k1 K i) (if L i then vc (X (k2 K i)) else Z i)
  apart : ∀ i j, i < n → j < n → L i = true → L j = true → kd K i = 1 → kd K j = 1 → i ≠ j → X i ≠ X j
section
variable {K : Kinds} {Z : Nat → List Value} {G : Nat → Value → World → Prop} {n : Nat} {D : Nat → List Nat} {w0 w w' : World} {L L' : Nat → Bool} {X : Nat → Value} {i : Nat} {v : Value}
theorem DagI.op (h : DagI K Z G n D w0 L X w) (hok : dagOk K D n = true) (hG : ∀ i v w w', G i v w → Below w.heap.size w w' → G i v w') (hLi : L i = false) (hi' : L' i = true) (hne : ∀ j, j ≠ i → L' j = L j)
    (hk : kd K i = 0) (hD : ∀ j ∈ D i, L j = true) (hv : G i v w') (hb : Below w.heap.size w w') : DagI K Z G n D w0 L' (upd X i v) w' := by
  have up : ∀ j, L j = true → L' j = true := fun j hj => by
    by_cases e : j = i
    · rw [e]; exact hi'
    · rw [hne j e]; exact hj
  have old : ∀ j, L' j = true → j ≠ i → L j = true := fun j hj e => by rw [← hne j e]; exact hj
  refine ⟨h.keep.then hb, fun j hj hL k hk' => ?_, fun j hj hL hkj => ?_, fun j hj hL hkj => ?_, fun j hj hkj => ?_, fun j k hj hk' hL hM hkj hkk hjk => ?_⟩
  · by_cases e : j = i
    · subst e; exact up _ (hD k hk')
    · exact up _ (h.closed j hj (old j hL e) k hk')
  · by_cases e : j = i
    · subst e; rw [upd_same]; exact hv
    · rw [upd_ne _ _ e]; exact hG _ _ _ _ (h.fact j hj (old j hL e) hkj) hb
  · have e : j ≠ i := fun e => by subst e; omega
    obtain ⟨b, h1, h2, h3⟩ := h.box j hj (old j hL e) hkj
    refine ⟨b, by rw [upd_ne _ _ e]; exact h1, h2, ?_⟩
    obtain ⟨g1, g2, -, g4⟩ := dagOk_alloc hok hj hkj
    obtain ⟨-, -, -, g8, -, -, -⟩ := dagOk_store hok g1 g2
    rw [hne _ (fun e => by rw [e] at g2; omega)]
    have h3 := h3.below hb
    split at h3
    · rename_i hL1
      rw [if_pos hL1]
      have := h.closed _ g1 hL1 _ g8
      rw [g4] at this
      rw [upd_ne _ _ (fun e => by rw [e, hLi] at this; cases this)]
      exact h3
    · rename_i hL1
      rw [if_neg hL1]; exact h3
  · have e : j ≠ i := fun e => by subst e; omega
    obtain ⟨h1, h3⟩ := h.old j hj hkj
    refine ⟨h1, ?_⟩
    obtain ⟨-, g2, -⟩ := dagOk_old hok hj hkj
    rw [hne _ e]
    have h3 := h3.below hb
    split at h3
    · rename_i hL1
      rw [if_pos hL1]
      have := h.closed _ hj hL1 _ g2
      rw [upd_ne _ _ (fun e => by rw [e, hLi] at this; cases this)]
      exact h3
    · rename_i hL1
      rw [if_neg hL1]; exact h3
  · have e : j ≠ i := fun e => by subst e; omega
    have e' : k ≠ i := fun e => by subst e; omega
    rw [upd_ne _ _ e, upd_ne _ _ e']
    exact h.apart j k hj hk' (old j hL e) (old k hM e') hkj hkk hjk
theorem DagI.alloc (h : DagI K Z G n D w0 L X w) (hok : dagOk K D n = true) (hG : ∀ i v w w', G i v w → Below w.heap.size w w' → G i v w') (hi : i < n) (hLi : L i = false) (hi' : L' i = true) (hne : ∀ j, j ≠ i → L' j = L j)
    (hk : kd K i = 1) (hD : ∀ j ∈ D i, L j = true) (t : TypeId) : DagI K Z G n D w0 L' (upd X i (.pointer (some ⟨w.heap.size, 0, none⟩))) (w.alloc (.cells (Z i).toArray t)) := by
  have hb : Below w.heap.size w (w.alloc (.cells (Z i).toArray t)) := (Below.refl _ _).alloc (Nat.le_refl _) _
  have up : ∀ j, L j = true → L' j = true := fun j hj => by
    by_cases e : j = i
    · rw [e]; exact hi'
    · rw [hne j e]; exact hj
  have old : ∀ j, L' j = true → j ≠ i → L j = true := fun j hj e => by rw [← hne j e]; exact hj
  refine ⟨h.keep.then hb, fun j hj hL k hk' => ?_, fun j hj hL hkj => ?_, fun j hj hL hkj => ?_, fun j hj hkj => ?_, fun j k hj hk' hL hM hkj hkk hjk => ?_⟩
  · by_cases e : j = i
    · subst e; exact up _ (hD k hk')
    · exact up _ (h.closed j hj (old j hL e) k hk')
  · have e : j ≠ i := fun e => by subst e; omega
    rw [upd_ne _ _ e]; exact hG _ _ _ _ (h.fact j hj (old j hL e) hkj) hb
  · obtain ⟨g1, g2, g3, g4⟩ := dagOk_alloc hok hj hkj
    obtain ⟨-, -, g7, g8, -, g10, -⟩ := dagOk_store hok g1 g2
    have hs2 : k2 K j ≠ i := fun e => by rw [g4, e] at g10; omega
    have hs1 : k1 K j ≠ i := fun e => by rw [e] at g2; omega
    rw [hne _ hs1, upd_ne _ _ hs2]
    by_cases e : j = i
    · subst e
      refine ⟨w.heap.size, upd_same _ _ _, h.keep.size, ?_⟩
      have hf : L (k1 K j) = false := by
        cases hs : L (k1 K j) with
        | false => rfl
        | true =>
          have := h.closed _ g1 hs _ g7
          rw [g3, hLi] at this; cases this
      rw [hf]
      exact Var.new _ _ _
    · obtain ⟨b, h1, h2, h3⟩ := h.box j hj (old j hL e) hkj
      exact ⟨b, by rw [upd_ne _ _ e]; exact h1, h2, h3.below hb⟩
  · have e : j ≠ i := fun e => by subst e; omega
    obtain ⟨h1, h3⟩ := h.old j hj hkj
    obtain ⟨-, -, g3⟩ := dagOk_old hok hj hkj
    rw [hne _ e, upd_ne _ _ (fun e => by rw [e] at g3; omega)]
    exact ⟨h1, h3.below hb⟩
  · by_cases e : j = i
    · subst e
      have e' : k ≠ j := Ne.symm hjk
      obtain ⟨b, h1, -, h3⟩ := h.box k hk' (old k hM e') hkk
      rw [upd_same, upd_ne _ _ e', h1]
      intro q
      have := h3.1
      injection q with q; injection q with q; injection q with q
      omega
    · by_cases e' : k = i
      · subst e'
        obtain ⟨b, h1, -, h3⟩ := h.box j hj (old j hL e) hkj
        rw [upd_same, upd_ne _ _ e, h1]
        intro q
        have := h3.1
        injection q with q; injection q with q; injection q with q
        omega
      · rw [upd_ne _ _ e, upd_ne _ _ e']
        exact h.apart j k hj hk' (old j hL e) (old k hM e') hkj hkk hjk
theorem DagI.store (h : DagI K Z G n D w0 L X w) (hok : dagOk K D n = true) (hP : ∀ i v w b l, G i v w → G i v (putC b w 0 l)) (hi : i < n) (hi' : L' i = true) (hne : ∀ j, j ≠ i → L' j = L j)
    (hk : kd K i = 3) (hD : ∀ j ∈ D i, L j = true) {b : Nat} {us : List Value} (hX : X (k1 K i) = .pointer (some ⟨b, 0, none⟩)) (hb : w0.heap.size ≤ b) (hq : Var w b us) (hl : us.length = (vc (X (k2 K i))).length) :
    DagI K Z G n D w0 L' X (putC b w 0 (vc (X (k2 K i)))) := by
  have up : ∀ j, L j = true → L' j = true := fun j hj => by
    by_cases e : j = i
    · rw [e]; exact hi'
    · rw [hne j e]; exact hj
  have old : ∀ j, L' j = true → j ≠ i → L j = true := fun j hj e => by rw [← hne j e]; exact hj
  obtain ⟨h1, h2, h3, h4, h5, h6, h7⟩ := dagOk_store hok hi hk
  refine ⟨h.keep.put (.inl hb) _, fun j hj hL k hk' => ?_, fun j hj hL hkj => ?_, fun j hj hL hkj => ?_, fun j hj hkj => ?_, fun j k hj hk' hL hM hkj hkk hjk => ?_⟩
  · by_cases e : j = i
    · subst e; exact up _ (hD k hk')
    · exact up _ (h.closed j hj (old j hL e) k hk')
  · have e : j ≠ i := fun e => by subst e; omega
    exact hP _ _ _ _ _ (h.fact j hj (old j hL e) hkj)
  · have e : j ≠ i := fun e => by subst e; omega
    obtain ⟨c, c1, c2, c3⟩ := h.box j hj (old j hL e) hkj
    refine ⟨c, c1, c2, ?_⟩
    by_cases ej : j = k1 K i
    · subst ej
      rw [h7, hi']
      obtain rfl : c = b := by rw [hX] at c1; cases c1; rfl
      obtain ⟨-, -, -, g4⟩ := dagOk_alloc hok h1 h5
      rw [h7] at g4
      rw [← g4]
      exact hq.put hl
    · obtain ⟨g1, g2, g3, g4⟩ := dagOk_alloc hok hj hkj
      have hsi : k1 K j ≠ i := fun e => by rw [e] at g3; exact ej g3.symm
      rw [hne _ hsi]
      exact c3.putOther fun e => h.apart j (k1 K i) hj h1 (old j hL ‹_›) (hD _ h3) hkj h5 ej (by rw [c1, hX, e])
  · have e : j ≠ i := fun e => by subst e; omega
    obtain ⟨g1, g3⟩ := h.old j hj hkj
    rw [hne _ e]
    exact ⟨g1, g3.putOther (by omega)⟩
  · have e : j ≠ i := fun e => by subst e; omega
    have e' : k ≠ i := fun e => by subst e; omega
    exact h.apart j k hj hk' (old j hL e) (old k hM e') hkj hkk hjk
theorem DagI.into (h : DagI K Z G n D w0 L X w) (hok : dagOk K D n = true) (hP : ∀ i v w b l, G i v w → G i v (putC b w 0 l)) (hdist : ∀ i j, i < n → j < n → kd K i = 4 → kd K j = 4 → i ≠ j → k1 K i ≠ k1 K j) (hi : i < n) (hi' : L' i = true) (hLi : L i = false) (hne : ∀ j, j ≠ i → L' j = L j)
    (hk : kd K i = 4) (hD : ∀ j ∈ D i, L j = true) (hl : (Z i).length = (vc (X (k2 K i))).length) :
    DagI K Z G n D w0 L' X (putC (k1 K i) w 0 (vc (X (k2 K i)))) := by
  have up : ∀ j, L j = true → L' j = true := fun j hj => by
    by_cases e : j = i
    · rw [e]; exact hi'
    · rw [hne j e]; exact hj
  have old : ∀ j, L' j = true → j ≠ i → L j = true := fun j hj e => by rw [← hne j e]; exact hj
  obtain ⟨hb, hq⟩ := h.old i hi hk
  rw [hLi] at hq
  refine ⟨h.keep.put (.inr (olds_mem hk)) _, fun j hj hL k hk' => ?_, fun j hj hL hkj => ?_, fun j hj hL hkj => ?_, fun j hj hkj => ?_, fun j k hj hk' hL hM hkj hkk hjk => ?_⟩
  · by_cases e : j = i
    · subst e; exact up _ (hD k hk')
    · exact up _ (h.closed j hj (old j hL e) k hk')
  · have e : j ≠ i := fun e => by subst e; omega
    exact hP _ _ _ _ _ (h.fact j hj (old j hL e) hkj)
  · have e : j ≠ i := fun e => by subst e; omega
    obtain ⟨c, c1, c2, c3⟩ := h.box j hj (old j hL e) hkj
    obtain ⟨g1, g2, g3, g4⟩ := dagOk_alloc hok hj hkj
    rw [hne _ (fun e => by rw [e] at g2; omega)]
    exact ⟨c, c1, c2, c3.putOther (by omega)⟩
  · obtain ⟨g1, g3⟩ := h.old j hj hkj
    by_cases e : j = i
    · subst e
      rw [hi']
      exact ⟨g1, (show Var w (k1 K j) (Z j) from hq).put hl⟩
    · rw [hne _ e]
      exact ⟨g1, g3.putOther (hdist j i hj hi hkj hk e)⟩
  · have e : j ≠ i := fun e => by subst e; omega
    have e' : k ≠ i := fun e => by subst e; omega
    exact h.apart j k hj hk' (old j hL e) (old k hM e') hkj hkk hjk
end
/-- what is known of a value, and stays known behind calls; behind stores too, where ok says so -/
structure Fact where
  g : Value → World → Prop
  low : ∀ v w w', g v w → Below w.heap.size w w' → g v w'
  ok : Bool
  put : ok = true → ∀ v w b l, g v w → g v (putC b w 0 l)
def Fact.none : Fact := ⟨fun _ _ => True, fun _ _ _ _ _ => trivial, true, fun _ _ _ _ _ _ => trivial⟩
/-- it is this very value -/
def Fact.val (c : Value) : Fact := ⟨fun v _ => v = c, fun _ _ _ h _ => h, true, fun _ _ _ _ _ h => h⟩
/-- a new slice of some cells -/
def Fact.sl (n : Nat) (l : List Value) : Fact := ⟨fun v w => ∃ b, v = .slice (some ⟨b, 0, Option.none⟩) n n ∧ Var w b l, fun _ _ _ ⟨b, e, h⟩ t => ⟨b, e, h.below t⟩, false, nofun⟩
/-- of each of a list -/
def Each (l : List Nat) (p : Nat → Prop) : Prop := ∀ i ∈ l, p i
theorem Each.nil {p : Nat → Prop} : Each [] p := fun _ h => by cases h
theorem Each.cons {i : Nat} {l : List Nat} {p : Nat → Prop} (h : p i) (hl : Each l p) : Each (i :: l) p := fun j hj => by
  rcases List.mem_cons.1 hj with rfl | hj
  · exact h
  · exact hl j hj
/-- an operation that gives a value -/
theorem tv {P : Program} {ops : Array Oper} {Q : Exit → Act → World → Prop} {i : Nat} {o : Oper} {v : Value} {a : Act} {w : World} {K : Act → World → Prop} (hi : ops[i]? = some o) (hw : Region.wanted o (yielded ops a.tmps) = true)
    (hv : (execOp a.eval o).run P w = .ok (.value v) w) (h : K (a.put o.dst v) w) : wpOp P ops Q i K a w :=
  YieldsIf.wpOp (S := fun W => W = w) hi (.inl ⟨hw, fun W hW => by subst hW; exact hv⟩) rfl h
/-- an operation whose guard is off -/
theorem tu {P : Program} {ops : Array Oper} {Q : Exit → Act → World → Prop} {i : Nat} {o : Oper} {a : Act} {w : World} {K : Act → World → Prop} (hi : ops[i]? = some o) (hw : Region.wanted o (yielded ops a.tmps) = false)
    (h : K (a.put o.dst undef) w) : wpOp P ops Q i K a w :=
  YieldsIf.wpOp (S := fun W => W = w) hi (.inr ⟨hw, rfl⟩) rfl h
def ofKind (K : Kinds) (n : Nat) (k : Nat) : List Nat := (List.range n).filter fun i => kd K i == k
/-- THE REGION: A the frame by the operations' values, K their kinds, F what is known of them, D operations that they wait for; la, lb, lc, ld its operations of kind 0, 1, 3, 4; Z the zero values, or old ones, of variables -/
theorem dagV {P : Program} {ops : Array Oper} {Q : Exit → Act → World → Prop} {S : World → Prop} (hS : ∀ w, S w) (n : Nat) (hn : ops.size = n) (A : (Nat → Value) → Act) (K : Kinds) (Z : Nat → List Value) (F : List Fact) (D : List (List Nat)) (la lb lc ld : List Nat) (T : TypeId → TypeId) (w0 : World)
    (htopo : (ops.toList.zipIdx.all fun p => p.1.after.all fun e => !Region.binds .any e || decide (e.on < p.2)) = true) (hwait : ((List.range n).all fun i => waitsB ops i (D.getD i [])) = true) (hok : dagOk K (fun i => D.getD i []) n = true)
    (hla : (ofKind K n 0 == la && ofKind K n 1 == lb && ofKind K n 3 == lc && ofKind K n 4 == ld) = true) (hput : ((lc.isEmpty && ld.isEmpty) || F.all (·.ok)) = true)
    (hdist : ∀ i ∈ ld, ∀ j ∈ ld, i ≠ j → k1 K i ≠ k1 K j) (h0 : ∀ i ∈ ld, Var w0 (k1 K i) (Z i))
    (hop : Each la fun i => ∀ (X : Nat → Value) (w : World) (H : Act → World → Prop), Keep (olds K) w0 w → (∀ j ∈ D.getD i [], kd K j = 0 → (F.getD j .none).g (X j) w) →
      (∀ (v : Value) (w' : World), (F.getD i .none).g v w' → Below w.heap.size w w' → H (A (upd X i v)) w') → wpOp P ops Q i H (A X) w)
    (hal : Each lb fun i => ∀ (X : Nat → Value) (w : World) (H : Act → World → Prop), H (A (upd X i (.pointer (some ⟨w.heap.size, 0, none⟩)))) (w.alloc (.cells (Z i).toArray (T i))) → wpOp P ops Q i H (A X) w)
    (hst : Each lc fun i => ∀ (X : Nat → Value) (w : World) (H : Act → World → Prop) (b : Nat), X (k1 K i) = .pointer (some ⟨b, 0, none⟩) → Var w b (Z (k1 K i)) → (F.getD (k2 K i) .none).g (X (k2 K i)) w →
      ((Z (k1 K i)).length = (vc (X (k2 K i))).length → H (A X) (putC b w 0 (vc (X (k2 K i))))) → wpOp P ops Q i H (A X) w)
    (hin : Each ld fun i => ∀ (X : Nat → Value) (w : World) (H : Act → World → Prop), Var w (k1 K i) (Z i) → (F.getD (k2 K i) .none).g (X (k2 K i)) w →
      ((Z i).length = (vc (X (k2 K i))).length → H (A X) (putC (k1 K i) w 0 (vc (X (k2 K i))))) → wpOp P ops Q i H (A X) w)
    (hend : ∀ (X : Nat → Value) (w : World), DagI K Z (fun i => (F.getD i .none).g) n (fun i => D.getD i []) w0 (fun _ => true) X w → Q .normal (A X) w)
    (X : Nat → Value) (l : Array Bool) (fuel : Nat) (hl : l.size = n) (hfuel : l.toList.count false ≤ fuel) (hfree : ∀ i, i < n → l.getD i false = false) :
    wpAnyH P .any ops Q S fuel l (A X) w0 := by
  simp only [Bool.and_eq_true, beq_iff_eq] at hla
  obtain ⟨⟨⟨rfl, rfl⟩, rfl⟩, rfl⟩ := hla
  have mem : ∀ {i k : Nat}, i < n → kd K i = k → i ∈ ofKind K n k := fun hi hb => List.mem_filter.2 ⟨List.mem_range.2 hi, by simpa using hb⟩
  have hwait := waits_all (D := fun i => D.getD i []) hwait
  have hP : (∃ i, i < n ∧ (kd K i = 3 ∨ kd K i = 4)) → ∀ j v w b l, (F.getD j .none).g v w → (F.getD j .none).g v (putC b w 0 l) := fun ⟨i, hi, hk⟩ j => by
    have hF : F.all (·.ok) = true := by
      rw [Bool.or_eq_true] at hput
      rcases hput with h | h
      · exfalso
        rw [Bool.and_eq_true, List.isEmpty_iff, List.isEmpty_iff] at h
        rcases hk with hk | hk
        · have := mem hi hk; rw [h.1] at this; cases this
        · have := mem hi hk; rw [h.2] at this; cases this
      · exact h
    refine (F.getD j .none).put ?_
    rw [List.getD_eq_getElem?_getD]
    cases hj : F[j]? with
    | none => rfl
    | some f => exact List.all_eq_true.1 hF f (List.mem_of_getElem? hj)
  refine wpAnyH_inv (I := fun l x w => l.size = n ∧ ∃ X, x = A X ∧ DagI K Z (fun i => (F.getD i .none).g) n (fun i => D.getD i []) w0 (fun i => l.getD i false) X w)
    (fun l x w h => h.1.trans hn.symm) (fun l x w h => hS w) ?_ ?_ fuel l _ _ hfuel
    ⟨hl, X, rfl, Keep.refl _ _, fun i hi h => (by simp only [hfree i hi] at h; cases h), fun i hi h => (by simp only [hfree i hi] at h; cases h), fun i hi h => (by simp only [hfree i hi] at h; cases h),
      fun i hi h => (by rw [if_neg (by rw [hfree i hi]; exact Bool.false_ne_true)]; exact ⟨(h0 i (mem hi h)).1, h0 i (mem hi h)⟩), fun i j hi _ h => (by simp only [hfree i hi] at h; cases h)⟩
  · rintro l x w ⟨hls, X, rfl, hI⟩ i hi
    obtain ⟨h0', o, ho, -⟩ := mem_ready.1 hi
    have hilt : i < n := by rw [← hn]; exact (Array.getElem?_eq_some_iff.1 ho).1
    have hD := waits_of (hwait i hilt) hi
    have hLi : l.getD i false = false := by rw [getD_flip (by omega) false true]; exact h0'
    have hi' : (l.setIfInBounds i true).getD i false = true := getD_set_same h0' false
    have hne : ∀ j, j ≠ i → (l.setIfInBounds i true).getD j false = l.getD j false := fun j hj => getD_set_ne false (Ne.symm hj)
    have hjn : ∀ j ∈ D.getD i [], j < n := fun j hj => by
      have h1 := hD j hj
      rcases Nat.lt_or_ge j n with h | h
      · exact h
      · rw [Array.getD_eq_getD_getElem?, Array.getElem?_eq_none (by omega)] at h1; cases h1
    have hs' : (l.setIfInBounds i true).size = n := by simpa using hls
    rcases dagOk_kind hok hilt with hk | hk | hk | hk
    · exact hop i (mem hilt hk) X w _ hI.keep (fun j hj hkj => hI.fact j (hjn j hj) (hD j hj) hkj) fun v w' hv hb => ⟨hs', _, rfl, hI.op hok (fun i => (F.getD i .none).low) hLi hi' hne hk hD hv hb⟩
    · exact hal i (mem hilt hk) X w _ ⟨hs', _, rfl, hI.alloc hok (fun i => (F.getD i .none).low) hilt hLi hi' hne hk hD _⟩
    · obtain ⟨h1, h2, h3, h4, h5, h6, h7⟩ := dagOk_store hok hilt hk
      obtain ⟨b, b1, b2, b3⟩ := hI.box _ h1 (hD _ h3) h5
      rw [h7, hLi] at b3
      exact hst i (mem hilt hk) X w _ b b1 b3 (hI.fact _ h2 (hD _ h4) h6) fun hlen => ⟨hs', _, rfl, hI.store hok (hP ⟨i, hilt, .inl hk⟩) hilt hi' hne hk hD b1 b2 b3 hlen⟩
    · obtain ⟨h2, h4, h6⟩ := dagOk_old hok hilt hk
      obtain ⟨b1, b3⟩ := hI.old i hilt hk
      rw [hLi] at b3
      exact hin i (mem hilt hk) X w _ b3 (hI.fact _ h2 (hD _ h4) h6) fun hlen => ⟨hs', _, rfl, hI.into hok (hP ⟨i, hilt, .inr hk⟩) (fun i j hi hj hki hkj => hdist i (mem hi hki) j (mem hj hkj)) hilt hi' hLi hne hk hD hlen⟩
  · rintro l x w ⟨hls, X, rfl, hI⟩ hr
    have hall := all_in htopo hr
    have hT : ∀ i, i < n → l.getD i false = true := fun i hi => by rw [getD_flip (by omega) false true]; exact hall i (by omega)
    refine hend X w ⟨hI.keep, fun _ _ _ _ _ => rfl, fun i hi _ => hI.fact i hi (hT i hi), fun i hi _ hk => ?_, fun i hi hk => ?_, fun i j hi hj _ _ => hI.apart i j hi hj (hT i hi) (hT j hj)⟩
    · obtain ⟨b, b1, b2, b3⟩ := hI.box i hi (hT i hi) hk
      rw [hT _ (dagOk_alloc hok hi hk).1] at b3
      exact ⟨b, b1, b2, b3⟩
    · obtain ⟨b1, b3⟩ := hI.old i hi hk
      rw [hT _ hi] at b3
      exact ⟨b1, b3⟩

theorem Cel.at {w : World} {b : Nat} : ∀ {l : List Value} {o j : Nat} {v : Value}, Cel w b o l → l[j]? = some v → w.cell? ⟨b, o + j, none⟩ = some v ∧ w.frozen? ⟨b, o + j, none⟩ = false
  | [], _, _, _, _, e => by simp at e
  | _ :: _, o, 0, _, h, e => by
    simp at e
    subst e
    exact h.1
  | _ :: _, o, j + 1, _, h, e => by
    have := Cel.at (j := j) h.2 (by simpa using e)
    rw [show o + (j + 1) = o + 1 + j by omega]
    exact this
theorem Var.at {w : World} {b : Nat} {l : List Value} (h : Var w b l) (j : Nat) {v : Value} (e : l[j]? = some v) : w.cell? ⟨b, j, none⟩ = some v := by
  have := (h.2.at e).1
  rwa [Nat.zero_add] at this
theorem Var.fr {w : World} {b : Nat} {l : List Value} (h : Var w b l) (j : Nat) (e : j < l.length) : w.frozen? ⟨b, j, none⟩ = false := by
  have := (h.2.at (List.getElem?_eq_getElem e)).2
  rwa [Nat.zero_add] at this
/-- an address within such a slice -/
def Fact.pt (o : Nat) (l : List Value) : Fact := ⟨fun v w => ∃ b, v = .pointer (some ⟨b, o, Option.none⟩) ∧ Var w b l, fun _ _ _ ⟨b, e, h⟩ t => ⟨b, e, h.below t⟩, false, nofun⟩
theorem belowA (w : World) (o : Obj) : Below w.heap.size w (w.alloc o) := (Below.refl _ _).alloc (Nat.le_refl _) o
theorem Var.allocs1 {w : World} {b : Nat} {l : List Value} (h : Var w b l) (o0 : Obj) : Var (w.alloc o0) b l := h.below (belowA _ _)
theorem Var.allocs2 {w : World} {b : Nat} {l : List Value} (h : Var w b l) (o0 o1 : Obj) : Var ((w.alloc o0).alloc o1) b l := (h.allocs1 o0).allocs1 o1
theorem Var.allocs3 {w : World} {b : Nat} {l : List Value} (h : Var w b l) (o0 o1 o2 : Obj) : Var (((w.alloc o0).alloc o1).alloc o2) b l := (h.allocs2 o0 o1).allocs1 o2
theorem Var.allocs4 {w : World} {b : Nat} {l : List Value} (h : Var w b l) (o0 o1 o2 o3 : Obj) : Var ((((w.alloc o0).alloc o1).alloc o2).alloc o3) b l := (h.allocs3 o0 o1 o2).allocs1 o3
/-- the beginning of such a region -/
theorem wp_region_dag {P : Program} {ops : Array Oper} {Q : Exit → Act → World → Prop} {id : Nat} {a : Act} {w : World} (hm : P.follows .mixedOrders = true)
    (h : ∀ W, Below w.heap.size w W → wpAnyH P .any ops Q (fun _ => True) ops.size (Array.replicate ops.size false) a W) : (Code.region id ops true).wp P Q a w :=
  wp_region_held_drew hm trivial fun _ => h _ (Below.refl _ _).drew
end Go.Proofs.Ytblnpelbklfloaa
