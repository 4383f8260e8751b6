/- A region that draws its order, with calls, with variables that it makes and what it stores in them: each operation once, whatever the order. It speaks of no program. -/
import Derived.Test.YtgenaicmjddjcaaGreatDoorRaE
namespace Go.Proofs.YtgenaicmjddjcaaGreatDoor
open Go.RowKit Go.Shelf

def waitsB (ops : Array Oper) (i : Nat) (D : List Nat) : Bool := match ops[i]? with
 | some o => D.all fun j => o.after.any fun e => Region.binds .any e && e.on == j
 | none => false
theorem waits_of {ops : Array Oper} {i : Nat} {D : List Nat} (h : waitsB ops i D = true) {l : Array Bool} (hr : i ∈ Region.ready .any ops l) : ∀ j ∈ D, l.getD j false = true := by
 intro j hj
 unfold waitsB at h
 obtain ⟨-, o, ho, hall⟩ := mem_ready.1 hr
 rw [ho] at h
 simp only [List.all_eq_true] at h
 have h1 := h j hj
 rw [Array.any_eq_true'] at h1
 obtain ⟨e, he, h2⟩ := h1
 simp only [Bool.and_eq_true, beq_iff_eq] at h2
 have := hall e he h2.1
 rw [h2.2] at this
 exact this
theorem waits_all {ops : Array Oper} {D : Nat → List Nat} {n : Nat} (h : ((List.range n).all fun i => waitsB ops i (D i)) = true) : ∀ i, i < n → waitsB ops i (D i) = true := fun i hi =>
 List.all_eq_true.1 h i (by simpa using hi)
theorem all_in {ops : Array Oper} {l : Array Bool} (ht : (ops.toList.zipIdx.all fun p => p.1.after.all fun e => !Region.binds .any e || decide (e.on < p.2)) = true) (hr : Region.ready .any ops l = []) : ∀ i, i < ops.size → l.getD i true = true := by
 intro i
 induction i using Nat.strongRecOn with
 | _ i ih =>
   intro hi
   cases h : l.getD i true with
   | true => rfl
   | false =>
     exfalso
     have : i ∈ Region.ready .any ops l := mem_ready.2 ⟨h, ops[i], by simp [hi], fun e he hb => by
      rw [List.all_eq_true] at ht
      have h1 := ht (ops[i], i) (by rw [List.mem_zipIdx_iff_getElem?]; simp [hi])
      rw [Array.all_eq_true'] at h1
      have h1 := h1 e he
      rw [hb] at h1
      have h1 : e.on < i := by simpa using h1
      have h2 := ih e.on h1 (by omega)
      have hlt : i < l.size := by
       rcases Nat.lt_or_ge i l.size with h' | h'
       · exact h'
       · simp [Array.getElem?_eq_none h'] at h
      have h3 : e.on < l.size := by omega
      simpa [h3] using h2⟩
     rw [hr] at this; cases this
def Cont (k : Nat) (w : World) (b : Nat) (v : Value) : Prop := match k with
 | 1 => ∃ (s : Bool) (a : Option Addr) (n c : Nat), v = .agg #[.bool s, .slice a n c] ∧ Box2 w b (.bool s) (.slice a n c)
 | _ => ∃ (s : Bool) (a : Option Addr) (n c : Nat) (t : Bool) (d : Option Addr) (m e : Nat), v = .agg #[.bool s, .slice a n c, .bool t, .slice d m e] ∧ Quad w b (.bool s) (.slice a n c) (.bool t) (.slice d m e)
def Put (k b : Nat) (v : Value) (w W : World) : Prop := match k with
 | 1 => ∃ (s : Bool) (a : Option Addr) (n c : Nat), v = .agg #[.bool s, .slice a n c] ∧ W = (w.setCell ⟨b, 0, none⟩ (.bool s)).setCell ⟨b, 1, none⟩ (.slice a n c)
 | _ => ∃ (s : Bool) (a : Option Addr) (n c : Nat) (t : Bool) (d : Option Addr) (m e : Nat), v = .agg #[.bool s, .slice a n c, .bool t, .slice d m e] ∧ W = (((w.setCell ⟨b, 0, none⟩ (.bool s)).setCell ⟨b, 1, none⟩ (.slice a n c)).setCell ⟨b, 2, none⟩ (.bool t)).setCell ⟨b, 3, none⟩ (.slice d m e)
def zval (k : Nat) : Value := match k with
 | 1 => .agg #[.bool false, .slice none 0 0]
 | _ => .agg #[.bool false, .slice none 0 0, .bool false, .slice none 0 0]
def zobj (k : Nat) (t1 t2 : TypeId) : Obj := match k with
 | 1 => .cells #[.bool false, .slice none 0 0] t1
 | _ => .cells #[.bool false, .slice none 0 0, .bool false, .slice none 0 0] t2
theorem Cont.cases {k : Nat} {w : World} {b : Nat} {v : Value} (h : Cont k w b v) :
 (k = 1 ∧ ∃ (s : Bool) (a : Option Addr) (n c : Nat), v = .agg #[.bool s, .slice a n c] ∧ Box2 w b (.bool s) (.slice a n c)) ∨
 (k ≠ 1 ∧ ∃ (s : Bool) (a : Option Addr) (n c : Nat) (t : Bool) (d : Option Addr) (m e : Nat), v = .agg #[.bool s, .slice a n c, .bool t, .slice d m e] ∧ Quad w b (.bool s) (.slice a n c) (.bool t) (.slice d m e)) := by
 unfold Cont at h
 split at h
 · exact .inl ⟨rfl, h⟩
 · rename_i hk; exact .inr ⟨hk, h⟩
theorem Cont.of1 {w : World} {b : Nat} {s : Bool} {a : Option Addr} {n c : Nat} (h : Box2 w b (.bool s) (.slice a n c)) : Cont 1 w b (.agg #[.bool s, .slice a n c]) := ⟨s, a, n, c, rfl, h⟩
theorem Cont.of4 {k : Nat} (hk : k ≠ 1) {w : World} {b : Nat} {s t : Bool} {a d : Option Addr} {n c m e : Nat} (h : Quad w b (.bool s) (.slice a n c) (.bool t) (.slice d m e)) : Cont k w b (.agg #[.bool s, .slice a n c, .bool t, .slice d m e]) := by
 unfold Cont
 split
 · exact absurd rfl hk
 · exact ⟨s, a, n, c, t, d, m, e, rfl, h⟩
theorem Cont.lt {k : Nat} {w : World} {b : Nat} {v : Value} (h : Cont k w b v) : b < w.heap.size := by
 rcases h.cases with ⟨-, s, a, n, c, -, h⟩ | ⟨-, s, a, n, c, t, d, m, e, -, h⟩
 · exact h.lt
 · exact h.lt
theorem Cont.below {k : Nat} {w w' : World} {b : Nat} {v : Value} (h : Cont k w b v) (t : Below w.heap.size w w') : Cont k w' b v := by
 rcases h.cases with ⟨rfl, s, a, n, c, rfl, q⟩ | ⟨hk, s, a, n, c, t', d, m, e, rfl, q⟩
 · exact .of1 (q.below t q.lt)
 · exact .of4 hk (q.below t)
theorem Cont.new (k : Nat) (w : World) (t1 t2 : TypeId) : Cont k (w.alloc (zobj k t1 t2)) w.heap.size (zval k) := by
 unfold zobj zval
 split
 · exact .of1 (Box2.new _ _ _ _)
 · rename_i hk; exact .of4 hk (Quad.new _ _ _ _ _ _)
theorem Put.cases {k b : Nat} {v : Value} {w W : World} (h : Put k b v w W) :
 (k = 1 ∧ ∃ (s : Bool) (a : Option Addr) (n c : Nat), v = .agg #[.bool s, .slice a n c] ∧ W = (w.setCell ⟨b, 0, none⟩ (.bool s)).setCell ⟨b, 1, none⟩ (.slice a n c)) ∨
 (k ≠ 1 ∧ ∃ (s : Bool) (a : Option Addr) (n c : Nat) (t : Bool) (d : Option Addr) (m e : Nat), v = .agg #[.bool s, .slice a n c, .bool t, .slice d m e] ∧ W = (((w.setCell ⟨b, 0, none⟩ (.bool s)).setCell ⟨b, 1, none⟩ (.slice a n c)).setCell ⟨b, 2, none⟩ (.bool t)).setCell ⟨b, 3, none⟩ (.slice d m e)) := by
 unfold Put at h
 split at h
 · exact .inl ⟨rfl, h⟩
 · rename_i hk; exact .inr ⟨hk, h⟩
theorem Put.touch {k b : Nat} {v : Value} {w W : World} (h : Put k b v w W) : Touch b 0 4 w W := by
 rcases h.cases with ⟨-, s, a, n, c, -, rfl⟩ | ⟨-, s, a, n, c, t, d, m, e, -, rfl⟩
 · exact (Touch.setCell w _ (Nat.le_refl _) (by omega)).trans (Touch.setCell _ _ (by omega) (by omega))
 · exact (((Touch.setCell w _ (Nat.le_refl _) (by omega)).trans (Touch.setCell _ _ (by omega) (by omega))).trans (Touch.setCell _ _ (by omega) (by omega))).trans (Touch.setCell _ _ (by omega) (by omega))
theorem Put.cont {k b : Nat} {v u : Value} {w W : World} (h : Put k b v w W) (q : Cont k w b u) : Cont k W b v := by
 rcases h.cases with ⟨rfl, s, a, n, c, rfl, rfl⟩ | ⟨hk, s, a, n, c, t, d, m, e, rfl, hW⟩
 · obtain ⟨s', a', n', c', -, hb⟩ := q
   exact .of1 (hb.set _ _)
 · rcases q.cases with ⟨rfl, -⟩ | ⟨-, s', a', n', c', t', d', m', e', -, hq⟩
   · exact absurd rfl hk
   · exact .of4 hk (hq.set _ _ _ _ hW.symm).1
theorem Put.other {k j b B : Nat} {v u : Value} {w W : World} (h : Put k b v w W) (q : Cont j w B u) (hne : B ≠ b) : Cont j W B u := by
 have t := h.touch
 rcases q.cases with ⟨rfl, s', a', n', c', rfl, hq⟩ | ⟨hj, s', a', n', c', t', d', m', e', rfl, hq⟩
 · have hb := t.block B hq.lt hne
   exact .of1 ⟨(cell_of_block_eq hb _).trans hq.c0, (cell_of_block_eq hb _).trans hq.c1, (frozen_of_block_eq hb _).trans hq.z0, (frozen_of_block_eq hb _).trans hq.z1⟩
 · exact .of4 hj (hq.touch hne t)
theorem Put.lies {k b C : Nat} {v : Value} {w0 w W : World} (h : Put k b v w W) (hB : Below C w0 w) (hC : C ≤ b) : Below C w0 W := by
 rcases h.cases with ⟨-, s, a, n, c, -, rfl⟩ | ⟨-, s, a, n, c, t, d, m, e, -, rfl⟩
 · exact below_set2 hB hC _ _
 · exact below_set4 hB hC _ _ _ _
theorem Put.isN {k b : Nat} {v u : Value} {w W : World} (h : Put k b v w W) (q : Cont k w b u) {s : Bool} {a : Option Addr} {n : Nat} {z : Int} (hN : IsN w s a n z) : IsN W s a n z := by
 rcases h.cases with ⟨rfl, s, a, n, c, rfl, rfl⟩ | ⟨hk, s, a, n, c, t, d, m, e, rfl, hW⟩
 · obtain ⟨s', a', n', c', -, hb⟩ := q
   exact hN.put hb _ _
 · rcases q.cases with ⟨rfl, -⟩ | ⟨-, s', a', n', c', t', d', m', e', -, hq⟩
   · exact absurd rfl hk
   · exact hN.quad hq.four h.touch
abbrev Kinds := List (Nat × Nat × Nat)
def kd (K : Kinds) (i : Nat) : Nat := (K.getD i (0, 0, 0)).1
def k1 (K : Kinds) (i : Nat) : Nat := (K.getD i (0, 0, 0)).2.1
def k2 (K : Kinds) (i : Nat) : Nat := (K.getD i (0, 0, 0)).2.2
def dagOk (K : Kinds) (D : Nat → List Nat) (n : Nat) : Bool := (List.range n).all fun i =>
 match kd K i with
 | 0 => true
 | 3 => decide (k1 K i < n) && decide (k2 K i < n) && (D i).contains (k1 K i) && (D i).contains (k2 K i) && (kd K (k1 K i) == 1 || kd K (k1 K i) == 2) && kd K (k2 K i) == 0 && k1 K (k1 K i) == i
 | k => (k == 1 || k == 2) && decide (k1 K i < n) && kd K (k1 K i) == 3 && k1 K (k1 K i) == i && k2 K (k1 K i) == k2 K i
theorem dagOk_alloc {K : Kinds} {D : Nat → List Nat} {n i : Nat} (h : dagOk K D n = true) (hi : i < n) (hk : kd K i = 1 ∨ kd K i = 2) :
 k1 K i < n ∧ kd K (k1 K i) = 3 ∧ k1 K (k1 K i) = i ∧ k2 K (k1 K i) = k2 K i := by
 have h := List.all_eq_true.1 h i (by simpa using hi)
 rcases hk with hk | hk <;> rw [hk] at h <;> simp at h <;> exact ⟨h.1.1.1, h.1.1.2, h.1.2, h.2⟩
theorem dagOk_store {K : Kinds} {D : Nat → List Nat} {n i : Nat} (h : dagOk K D n = true) (hi : i < n) (hk : kd K i = 3) :
 k1 K i < n ∧ k2 K i < n ∧ k1 K i ∈ D i ∧ k2 K i ∈ D i ∧ (kd K (k1 K i) = 1 ∨ kd K (k1 K i) = 2) ∧ kd K (k2 K i) = 0 ∧ k1 K (k1 K i) = i := by
 have h := List.all_eq_true.1 h i (by simpa using hi)
 rw [hk] at h; simp at h
 exact ⟨h.1.1.1.1.1.1, h.1.1.1.1.1.2, h.1.1.1.1.2, h.1.1.1.2, h.1.1.2, h.1.2, h.2⟩
theorem dagOk_kind {K : Kinds} {D : Nat → List Nat} {n i : Nat} (h : dagOk K D n = true) (hi : i < n) : kd K i = 0 ∨ (kd K i = 1 ∨ kd K i = 2) ∨ kd K i = 3 := by
 have h := List.all_eq_true.1 h i (by simpa using hi)
 split at h
 · exact .inl ‹_›
 · exact .inr (.inr ‹_›)
 · simp at h; exact .inr (.inl h.1.1.1.1)
structure DagI (K : Kinds) (G : Nat → Value → World → Prop) (n : Nat) (D : Nat → List Nat) (w0 : World) (L : Nat → Bool) (X : Nat → Value) (w : World) : Prop where
 below : Below w0.heap.size w0 w
 closed : ∀ i, i < n → L i = true → ∀ j ∈ D i, L j = true
 fact : ∀ i, i < n → L i = true → kd K i = 0 → G i (X i) w
 box : ∀ i, i < n → L i = true → (kd K i = 1 ∨ kd K i = 2) → ∃ b, X i = .pointer (some ⟨b, 0, none⟩) ∧ w0.heap.size ≤ b ∧ Cont (kd K i) w b (if L (k1 K i) then X (k2 K i) else zval (kd K i))
 apart : ∀ i j, i < n → j < n → L i = true → L j = true → (kd K i = 1 ∨ kd K i = 2) → (kd K j = 1 ∨ kd K j = 2) → i ≠ j → X i ≠ X j
section
variable {K : Kinds} {G : Nat → Value → World → Prop} {n : Nat} {D : Nat → List Nat} {w0 w w' : World} {L L' : Nat → Bool} {X : Nat → Value} {i : Nat} {v : Value}
theorem DagI.same (h : DagI K G n D w0 L X w) (hok : dagOk K D n = true) (hLi : L i = false) (hne : ∀ j, j ≠ i → L' j = L j) (hik : kd K i ≠ 3) {j : Nat} (hj : j < n) (hk : kd K j = 1 ∨ kd K j = 2) :
 (if L' (k1 K j) then upd X i v (k2 K j) else zval (kd K j)) = (if L (k1 K j) then X (k2 K j) else zval (kd K j)) := by
 obtain ⟨h1, h2, -, h4⟩ := dagOk_alloc hok hj hk
 obtain ⟨-, -, -, h8, -, -, -⟩ := dagOk_store hok h1 h2
 have hsi : k1 K j ≠ i := fun e => hik (e ▸ h2)
 rw [hne _ hsi]
 split
 · rename_i hL
   have := h.closed _ h1 hL _ h8
   rw [h4] at this
   rw [upd_ne _ _ (fun e => by rw [e, hLi] at this; cases this)]
 · rfl
theorem DagI.op (h : DagI K G n D w0 L X w) (hok : dagOk K D n = true) (hG : ∀ i v w w', G i v w → Below w.heap.size w w' → G i v w') (hLi : L i = false) (hi' : L' i = true) (hne : ∀ j, j ≠ i → L' j = L j)
 (hk : kd K i = 0) (hD : ∀ j ∈ D i, L j = true) (hv : G i v w') (hb : Below w.heap.size w w') : DagI K G n D w0 L' (upd X i v) w' := by
 have up : ∀ j, L j = true → L' j = true := fun j hj => by
  by_cases e : j = i
  · rw [e]; exact hi'
  · rw [hne j e]; exact hj
 have old : ∀ j, L' j = true → j ≠ i → L j = true := fun j hj e => by rw [← hne j e]; exact hj
 refine ⟨h.below.trans (hb.mono h.below.size), fun j hj hL k hk' => ?_, fun j hj hL hkj => ?_, fun j hj hL hkj => ?_, fun j k hj hk' hL hM hkj hkk hjk => ?_⟩
 · by_cases e : j = i
   · subst e; exact up _ (hD k hk')
   · exact up _ (h.closed j hj (old j hL e) k hk')
 · by_cases e : j = i
   · subst e; rw [upd_same]; exact hv
   · rw [upd_ne _ _ e]; exact hG _ _ _ _ (h.fact j hj (old j hL e) hkj) hb
 · have e : j ≠ i := fun e => by subst e; omega
   obtain ⟨b, h1, h2, h3⟩ := h.box j hj (old j hL e) hkj
   refine ⟨b, by rw [upd_ne _ _ e]; exact h1, h2, ?_⟩
   rw [h.same hok hLi hne (by omega) hj hkj]
   exact h3.below hb
 · have e : j ≠ i := fun e => by subst e; omega
   have e' : k ≠ i := fun e => by subst e; omega
   rw [upd_ne _ _ e, upd_ne _ _ e']
   exact h.apart j k hj hk' (old j hL e) (old k hM e') hkj hkk hjk
theorem DagI.alloc (h : DagI K G n D w0 L X w) (hok : dagOk K D n = true) (hG : ∀ i v w w', G i v w → Below w.heap.size w w' → G i v w') (hi : i < n) (hLi : L i = false) (hi' : L' i = true) (hne : ∀ j, j ≠ i → L' j = L j)
 (hk : kd K i = 1 ∨ kd K i = 2) (hD : ∀ j ∈ D i, L j = true) (t1 t2 : TypeId) : DagI K G n D w0 L' (upd X i (.pointer (some ⟨w.heap.size, 0, none⟩))) (w.alloc (zobj (kd K i) t1 t2)) := by
 have hb : Below w.heap.size w (w.alloc (zobj (kd K i) t1 t2)) := below_alloc' w _
 have up : ∀ j, L j = true → L' j = true := fun j hj => by
  by_cases e : j = i
  · rw [e]; exact hi'
  · rw [hne j e]; exact hj
 have old : ∀ j, L' j = true → j ≠ i → L j = true := fun j hj e => by rw [← hne j e]; exact hj
 refine ⟨h.below.trans (hb.mono h.below.size), fun j hj hL k hk' => ?_, fun j hj hL hkj => ?_, fun j hj hL hkj => ?_, fun j k hj hk' hL hM hkj hkk hjk => ?_⟩
 · by_cases e : j = i
   · subst e; exact up _ (hD k hk')
   · exact up _ (h.closed j hj (old j hL e) k hk')
 · have e : j ≠ i := fun e => by subst e; omega
   rw [upd_ne _ _ e]; exact hG _ _ _ _ (h.fact j hj (old j hL e) hkj) hb
 · by_cases e : j = i
   · subst e
     obtain ⟨h1, h2, h3, -⟩ := dagOk_alloc hok hi hk
     obtain ⟨-, -, h7, -⟩ := dagOk_store hok h1 h2
     refine ⟨w.heap.size, upd_same _ _ _, h.below.size, ?_⟩
     have hf : L' (k1 K j) = false := by
      have hsi : k1 K j ≠ j := fun e => by rw [e] at h2; omega
      rw [hne _ hsi]
      cases hs : L (k1 K j) with
      | false => rfl
      | true =>
        have := h.closed _ h1 hs _ h7
        rw [h3, hLi] at this; cases this
     rw [hf]
     exact Cont.new _ _ _ _
   · obtain ⟨b, h1, h2, h3⟩ := h.box j hj (old j hL e) hkj
     refine ⟨b, by rw [upd_ne _ _ e]; exact h1, h2, ?_⟩
     rw [h.same hok hLi hne (by omega) hj hkj]
     exact h3.below hb
 · by_cases e : j = i
   · subst e
     have e' : k ≠ j := Ne.symm hjk
     obtain ⟨b, h1, -, h3⟩ := h.box k hk' (old k hM e') hkk
     rw [upd_same, upd_ne _ _ e', h1]
     intro q
     have := h3.lt
     injection q with q; injection q with q; injection q with q
     omega
   · by_cases e' : k = i
     · subst e'
       obtain ⟨b, h1, -, h3⟩ := h.box j hj (old j hL e) hkj
       rw [upd_same, upd_ne _ _ e, h1]
       intro q
       have := h3.lt
       injection q with q; injection q with q; injection q with q
       omega
     · rw [upd_ne _ _ e, upd_ne _ _ e']
       exact h.apart j k hj hk' (old j hL e) (old k hM e') hkj hkk hjk
theorem DagI.store (h : DagI K G n D w0 L X w) (hok : dagOk K D n = true) (hP : ∀ i v w W k b u u0, G i v w → Cont k w b u0 → Put k b u w W → G i v W) (hi : i < n) (hi' : L' i = true) (hne : ∀ j, j ≠ i → L' j = L j)
 (hk : kd K i = 3) (hD : ∀ j ∈ D i, L j = true) {b : Nat} {u0 : Value} {W : World} (hX : X (k1 K i) = .pointer (some ⟨b, 0, none⟩)) (hb : w0.heap.size ≤ b) (hq : Cont (kd K (k1 K i)) w b u0) (hW : Put (kd K (k1 K i)) b (X (k2 K i)) w W) :
 DagI K G n D w0 L' X W := by
 have up : ∀ j, L j = true → L' j = true := fun j hj => by
  by_cases e : j = i
  · rw [e]; exact hi'
  · rw [hne j e]; exact hj
 have old : ∀ j, L' j = true → j ≠ i → L j = true := fun j hj e => by rw [← hne j e]; exact hj
 obtain ⟨h1, h2, h3, h4, h5, h6, h7⟩ := dagOk_store hok hi hk
 refine ⟨hW.lies h.below hb, fun j hj hL k hk' => ?_, fun j hj hL hkj => ?_, fun j hj hL hkj => ?_, fun j k hj hk' hL hM hkj hkk hjk => ?_⟩
 · by_cases e : j = i
   · subst e; exact up _ (hD k hk')
   · exact up _ (h.closed j hj (old j hL e) k hk')
 · have e : j ≠ i := fun e => by subst e; omega
   exact hP _ _ _ _ _ _ _ _ (h.fact j hj (old j hL e) hkj) hq hW
 · have e : j ≠ i := fun e => by subst e; omega
   obtain ⟨c, c1, c2, c3⟩ := h.box j hj (old j hL e) hkj
   refine ⟨c, c1, c2, ?_⟩
   by_cases ej : j = k1 K i
   · subst ej
     rw [h7, hi']
     obtain rfl : c = b := by rw [hX] at c1; cases c1; rfl
     obtain ⟨-, -, -, g4⟩ := dagOk_alloc hok h1 h5
     rw [h7] at g4
     rw [← g4]
     exact hW.cont hq
   · obtain ⟨g1, g2, g3, g4⟩ := dagOk_alloc hok hj hkj
     have hsi : k1 K j ≠ i := fun e => by rw [e] at g3; exact ej g3.symm
     rw [hne _ hsi]
     exact hW.other c3 fun e => h.apart j (k1 K i) hj h1 (old j hL ‹_›) (hD _ h3) hkj h5 ej (by rw [c1, hX, e])
 · have e : j ≠ i := fun e => by subst e; omega
   have e' : k ≠ i := fun e => by subst e; omega
   exact h.apart j k hj hk' (old j hL e) (old k hM e') hkj hkk hjk
end
theorem dagS {P : Program} {ops : Array Oper} {Q : Exit → Act → World → Prop} (n : Nat) (hn : ops.size = n) (A : (Nat → Value) → Act) (K : Kinds) (G : Nat → Value → World → Prop) (D : Nat → List Nat) (t1 t2 : TypeId) (w0 : World)
 (htopo : (ops.toList.zipIdx.all fun p => p.1.after.all fun e => !Region.binds .any e || decide (e.on < p.2)) = true) (hwait : ∀ i, i < n → waitsB ops i (D i) = true) (hok : dagOk K D n = true)
 (hG : ∀ i v w w', G i v w → Below w.heap.size w w' → G i v w') (hP : (∃ i, i < n ∧ kd K i = 3) → ∀ i v w W k b u u0, G i v w → Cont k w b u0 → Put k b u w W → G i v W)
 (hop : ∀ (i : Nat) (X : Nat → Value) (w : World) (H : Act → World → Prop), i < n → kd K i = 0 → Below w0.heap.size w0 w → (∀ j ∈ D i, kd K j = 0 → G j (X j) w) →
   (∀ (v : Value) (w' : World), G i v w' → Below w.heap.size w w' → H (A (upd X i v)) w') → wpOp P ops Q i H (A X) w)
 (hal : ∀ (i : Nat) (X : Nat → Value) (w : World) (H : Act → World → Prop), i < n → (kd K i = 1 ∨ kd K i = 2) → H (A (upd X i (.pointer (some ⟨w.heap.size, 0, none⟩)))) (w.alloc (zobj (kd K i) t1 t2)) → wpOp P ops Q i H (A X) w)
 (hst : ∀ (i : Nat) (X : Nat → Value) (w : World) (H : Act → World → Prop) (b : Nat) (u0 : Value), i < n → kd K i = 3 → X (k1 K i) = .pointer (some ⟨b, 0, none⟩) → Cont (kd K (k1 K i)) w b u0 → G (k2 K i) (X (k2 K i)) w →
   (∀ W, Put (kd K (k1 K i)) b (X (k2 K i)) w W → H (A X) W) → wpOp P ops Q i H (A X) w)
 (hend : ∀ (X : Nat → Value) (w : World), DagI K G n D w0 (fun _ => true) X w → Q .normal (A X) w)
 (X : Nat → Value) (l : Array Bool) (fuel : Nat) (hl : l.size = n) (hfuel : l.toList.count false ≤ fuel) (hfree : ∀ i, i < n → l.getD i false = false) :
 wpAnyH P .any ops Q (fun w => Below w0.heap.size w0 w) fuel l (A X) w0 := by
 refine wpAnyH_inv (I := fun l x w => l.size = n ∧ ∃ X, x = A X ∧ DagI K G n D w0 (fun i => l.getD i false) X w)
  (fun l x w h => h.1.trans hn.symm) (fun l x w h => by obtain ⟨-, X, -, h⟩ := h; exact h.below) ?_ ?_ fuel l _ _ hfuel
  ⟨hl, X, rfl, Below.refl _ _, fun i hi h => (by simp only [hfree i hi] at h; cases h), fun i hi h => (by simp only [hfree i hi] at h; cases h), fun i hi h => (by simp only [hfree i hi] at h; cases h), fun i j hi _ h => (by simp only [hfree i hi] at h; cases h)⟩
 · rintro l x w ⟨hls, X, rfl, hI⟩ i hi
   obtain ⟨h0, o, ho, -⟩ := mem_ready.1 hi
   have hilt : i < n := by rw [← hn]; exact (Array.getElem?_eq_some_iff.1 ho).1
   have hD := waits_of (hwait i hilt) hi
   have hLi : l.getD i false = false := by rw [getD_flip (by omega) false true]; exact h0
   have hi' : (l.setIfInBounds i true).getD i false = true := getD_set_same h0 false
   have hne : ∀ j, j ≠ i → (l.setIfInBounds i true).getD j false = l.getD j false := fun j hj => getD_set_ne false (Ne.symm hj)
   have hjn : ∀ j ∈ D i, j < n := fun j hj => by
    have h1 := hD j hj
    rcases Nat.lt_or_ge j n with h | h
    · exact h
    · rw [Array.getD_eq_getD_getElem?, Array.getElem?_eq_none (by omega)] at h1; cases h1
   have hs' : (l.setIfInBounds i true).size = n := by simpa using hls
   rcases dagOk_kind hok hilt with hk | hk | hk
   · exact hop i X w _ hilt hk hI.below (fun j hj hkj => hI.fact j (hjn j hj) (hD j hj) hkj) fun v w' hv hb => ⟨hs', _, rfl, hI.op hok hG hLi hi' hne hk hD hv hb⟩
   · exact hal i X w _ hilt hk ⟨hs', _, rfl, hI.alloc hok hG hilt hLi hi' hne hk hD t1 t2⟩
   · obtain ⟨h1, h2, h3, h4, h5, h6, h7⟩ := dagOk_store hok hilt hk
     obtain ⟨b, b1, b2, b3⟩ := hI.box _ h1 (hD _ h3) h5
     exact hst i X w _ b _ hilt hk b1 b3 (hI.fact _ h2 (hD _ h4) h6) fun W hW => ⟨hs', _, rfl, hI.store hok (hP ⟨i, hilt, hk⟩) hilt hi' hne hk hD b1 b2 b3 hW⟩
 · rintro l x w ⟨hls, X, rfl, hI⟩ hr
   have hall := all_in htopo hr
   have hT : ∀ i, i < n → l.getD i false = true := fun i hi => by rw [getD_flip (by omega) false true]; exact hall i (by omega)
   refine hend X w ⟨hI.below, fun _ _ _ _ _ => rfl, fun i hi _ => hI.fact i hi (hT i hi), fun i hi _ hk => ?_, fun i j hi hj _ _ => hI.apart i j hi hj (hT i hi) (hT j hj)⟩
   obtain ⟨b, b1, b2, b3⟩ := hI.box i hi (hT i hi) hk
   rw [hT _ (dagOk_alloc hok hi hk).1] at b3
   exact ⟨b, b1, b2, b3⟩
structure Fact where
 g : Value → World → Prop
 low : ∀ v w w', g v w → Below w.heap.size w w' → g v w'
 ok : Bool
 put : ok = true → ∀ v w W k b u u0, g v w → Cont k w b u0 → Put k b u w W → g v W
def Fact.none : Fact := ⟨fun _ _ => True, fun _ _ _ _ _ => trivial, true, fun _ _ _ _ _ _ _ _ _ _ _ => trivial⟩
def Fact.val (c : Value) : Fact := ⟨fun v _ => v = c, fun _ _ _ h _ => h, true, fun _ _ _ _ _ _ _ _ h _ _ => h⟩
def Fact.num (z : Int) (cap : Bool) : Fact := ⟨fun v w => ∃ (s : Bool) (a : Option Addr) (n c : Nat), v = .agg #[.bool s, .slice a n c] ∧ IsN w s a n z ∧ n ≤ 64 ∧ (cap = true → n ≤ c),
 fun _ _ _ ⟨s, a, n, c, e, N, q⟩ t => ⟨s, a, n, c, e, N.below t, q⟩, true, fun _ _ _ _ _ _ _ _ ⟨s, a, n, c, e, N, q⟩ hC hW => ⟨s, a, n, c, e, hW.isN hC N, q⟩⟩
def Fact.one (z : Int) (ok cap : Bool) : Fact := ⟨fun v w => ∃ (s : Bool) (a : Option Addr) (n c : Nat), v = .tuple #[.agg #[.bool s, .slice a n c], .bool ok] ∧ IsN w s a n z ∧ n ≤ 64 ∧ (cap = true → n ≤ c),
 fun _ _ _ ⟨s, a, n, c, e, N, q⟩ t => ⟨s, a, n, c, e, N.below t, q⟩, true, fun _ _ _ _ _ _ _ _ ⟨s, a, n, c, e, N, q⟩ hC hW => ⟨s, a, n, c, e, hW.isN hC N, q⟩⟩
def Fact.two (z y : Int) (cap : Bool) : Fact := ⟨fun v w => ∃ (s : Bool) (a : Option Addr) (n c : Nat) (t : Bool) (b : Option Addr) (m d : Nat), v = .tuple #[.agg #[.bool s, .slice a n c], .agg #[.bool t, .slice b m d], .bool true] ∧ IsN w s a n z ∧ IsN w t b m y ∧ n ≤ 64 ∧ m ≤ 64 ∧ (cap = true → n ≤ c ∧ m ≤ d),
 fun _ _ _ ⟨s, a, n, c, t, b, m, d, e, N, M, q⟩ h => ⟨s, a, n, c, t, b, m, d, e, N.below h, M.below h, q⟩, true, fun _ _ _ _ _ _ _ _ ⟨s, a, n, c, t, b, m, d, e, N, M, q⟩ hC hW => ⟨s, a, n, c, t, b, m, d, e, hW.isN hC N, hW.isN hC M, q⟩⟩
def Fact.rat (z y : Int) (cap : Bool) : Fact := ⟨fun v w => ∃ (s : Bool) (a : Option Addr) (n c : Nat) (t : Bool) (b : Option Addr) (m d : Nat), v = .agg #[.bool s, .slice a n c, .bool t, .slice b m d] ∧ IsN w s a n z ∧ IsN w t b m y ∧ n ≤ 64 ∧ m ≤ 64 ∧ (cap = true → n ≤ c ∧ m ≤ d),
 fun _ _ _ ⟨s, a, n, c, t, b, m, d, e, N, M, q⟩ h => ⟨s, a, n, c, t, b, m, d, e, N.below h, M.below h, q⟩, true, fun _ _ _ _ _ _ _ _ ⟨s, a, n, c, t, b, m, d, e, N, M, q⟩ hC hW => ⟨s, a, n, c, t, b, m, d, e, hW.isN hC N, hW.isN hC M, q⟩⟩
def Fact.ratok (z y : Int) (ok cap : Bool) : Fact := ⟨fun v w => ∃ (s : Bool) (a : Option Addr) (n c : Nat) (t : Bool) (b : Option Addr) (m d : Nat), v = .tuple #[.agg #[.bool s, .slice a n c, .bool t, .slice b m d], .bool ok] ∧ IsN w s a n z ∧ IsN w t b m y ∧ n ≤ 64 ∧ m ≤ 64 ∧ (cap = true → n ≤ c ∧ m ≤ d),
 fun _ _ _ ⟨s, a, n, c, t, b, m, d, e, N, M, q⟩ h => ⟨s, a, n, c, t, b, m, d, e, N.below h, M.below h, q⟩, true, fun _ _ _ _ _ _ _ _ ⟨s, a, n, c, t, b, m, d, e, N, M, q⟩ hC hW => ⟨s, a, n, c, t, b, m, d, e, hW.isN hC N, hW.isN hC M, q⟩⟩
def Fact.ex (P : Int → Prop) (f : Int → Fact) (h : ∀ y, (f y).ok = true := by intro y; rfl) : Fact := ⟨fun v w => ∃ y, P y ∧ (f y).g v w, fun v w w' ⟨y, h, q⟩ t => ⟨y, h, (f y).low v w w' q t⟩, true, fun _ v w W k b u u0 ⟨y, hy, q⟩ hC hW => ⟨y, hy, (f y).put (h y) v w W k b u u0 q hC hW⟩⟩
theorem Cont.num {w : World} {b : Nat} {s : Bool} {a : Option Addr} {n c : Nat} (h : Cont 1 w b (.agg #[.bool s, .slice a n c])) : Box2 w b (.bool s) (.slice a n c) := by
 obtain ⟨s', a', n', c', e, h⟩ := h
 simp at e
 obtain ⟨rfl, rfl, rfl, rfl⟩ := e
 exact h
theorem Cont.rat {w : World} {b : Nat} {s t : Bool} {a d : Option Addr} {n c m e : Nat} (h : Cont 2 w b (.agg #[.bool s, .slice a n c, .bool t, .slice d m e])) : Quad w b (.bool s) (.slice a n c) (.bool t) (.slice d m e) := by
 obtain ⟨s', a', n', c', t', d', m', e', q, h⟩ := h
 simp at q
 obtain ⟨rfl, ⟨rfl, rfl, rfl⟩, rfl, rfl, rfl, rfl⟩ := q
 exact h
def Each (l : List Nat) (p : Nat → Prop) : Prop := ∀ i ∈ l, p i
theorem Each.nil {p : Nat → Prop} : Each [] p := fun _ h => by cases h
theorem Each.cons {i : Nat} {l : List Nat} {p : Nat → Prop} (h : p i) (hl : Each l p) : Each (i :: l) p := fun j hj => by
 rcases List.mem_cons.1 hj with rfl | hj
 · exact h
 · exact hl j hj
theorem tv {P : Program} {ops : Array Oper} {Q : Exit → Act → World → Prop} {i : Nat} {o : Oper} {v : Value} {a : Act} {w : World} {K : Act → World → Prop} (hi : ops[i]? = some o) (hw : Region.wanted o (yielded ops a.tmps) = true)
 (hv : (execOp a.eval o).run P w = .ok (.value v) w) (h : K (a.put o.dst v) w) : wpOp P ops Q i K a w :=
 YieldsIf.wpOp (S := fun W => W = w) hi (.inl ⟨hw, fun W hW => by subst hW; exact hv⟩) rfl h
theorem tu {P : Program} {ops : Array Oper} {Q : Exit → Act → World → Prop} {i : Nat} {o : Oper} {a : Act} {w : World} {K : Act → World → Prop} (hi : ops[i]? = some o) (hw : Region.wanted o (yielded ops a.tmps) = false)
 (h : K (a.put o.dst undef) w) : wpOp P ops Q i K a w :=
 YieldsIf.wpOp (S := fun W => W = w) hi (.inr ⟨hw, rfl⟩) rfl h
def ofKind (K : Kinds) (n : Nat) (b : Nat → Bool) : List Nat := (List.range n).filter fun i => b (kd K i)
theorem dagT {P : Program} {ops : Array Oper} {Q : Exit → Act → World → Prop} (n : Nat) (hn : ops.size = n) (A : (Nat → Value) → Act) (K : Kinds) (F : List Fact) (D : List (List Nat)) (la lb lc : List Nat) (t1 t2 : TypeId) (w0 : World)
 (htopo : (ops.toList.zipIdx.all fun p => p.1.after.all fun e => !Region.binds .any e || decide (e.on < p.2)) = true) (hwait : ((List.range n).all fun i => waitsB ops i (D.getD i [])) = true) (hok : dagOk K (fun i => D.getD i []) n = true)
 (hla : (ofKind K n (· == 0) == la && ofKind K n (fun k => k == 1 || k == 2) == lb && ofKind K n (· == 3) == lc) = true) (hput : (lc.isEmpty || F.all (·.ok)) = true)
 (hop : Each la fun i => ∀ (X : Nat → Value) (w : World) (H : Act → World → Prop), Below w0.heap.size w0 w → (∀ j ∈ D.getD i [], kd K j = 0 → (F.getD j .none).g (X j) w) →
   (∀ (v : Value) (w' : World), (F.getD i .none).g v w' → Below w.heap.size w w' → H (A (upd X i v)) w') → wpOp P ops Q i H (A X) w)
 (hal : Each lb fun i => ∀ (X : Nat → Value) (w : World) (H : Act → World → Prop), H (A (upd X i (.pointer (some ⟨w.heap.size, 0, none⟩)))) (w.alloc (zobj (kd K i) t1 t2)) → wpOp P ops Q i H (A X) w)
 (hst : Each lc fun i => ∀ (X : Nat → Value) (w : World) (H : Act → World → Prop) (b : Nat) (u0 : Value), X (k1 K i) = .pointer (some ⟨b, 0, none⟩) → Cont (kd K (k1 K i)) w b u0 → (F.getD (k2 K i) .none).g (X (k2 K i)) w →
   (∀ W, Put (kd K (k1 K i)) b (X (k2 K i)) w W → H (A X) W) → wpOp P ops Q i H (A X) w)
 (hend : ∀ (X : Nat → Value) (w : World), DagI K (fun i => (F.getD i .none).g) n (fun i => D.getD i []) w0 (fun _ => true) X w → Q .normal (A X) w)
 (X : Nat → Value) (l : Array Bool) (fuel : Nat) (hl : l.size = n) (hfuel : l.toList.count false ≤ fuel) (hfree : ∀ i, i < n → l.getD i false = false) :
 wpAnyH P .any ops Q (fun w => Below w0.heap.size w0 w) fuel l (A X) w0 := by
 simp only [Bool.and_eq_true, beq_iff_eq] at hla
 obtain ⟨⟨rfl, rfl⟩, rfl⟩ := hla
 have mem : ∀ {i : Nat} {b : Nat → Bool}, i < n → b (kd K i) = true → i ∈ ofKind K n b := fun hi hb => List.mem_filter.2 ⟨List.mem_range.2 hi, hb⟩
 exact dagS n hn A K (fun i => (F.getD i .none).g) (fun i => D.getD i []) t1 t2 w0 htopo (waits_all hwait) hok (fun i => (F.getD i .none).low)
  (fun ⟨i, hi, hk⟩ j => by
    have hm : i ∈ ofKind K n (· == 3) := mem hi (by rw [hk]; rfl)
    rw [Bool.or_eq_true] at hput
    rcases hput with h | h
    · rw [List.isEmpty_iff.1 h] at hm; cases hm
    · refine (F.getD j .none).put ?_
      rw [List.getD_eq_getElem?_getD]
      cases hj : F[j]? with
      | none => rfl
      | some f => exact List.all_eq_true.1 h f (List.mem_of_getElem? hj))
  (fun i X w H hi hk => hop i (mem hi (by rw [hk]; rfl)) X w H) (fun i X w H hi hk => hal i (mem hi (by rcases hk with hk | hk <;> rw [hk] <;> rfl)) X w H)
  (fun i X w H b u0 hi hk => hst i (mem hi (by rw [hk]; rfl)) X w H b u0) hend X l fuel hl hfuel hfree
end Go.Proofs.YtgenaicmjddjcaaGreatDoor
