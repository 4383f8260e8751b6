/- A region that makes several Nums and stores each in a variable of its own, in whatever order its operations come up. -/
import Derived.OrdersHeld
import Derived.Deep.RegionHeld3
import Derived.Test.YtmpdeiopdempcaaGreatDoorRefB
import Derived.Test.YtmpdeiopdempcaaGreatDoorNumS
namespace Go.Proofs.YtmpdeiopdempcaaGreatDoor
open Go.RowKit Go.Shelf

section
variable {P : Program} {ops : Array Oper} {Q : Exit → Act → World → Prop} {md : Region.Mode} {S : World → Prop}
theorem ready_nil_of_full {l : Array Bool} (hs : l.size = ops.size) (h : l.toList.count false = 0) : Region.ready md ops l = [] := by
  rw [List.eq_nil_iff_forall_not_mem]
  intro i hi
  obtain ⟨h0, o, ho, -⟩ := mem_ready.1 hi
  have hlt : i < l.size := by rw [hs]; exact (Array.getElem?_eq_some_iff.1 ho).1
  have : l[i] = false := by simpa [hlt] using h0
  have hm : false ∈ l.toList := by rw [← this]; simp
  rw [List.count_eq_zero] at h
  exact h hm
/-- a relation that each operation that may come up keeps -/
theorem wpAnyH_inv {I : Array Bool → Act → World → Prop} (hsz : ∀ l a w, I l a w → l.size = ops.size) (hS : ∀ l a w, I l a w → S w)
    (hstep : ∀ l a w, I l a w → ∀ i ∈ Region.ready md ops l, wpOp P ops Q i (I (l.setIfInBounds i true)) a w)
    (hend : ∀ l a w, I l a w → Region.ready md ops l = [] → Q .normal a w) :
    ∀ (fuel : Nat) (l : Array Bool) (a : Act) (w : World), l.toList.count false ≤ fuel → I l a w → wpAnyH P md ops Q S fuel l a w
  | 0, l, a, w, hf, hI => by
    have := ready_nil_of_full (md := md) (hsz l a w hI) (by omega : l.toList.count false = 0)
    exact ⟨this, hend l a w hI this⟩
  | fuel + 1, l, a, w, hf, hI => ⟨hend l a w hI, fun i hi => wpOp_mono (fun a' w' h' => ⟨hS _ _ _ h', wpAnyH_inv hsz hS hstep hend fuel _ a' w' (by
      obtain ⟨h0, o, ho, -⟩ := mem_ready.1 hi
      have hlt : i < l.size := by rw [hsz l a w hI]; exact (Array.getElem?_eq_some_iff.1 ho).1
      have h1 : l[i] = false := by simpa [hlt] using h0
      have h2 : 0 < l.toList.count false := List.count_pos_iff.2 (by rw [← h1]; simp)
      rw [Array.toList_setIfInBounds, List.count_set (by simpa using hlt)]
      have h3 : l.toList[i]'(by simpa using hlt) = false := by simpa using h1
      rw [h3, if_pos (by decide), if_neg (by decide)]; omega) h'⟩) (hstep l a w hI i hi)⟩
/-- behind the last one all have come up, if each waits for earlier ones alone -/
theorem all_listed {l : Array Bool} (ht : ∀ (i : Nat) (o : Oper), ops[i]? = some o → ∀ e ∈ o.after, e.on < i) (hr : Region.ready md ops l = []) : ∀ i, i < ops.size → l.getD i true = true := by
  intro i
  induction i using Nat.strongRecOn with
  | _ i ih =>
    intro hi
    cases h : l.getD i true with
    | true => rfl
    | false =>
      exfalso
      have hlt : i < l.size := by
        rcases Nat.lt_or_ge i l.size with h' | h'
        · exact h'
        · simp [Array.getElem?_eq_none h'] at h
      have : i ∈ Region.ready md ops l := mem_ready.2 ⟨h, ops[i], by simp [hi], fun e he _ => by
        have h1 := ht i ops[i] (by simp [hi]) e he
        have h2 := ih e.on h1 (by omega)
        have h3 : e.on < l.size := by omega
        simpa [h3] using h2⟩
      rw [hr] at this; cases this
theorem take_at {i : Nat} (d : Tmp) {oi : Oper} {v : Value} {fuel : Nat} {listed : Array Bool} {a : Act} {w : World} (hi : ops[i]? = some oi) (hd : oi.dst = some d)
    (hs : Region.noSelect ops = true) (hf : Region.free md ops listed i = true) (hr : (Region.ready md ops listed).contains i = true)
    (hQ : ∀ c a w, Q (.panic c) (a.put oi.dst v) w → Q (.panic c) a w) (hy : YieldsIf P ops S oi v a) (hS : S w)
    (h : wpAnyH P md ops Q S fuel (listed.setIfInBounds i true) (a.put (some d) v) w) : wpAnyH P md ops Q S (fuel + 1) listed a w :=
  wpAnyH_take hi hs hf hr hQ hy hS (by rw [hd]; exact h)
theorem wpOp_call {i : Nat} {o : Oper} {a : Act} {w : World} {K : Act → World → Prop} {f : FuncId} {args : Array Value} (d : Tmp) (hi : ops[i]? = some o) (hd : o.dst = some d) (hw : Region.wanted o (yielded ops a.tmps) = true)
    (he : (execOp a.eval o).run P w = .ok (.enter f args) w) (h : Calls P f args w fun e w' => ∃ v, e = .returned v ∧ K (a.put (some d) v) w') : wpOp P ops Q i K a w := by
  unfold wpOp; simp only [hi]
  rw [if_pos hw]
  refine .inl ?_
  unfold Oper.wp
  rw [he]
  simp only [Oper.upon]
  refine h.mono ?_
  rintro e w' ⟨v, rfl, hK⟩
  rw [hd]; exact hK
theorem wpOp_run {i : Nat} {o : Oper} {a : Act} {w : World} {K : Act → World → Prop} (hi : ops[i]? = some o) (h : if Region.wanted o (yielded ops a.tmps) then o.wp P a w K Q else K (a.put o.dst undef) w) : wpOp P ops Q i K a w := by
  unfold wpOp; simp only [hi]
  split
  · rename_i hw; rw [if_pos hw] at h; exact .inl h
  · rename_i hw; rw [if_neg hw] at h; exact h
end

def upd {α : Type} (f : Nat → α) (k : Nat) (v : α) : Nat → α := fun j => if j = k then v else f j
theorem upd_same {α : Type} (f : Nat → α) (k : Nat) (v : α) : upd f k v k = v := if_pos rfl
theorem upd_ne {α : Type} (f : Nat → α) {k j : Nat} (v : α) (h : j ≠ k) : upd f k v j = f j := if_neg h
theorem upd_eq {α : Type} (f : Nat → α) {k j : Nat} (v : α) (h : j = k) : upd f k v j = v := if_pos h

/-- what is known of the variables U and the Nums V -/
structure Fan (K : Nat) (w0 : World) (la lc ls : Nat → Bool) (U V : Nat → Value) (B : Nat → Nat) (s : Nat → Bool) (a : Nat → Option Addr) (n c : Nat → Nat) (z : Nat → Int) (w : World) : Prop where
  below : Below w0.heap.size w0 w
  var : ∀ k, k < K → la k = true → U k = .pointer (some ⟨B k, 0, none⟩) ∧ w0.heap.size ≤ B k
  box0 : ∀ k, k < K → la k = true → ls k = false → Box2 w (B k) (.bool false) (.slice none 0 0)
  box1 : ∀ k, k < K → la k = true → ls k = true → Box2 w (B k) (.bool (s k)) (.slice (a k) (n k) (c k))
  apart : ∀ j k, j < K → k < K → j ≠ k → la j = true → la k = true → B j ≠ B k
  num : ∀ k, k < K → lc k = true → V k = .agg #[.bool (s k), .slice (a k) (n k) (c k)] ∧ IsN w (s k) (a k) (n k) (z k) ∧ n k ≤ 6 ∧ (n k = 0 ∨ Fresh w0 (a k))
  off : ∀ j k, j < K → k < K → lc j = true → la k = true → n j = 0 ∨ ∀ ad, a j = some ad → ad.block ≠ B k
  ord : ∀ k, k < K → ls k = true → la k = true ∧ lc k = true
theorem Fan.box {K : Nat} {w0 w : World} {la lc ls : Nat → Bool} {U V : Nat → Value} {B : Nat → Nat} {s : Nat → Bool} {a : Nat → Option Addr} {n c : Nat → Nat} {z : Nat → Int} (h : Fan K w0 la lc ls U V B s a n c z w) {k : Nat} (hk : k < K) (ha : la k = true) : ∃ v0 v1, Box2 w (B k) v0 v1 := by
  cases hs : ls k with
  | false => exact ⟨_, _, h.box0 k hk ha hs⟩
  | true => exact ⟨_, _, h.box1 k hk ha hs⟩
theorem Fan.lt {K : Nat} {w0 w : World} {la lc ls : Nat → Bool} {U V : Nat → Value} {B : Nat → Nat} {s : Nat → Bool} {a : Nat → Option Addr} {n c : Nat → Nat} {z : Nat → Int} (h : Fan K w0 la lc ls U V B s a n c z w) {k : Nat} (hk : k < K) (ha : la k = true) : B k < w.heap.size := by
  obtain ⟨_, _, hb⟩ := h.box hk ha
  exact hb.lt
theorem IsN.old {w : World} {s : Bool} {a : Option Addr} {n : Nat} {z : Int} (h : IsN w s a n z) {g : Nat} (hg : w.heap.size ≤ g) : n = 0 ∨ ∀ ad, a = some ad → ad.block ≠ g := by
  by_cases h0 : n = 0
  · exact .inl h0
  · exact .inr (h.dig.dig.old hg (by omega))
theorem Fan.start (K : Nat) (w0 : World) (U V : Nat → Value) (B : Nat → Nat) (s : Nat → Bool) (a : Nat → Option Addr) (n c : Nat → Nat) (z : Nat → Int) {la lc ls : Nat → Bool} (ha : ∀ k, k < K → la k = false) (hc : ∀ k, k < K → lc k = false) (hs : ∀ k, k < K → ls k = false) : Fan K w0 la lc ls U V B s a n c z w0 where
  below := Below.refl _ _
  var k hk h := by rw [ha k hk] at h; cases h
  box0 k hk h := by rw [ha k hk] at h; cases h
  box1 k hk h := by rw [ha k hk] at h; cases h
  apart j k hj hk _ h := by rw [ha j hj] at h; cases h
  num k hk h := by rw [hc k hk] at h; cases h
  off j k hj hk h := by rw [hc j hj] at h; cases h
  ord k hk h := by rw [hs k hk] at h; cases h
theorem Fan.congr {K : Nat} {w0 w : World} {la lc ls la' lc' ls' : Nat → Bool} {U V : Nat → Value} {B : Nat → Nat} {s : Nat → Bool} {a : Nat → Option Addr} {n c : Nat → Nat} {z : Nat → Int} (h : Fan K w0 la lc ls U V B s a n c z w)
    (ea : ∀ k, k < K → la' k = la k) (ec : ∀ k, k < K → lc' k = lc k) (es : ∀ k, k < K → ls' k = ls k) : Fan K w0 la' lc' ls' U V B s a n c z w where
  below := h.below
  var k hk h' := h.var k hk (by rw [← ea k hk]; exact h')
  box0 k hk h' h'' := h.box0 k hk (by rw [← ea k hk]; exact h') (by rw [← es k hk]; exact h'')
  box1 k hk h' h'' := h.box1 k hk (by rw [← ea k hk]; exact h') (by rw [← es k hk]; exact h'')
  apart j k hj hk hne h1 h2 := h.apart j k hj hk hne (by rw [← ea j hj]; exact h1) (by rw [← ea k hk]; exact h2)
  num k hk h' := h.num k hk (by rw [← ec k hk]; exact h')
  off j k hj hk h1 h2 := h.off j k hj hk (by rw [← ec j hj]; exact h1) (by rw [← ea k hk]; exact h2)
  ord k hk h' := by rw [ea k hk, ec k hk]; exact h.ord k hk (by rw [← es k hk]; exact h')
theorem Fan.alloc {K : Nat} {w0 w : World} {la lc ls : Nat → Bool} {U V : Nat → Value} {B : Nat → Nat} {s : Nat → Bool} {a : Nat → Option Addr} {n c : Nat → Nat} {z : Nat → Int} (h : Fan K w0 la lc ls U V B s a n c z w) {k : Nat} (hk : k < K) (hla : la k = false) (t : TypeId) :
    Fan K w0 (upd la k true) lc ls (upd U k (.pointer (some ⟨w.heap.size, 0, none⟩))) V (upd B k w.heap.size) s a n c z (w.alloc (Obj.cells #[Value.bool false, Value.slice none 0 0] t)) := by
  have hg := below_alloc' w (Obj.cells #[Value.bool false, Value.slice none 0 0] t)
  have hls : ls k = false := by
    cases hs : ls k with
    | false => rfl
    | true => rw [(h.ord k hk hs).1] at hla; cases hla
  have hold : ∀ j, j ≠ k → upd la k true j = true → la j = true := fun j hj e => by rwa [upd_ne _ _ hj] at e
  refine { below := h.below.trans (hg.mono h.below.size), var := fun j hj e => ?_, box0 := fun j hj e e' => ?_, box1 := fun j hj e e' => ?_, apart := fun i j hi hj hne e1 e2 => ?_, num := fun j hj e => ?_, off := fun i j hi hj e1 e2 => ?_, ord := fun j hj e => ?_ }
  · by_cases ej : j = k
    · subst ej; rw [upd_same, upd_same]; exact ⟨rfl, h.below.size⟩
    · rw [upd_ne _ _ ej, upd_ne _ _ ej]; exact h.var j hj (hold j ej e)
  · by_cases ej : j = k
    · subst ej; rw [upd_same]; exact Box2.new _ _ _ _
    · rw [upd_ne _ _ ej]; have := h.box0 j hj (hold j ej e) e'; exact this.below hg this.lt
  · by_cases ej : j = k
    · subst ej; rw [hls] at e'; cases e'
    · rw [upd_ne _ _ ej]; have := h.box1 j hj (hold j ej e) e'; exact this.below hg this.lt
  · by_cases ei : i = k
    · subst ei
      rw [upd_same, upd_ne _ _ (Ne.symm hne)]
      have := h.lt hj (hold j (Ne.symm hne) e2); omega
    · rw [upd_ne _ _ ei]
      by_cases ej : j = k
      · subst ej; rw [upd_same]; have := h.lt hi (hold i ei e1); omega
      · rw [upd_ne _ _ ej]; exact h.apart i j hi hj hne (hold i ei e1) (hold j ej e2)
  · obtain ⟨h1, h2, h3, h4⟩ := h.num j hj e
    exact ⟨h1, h2.below hg, h3, h4⟩
  · by_cases ej : j = k
    · subst ej; rw [upd_same]; exact (h.num i hi e1).2.1.old (Nat.le_refl _)
    · rw [upd_ne _ _ ej]; exact h.off i j hi hj e1 (hold j ej e2)
  · obtain ⟨h1, h2⟩ := h.ord j hj e
    refine ⟨?_, h2⟩
    by_cases ej : j = k
    · rw [upd_eq _ _ ej]
    · rw [upd_ne _ _ ej]; exact h1
theorem Fan.call {K : Nat} {w0 w w' : World} {la lc ls : Nat → Bool} {U V : Nat → Value} {B : Nat → Nat} {s : Nat → Bool} {a : Nat → Option Addr} {n c : Nat → Nat} {z : Nat → Int} (h : Fan K w0 la lc ls U V B s a n c z w) {k : Nat} (hk : k < K) (hlc : lc k = false)
    {s' : Bool} {a' : Option Addr} {n' c' : Nat} {z' : Int} (hN : IsN w' s' a' n' z') (h6 : n' ≤ 6) (hf : n' = 0 ∨ Fresh w a') (hg : Below w.heap.size w w') :
    Fan K w0 la (upd lc k true) ls U (upd V k (.agg #[.bool s', .slice a' n' c'])) B (upd s k s') (upd a k a') (upd n k n') (upd c k c') (upd z k z') w' := by
  have hls : ls k = false := by
    cases hs : ls k with
    | false => rfl
    | true => rw [(h.ord k hk hs).2] at hlc; cases hlc
  have hold : ∀ j, j ≠ k → upd lc k true j = true → lc j = true := fun j hj e => by rwa [upd_ne _ _ hj] at e
  refine { below := h.below.trans (hg.mono h.below.size), var := h.var, box0 := fun j hj e e' => ?_, box1 := fun j hj e e' => ?_, apart := h.apart, num := fun j hj e => ?_, off := fun i j hi hj e1 e2 => ?_, ord := fun j hj e => ?_ }
  · have := h.box0 j hj e e'; exact this.below hg this.lt
  · have ej : j ≠ k := fun ej => by subst ej; rw [hls] at e'; cases e'
    rw [upd_ne _ _ ej, upd_ne _ _ ej, upd_ne _ _ ej, upd_ne _ _ ej]
    have := h.box1 j hj e e'; exact this.below hg this.lt
  · by_cases ej : j = k
    · subst ej
      rw [upd_same, upd_same, upd_same, upd_same, upd_same, upd_same]
      exact ⟨rfl, hN, h6, hf.imp id fun hf ad e => Nat.le_trans h.below.size (hf ad e)⟩
    · rw [upd_ne _ _ ej, upd_ne _ _ ej, upd_ne _ _ ej, upd_ne _ _ ej, upd_ne _ _ ej, upd_ne _ _ ej]
      obtain ⟨h1, h2, h3, h4⟩ := h.num j hj (hold j ej e)
      exact ⟨h1, h2.below hg, h3, h4⟩
  · by_cases ei : i = k
    · subst ei
      rw [upd_same, upd_same]
      have := h.lt hj e2
      exact hf.imp id fun hf ad e => by have := hf ad e; omega
    · rw [upd_ne _ _ ei, upd_ne _ _ ei]; exact h.off i j hi hj (hold i ei e1) e2
  · obtain ⟨h1, h2⟩ := h.ord j hj e
    refine ⟨h1, ?_⟩
    by_cases ej : j = k
    · rw [upd_eq _ _ ej]
    · rw [upd_ne _ _ ej]; exact h2
theorem Fan.store {K : Nat} {w0 w : World} {la lc ls : Nat → Bool} {U V : Nat → Value} {B : Nat → Nat} {s : Nat → Bool} {a : Nat → Option Addr} {n c : Nat → Nat} {z : Nat → Int} (h : Fan K w0 la lc ls U V B s a n c z w) {k : Nat} (hk : k < K) (hla : la k = true) (hlc : lc k = true) :
    Fan K w0 la lc (upd ls k true) U V B s a n c z ((w.setCell ⟨B k, 0, none⟩ (.bool (s k))).setCell ⟨B k, 1, none⟩ (.slice (a k) (n k) (c k))) := by
  obtain ⟨v0, v1, hb⟩ := h.box hk hla
  have hold : ∀ j, j ≠ k → upd ls k true j = ls j := fun j hj => upd_ne _ _ hj
  refine { below := below_set2 h.below (h.var k hk hla).2 _ _, var := h.var, box0 := fun j hj e e' => ?_, box1 := fun j hj e e' => ?_, apart := h.apart, num := fun j hj e => ?_, off := h.off, ord := fun j hj e => ?_ }
  · have ej : j ≠ k := fun ej => by subst ej; rw [upd_same] at e'; cases e'
    rw [hold j ej] at e'
    exact (h.box0 j hj e e').other _ _ (h.apart j k hj hk ej e hla)
  · by_cases ej : j = k
    · subst ej; exact hb.set _ _
    · rw [hold j ej] at e'
      exact (h.box1 j hj e e').other _ _ (h.apart j k hj hk ej e hla)
  · obtain ⟨h1, h2, h3, h4⟩ := h.num j hj e
    exact ⟨h1, h2.set2 hb _ _ (h.off j k hj hk e hla), h3, h4⟩
  · by_cases ej : j = k
    · subst ej; exact ⟨hla, hlc⟩
    · rw [hold j ej] at e; exact h.ord j hj e

theorem getD_set_same {l : Array Bool} {i : Nat} (h : l.getD i true = false) (d : Bool) : (l.setIfInBounds i true).getD i d = true := by
  have hlt : i < l.size := by
    rcases Nat.lt_or_ge i l.size with h' | h'
    · exact h'
    · simp [Array.getElem?_eq_none h'] at h
  simp [hlt]
theorem getD_flip {l : Array Bool} {i : Nat} (hi : i < l.size) (d e : Bool) : l.getD i d = l.getD i e := by simp [hi]

/-- THE REGION: K times an address, a load, a call; then K variables, then K stores -/
theorem fan {P : Program} {ops : Array Oper} {Q : Exit → Act → World → Prop} (K : Nat) (t : TypeId) (A : (Nat → Value) → (Nat → Value) → Act) (w0 : World) (hsize : ops.size = 5 * K)
    (htopo : ∀ (i : Nat) (o : Oper), ops[i]? = some o → ∀ e ∈ o.after, e.on < i)
    (hdep : ∀ (k : Nat) (l : Array Bool), k < K → 4 * K + k ∈ Region.ready .any ops l → l.getD (3 * K + k) false = true ∧ l.getD (3 * k + 2) false = true)
    (hal : ∀ (k : Nat) (U V : Nat → Value) (w : World) (H : Act → World → Prop), k < K → H (A (upd U k (.pointer (some ⟨w.heap.size, 0, none⟩))) V) (w.alloc (Obj.cells #[Value.bool false, Value.slice none 0 0] t)) → wpOp P ops Q (3 * K + k) H (A U V) w)
    (hcl : ∀ (k : Nat) (U V : Nat → Value) (w : World) (H : Act → World → Prop), k < K → Below w0.heap.size w0 w →
      (∀ (z : Int) (s : Bool) (a : Option Addr) (n c : Nat) (w' : World), IsN w' s a n z → n ≤ 6 → (n = 0 ∨ Fresh w a) → Below w.heap.size w w' → H (A U (upd V k (.agg #[.bool s, .slice a n c]))) w') → wpOp P ops Q (3 * k + 2) H (A U V) w)
    (hst : ∀ (k : Nat) (U V : Nat → Value) (w : World) (H : Act → World → Prop) (B : Nat) (s : Bool) (a : Option Addr) (n c : Nat), k < K → U k = .pointer (some ⟨B, 0, none⟩) → V k = .agg #[.bool s, .slice a n c] → (∃ v0 v1, Box2 w B v0 v1) →
      H (A U V) ((w.setCell ⟨B, 0, none⟩ (.bool s)).setCell ⟨B, 1, none⟩ (.slice a n c)) → wpOp P ops Q (4 * K + k) H (A U V) w)
    (hend : ∀ U V B s a n c z w, Fan K w0 (fun _ => true) (fun _ => true) (fun _ => true) U V B s a n c z w → Q .normal (A U V) w)
    (U V : Nat → Value) (l : Array Bool) (fuel : Nat) (hl : l.size = 5 * K) (hbase : ∀ k, k < K → l.getD (3 * k) false = true ∧ l.getD (3 * k + 1) false = true) (hfuel : l.toList.count false ≤ fuel)
    (hfree : ∀ k, k < K → l.getD (3 * k + 2) false = false ∧ l.getD (3 * K + k) false = false ∧ l.getD (4 * K + k) false = false) :
    wpAnyH P .any ops Q (fun w => Below w0.heap.size w0 w) fuel l (A U V) w0 := by
  refine wpAnyH_inv (I := fun l x w => l.size = 5 * K ∧ (∀ k, k < K → l.getD (3 * k) false = true ∧ l.getD (3 * k + 1) false = true) ∧ ∃ U V B s a n c z, x = A U V ∧
      Fan K w0 (fun k => l.getD (3 * K + k) false) (fun k => l.getD (3 * k + 2) false) (fun k => l.getD (4 * K + k) false) U V B s a n c z w)
    (fun l x w h => h.1.trans hsize.symm) (fun l x w h => by obtain ⟨-, -, U, V, B, s, a, n, c, z, -, hf⟩ := h; exact hf.below) ?_ ?_ fuel l _ _ hfuel ⟨hl, hbase, U, V, fun _ => 0, fun _ => false, fun _ => none, fun _ => 0, fun _ => 0, fun _ => 0, rfl, Fan.start K w0 _ _ _ _ _ _ _ _ (fun k hk => (hfree k hk).2.1) (fun k hk => (hfree k hk).1) (fun k hk => (hfree k hk).2.2)⟩
  · rintro l x w ⟨hls, hbs, U, V, B, s, a, n, c, z, rfl, hF⟩ i hi
    obtain ⟨h0, o, ho, -⟩ := mem_ready.1 hi
    have hilt : i < 5 * K := by rw [← hsize]; exact (Array.getElem?_eq_some_iff.1 ho).1
    have hsz' : (l.setIfInBounds i true).size = 5 * K := by simpa using hls
    have hbs' : ∀ k, k < K → (l.setIfInBounds i true).getD (3 * k) false = true ∧ (l.setIfInBounds i true).getD (3 * k + 1) false = true := fun k hk => ⟨getD_set_true (hbs k hk).1, getD_set_true (hbs k hk).2⟩
    have hset : ∀ (j : Nat), j ≠ i → (l.setIfInBounds i true).getD j false = l.getD j false := fun j hj => getD_set_ne false (Ne.symm hj)
    by_cases h3 : i < 3 * K
    · obtain ⟨k, hk, e⟩ : ∃ k, k < K ∧ (i = 3 * k ∨ i = 3 * k + 1 ∨ i = 3 * k + 2) := ⟨i / 3, by omega, by omega⟩
      have hil : i < l.size := by omega
      rcases e with rfl | rfl | rfl
      · rw [getD_flip hil true false, (hbs k hk).1] at h0; cases h0
      · rw [getD_flip hil true false, (hbs k hk).2] at h0; cases h0
      · have hlc : l.getD (3 * k + 2) false = false := by rw [getD_flip hil false true]; exact h0
        refine hcl k U V w _ hk hF.below fun z' s' a' n' c' w' hN h6 hf hg => ⟨hsz', hbs', _, _, _, _, _, _, _, _, rfl, (hF.call hk hlc hN h6 hf hg).congr (fun j hj => hset _ (by omega)) (fun j hj => ?_) (fun j hj => hset _ (by omega))⟩
        by_cases ej : j = k
        · subst ej; rw [upd_same]; exact getD_set_same h0 false
        · rw [upd_ne _ _ ej]; exact hset _ (by omega)
    · by_cases h4 : i < 4 * K
      · obtain ⟨k, hk, rfl⟩ : ∃ k, k < K ∧ i = 3 * K + k := ⟨i - 3 * K, by omega, by omega⟩
        have hil : 3 * K + k < l.size := by omega
        have hla : l.getD (3 * K + k) false = false := by rw [getD_flip hil false true]; exact h0
        refine hal k U V w _ hk ⟨hsz', hbs', _, _, _, _, _, _, _, _, rfl, (hF.alloc hk hla t).congr (fun j hj => ?_) (fun j hj => hset _ (by omega)) (fun j hj => hset _ (by omega))⟩
        by_cases ej : j = k
        · subst ej; rw [upd_same]; exact getD_set_same h0 false
        · rw [upd_ne _ _ ej]; exact hset _ (by omega)
      · obtain ⟨k, hk, rfl⟩ : ∃ k, k < K ∧ i = 4 * K + k := ⟨i - 4 * K, by omega, by omega⟩
        obtain ⟨hla, hlc⟩ := hdep k l hk hi
        refine hst k U V w _ (B k) (s k) (a k) (n k) (c k) hk (hF.var k hk hla).1 (hF.num k hk hlc).1 (hF.box hk hla) ⟨hsz', hbs', _, _, _, _, _, _, _, _, rfl, (hF.store hk hla hlc).congr (fun j hj => hset _ (by omega)) (fun j hj => hset _ (by omega)) (fun j hj => ?_)⟩
        by_cases ej : j = k
        · subst ej; rw [upd_same]; exact getD_set_same h0 false
        · rw [upd_ne _ _ ej]; exact hset _ (by omega)
  · rintro l x w ⟨hls, hbs, U, V, B, s, a, n, c, z, rfl, hF⟩ hr
    have hall := all_listed htopo hr
    have hT : ∀ i, i < 5 * K → l.getD i false = true := fun i hi => by rw [getD_flip (by omega) false true]; exact hall i (by omega)
    exact hend U V B s a n c z w (hF.congr (fun k hk => (hT _ (by omega)).symm) (fun k hk => (hT _ (by omega)).symm) (fun k hk => (hT _ (by omega)).symm))
theorem topo_of {ops : Array Oper} (h : (ops.toList.zipIdx.all fun p => p.1.after.all fun e => decide (e.on < p.2)) = true) : ∀ (i : Nat) (o : Oper), ops[i]? = some o → ∀ e ∈ o.after, e.on < i := fun i o ho e he => by
  rw [List.all_eq_true] at h
  have h1 := h (o, i) (by rw [List.mem_zipIdx_iff_getElem?]; simpa using ho)
  rw [Array.all_eq_true'] at h1
  simpa using h1 e he
def depB (K : Nat) (ops : Array Oper) : Bool := (List.range K).all fun k => match ops[4 * K + k]? with
  | some o => (o.after.any fun e => Region.binds .any e && e.on == 3 * K + k) && (o.after.any fun e => Region.binds .any e && e.on == 3 * k + 2)
  | none => false
theorem dep_of {K : Nat} {ops : Array Oper} (h : depB K ops = true) : ∀ (k : Nat) (l : Array Bool), k < K → 4 * K + k ∈ Region.ready .any ops l → l.getD (3 * K + k) false = true ∧ l.getD (3 * k + 2) false = true := fun k l hk hr => by
  unfold depB at h
  rw [List.all_eq_true] at h
  have h1 := h k (by simpa using hk)
  obtain ⟨-, o, ho, hall⟩ := mem_ready.1 hr
  rw [ho] at h1
  simp only [Bool.and_eq_true, Array.any_eq_true'] at h1
  obtain ⟨⟨e, he, hb⟩, f, hf, hc⟩ := h1
  simp only [beq_iff_eq] at hb hc
  exact ⟨by rw [← hb.2]; exact hall e he hb.1, by rw [← hc.2]; exact hall f hf hc.1⟩
end Go.Proofs.YtmpdeiopdempcaaGreatDoor
