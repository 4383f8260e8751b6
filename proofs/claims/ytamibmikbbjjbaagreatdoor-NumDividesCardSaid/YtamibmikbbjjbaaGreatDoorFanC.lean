/- Regions that set up variables with what calls hand back, the capacity kept. It speaks of no program. -/
import Derived.Test.YtamibmikbbjjbaaGreatDoorPRf
namespace Go.Proofs.YtamibmikbbjjbaaGreatDoor
open Go.RowKit Go.Shelf

/-- digits of any Num in a slice that has room for them -/
def DigsC (w : World) (a : Option Addr) (n c : Nat) : Prop := Digs w a n ∧ n ≤ c
theorem DigsC.below {w w' : World} {a : Option Addr} {n c : Nat} (h : DigsC w a n c) (t : Below w.heap.size w w') : DigsC w' a n c := ⟨h.1.below t, h.2⟩
theorem DigsC.old {w : World} {a : Option Addr} {n c g : Nat} (h : DigsC w a n c) (hg : w.heap.size ≤ g) : n = 0 ∨ ∀ ad, a = some ad → ad.block ≠ g := h.1.old hg
theorem DigsC.set2 {w : World} {a : Option Addr} {n c B : Nat} {u0 u1 : Value} (h : DigsC w a n c) (hb : Box2 w B u0 u1) (v0 v1 : Value) (hne : n = 0 ∨ ∀ ad, a = some ad → ad.block ≠ B) : DigsC ((w.setCell ⟨B, 0, none⟩ v0).setCell ⟨B, 1, none⟩ v1) a n c := ⟨h.1.set2 hb v0 v1 hne, h.2⟩

/-- what is known of the variables U and the Nums V -/
structure FanC (K : Nat) (w0 : World) (la lc ls : Nat → Bool) (U V : Nat → Value) (B : Nat → Nat) (s : Nat → Bool) (a : Nat → Option Addr) (n c : Nat → Nat) (z : Nat → Int) (w : World) : Prop where
  below : Below w0.heap.size w0 w
  var : ∀ k, k < K → la k = true → U k = .pointer (some ⟨B k, 0, none⟩) ∧ w0.heap.size ≤ B k
  box0 : ∀ k, k < K → la k = true → ls k = false → Box2 w (B k) (.bool false) (.slice none 0 0)
  box1 : ∀ k, k < K → la k = true → ls k = true → Box2 w (B k) (.bool (s k)) (.slice (a k) (n k) (c k))
  apart : ∀ j k, j < K → k < K → j ≠ k → la j = true → la k = true → B j ≠ B k
  num : ∀ k, k < K → lc k = true → V k = .agg #[.bool (s k), .slice (a k) (n k) (c k)] ∧ IsN w (s k) (a k) (n k) (z k) ∧ n k ≤ min 6 (c k) ∧ (n k = 0 ∨ Fresh w0 (a k))
  off : ∀ j k, j < K → k < K → lc j = true → la k = true → n j = 0 ∨ ∀ ad, a j = some ad → ad.block ≠ B k
  ord : ∀ k, k < K → ls k = true → la k = true ∧ lc k = true
theorem FanC.box {K : Nat} {w0 w : World} {la lc ls : Nat → Bool} {U V : Nat → Value} {B : Nat → Nat} {s : Nat → Bool} {a : Nat → Option Addr} {n c : Nat → Nat} {z : Nat → Int} (h : FanC K w0 la lc ls U V B s a n c z w) {k : Nat} (hk : k < K) (ha : la k = true) : ∃ v0 v1, Box2 w (B k) v0 v1 := by
  cases hs : ls k with
  | false => exact ⟨_, _, h.box0 k hk ha hs⟩
  | true => exact ⟨_, _, h.box1 k hk ha hs⟩
theorem FanC.lt {K : Nat} {w0 w : World} {la lc ls : Nat → Bool} {U V : Nat → Value} {B : Nat → Nat} {s : Nat → Bool} {a : Nat → Option Addr} {n c : Nat → Nat} {z : Nat → Int} (h : FanC K w0 la lc ls U V B s a n c z w) {k : Nat} (hk : k < K) (ha : la k = true) : B k < w.heap.size := by
  obtain ⟨_, _, hb⟩ := h.box hk ha
  exact hb.lt
theorem FanC.start (K : Nat) (w0 : World) (U V : Nat → Value) (B : Nat → Nat) (s : Nat → Bool) (a : Nat → Option Addr) (n c : Nat → Nat) (z : Nat → Int) {la lc ls : Nat → Bool} (ha : ∀ k, k < K → la k = false) (hc : ∀ k, k < K → lc k = false) (hs : ∀ k, k < K → ls k = false) : FanC K w0 la lc ls U V B s a n c z w0 where
  below := Below.refl _ _
  var k hk h := by rw [ha k hk] at h; cases h
  box0 k hk h := by rw [ha k hk] at h; cases h
  box1 k hk h := by rw [ha k hk] at h; cases h
  apart j k hj hk _ h := by rw [ha j hj] at h; cases h
  num k hk h := by rw [hc k hk] at h; cases h
  off j k hj hk h := by rw [hc j hj] at h; cases h
  ord k hk h := by rw [hs k hk] at h; cases h
theorem FanC.congr {K : Nat} {w0 w : World} {la lc ls la' lc' ls' : Nat → Bool} {U V : Nat → Value} {B : Nat → Nat} {s : Nat → Bool} {a : Nat → Option Addr} {n c : Nat → Nat} {z : Nat → Int} (h : FanC K w0 la lc ls U V B s a n c z w)
    (ea : ∀ k, k < K → la' k = la k) (ec : ∀ k, k < K → lc' k = lc k) (es : ∀ k, k < K → ls' k = ls k) : FanC K w0 la' lc' ls' U V B s a n c z w where
  below := h.below
  var k hk h' := h.var k hk (by rw [← ea k hk]; exact h')
  box0 k hk h' h'' := h.box0 k hk (by rw [← ea k hk]; exact h') (by rw [← es k hk]; exact h'')
  box1 k hk h' h'' := h.box1 k hk (by rw [← ea k hk]; exact h') (by rw [← es k hk]; exact h'')
  apart j k hj hk hne h1 h2 := h.apart j k hj hk hne (by rw [← ea j hj]; exact h1) (by rw [← ea k hk]; exact h2)
  num k hk h' := h.num k hk (by rw [← ec k hk]; exact h')
  off j k hj hk h1 h2 := h.off j k hj hk (by rw [← ec j hj]; exact h1) (by rw [← ea k hk]; exact h2)
  ord k hk h' := by rw [ea k hk, ec k hk]; exact h.ord k hk (by rw [← es k hk]; exact h')
theorem FanC.alloc {K : Nat} {w0 w : World} {la lc ls : Nat → Bool} {U V : Nat → Value} {B : Nat → Nat} {s : Nat → Bool} {a : Nat → Option Addr} {n c : Nat → Nat} {z : Nat → Int} (h : FanC K w0 la lc ls U V B s a n c z w) {k : Nat} (hk : k < K) (hla : la k = false) (t : TypeId) :
    FanC K w0 (upd la k true) lc ls (upd U k (.pointer (some ⟨w.heap.size, 0, none⟩))) V (upd B k w.heap.size) s a n c z (w.alloc (Obj.cells #[Value.bool false, Value.slice none 0 0] t)) := by
  have hg := below_alloc' w (Obj.cells #[Value.bool false, Value.slice none 0 0] t)
  have hls : ls k = false := by
    cases hs : ls k with
    | false => rfl
    | true => rw [(h.ord k hk hs).1] at hla; cases hla
  have hold : ∀ j, j ≠ k → upd la k true j = true → la j = true := fun j hj e => by rwa [upd_ne _ _ hj] at e
  refine { below := h.below.trans (hg.mono h.below.size), var := fun j hj e => ?_, box0 := fun j hj e e' => ?_, box1 := fun j hj e e' => ?_, apart := fun i j hi hj hne e1 e2 => ?_, num := fun j hj e => ?_, off := fun i j hi hj e1 e2 => ?_, ord := fun j hj e => ?_ }
  · by_cases ej : j = k
    · subst ej; rw [upd_same, upd_same]; exact ⟨rfl, h.below.size⟩
    · rw [upd_ne _ _ ej, upd_ne _ _ ej]; exact h.var j hj (hold j ej e)
  · by_cases ej : j = k
    · subst ej; rw [upd_same]; exact Box2.new _ _ _ _
    · rw [upd_ne _ _ ej]; have := h.box0 j hj (hold j ej e) e'; exact this.below hg this.lt
  · by_cases ej : j = k
    · subst ej; rw [hls] at e'; cases e'
    · rw [upd_ne _ _ ej]; have := h.box1 j hj (hold j ej e) e'; exact this.below hg this.lt
  · by_cases ei : i = k
    · subst ei
      rw [upd_same, upd_ne _ _ (Ne.symm hne)]
      have := h.lt hj (hold j (Ne.symm hne) e2); omega
    · rw [upd_ne _ _ ei]
      by_cases ej : j = k
      · subst ej; rw [upd_same]; have := h.lt hi (hold i ei e1); omega
      · rw [upd_ne _ _ ej]; exact h.apart i j hi hj hne (hold i ei e1) (hold j ej e2)
  · obtain ⟨h1, h2, h3, h4⟩ := h.num j hj e
    exact ⟨h1, h2.below hg, h3, h4⟩
  · by_cases ej : j = k
    · subst ej; rw [upd_same]; exact (h.num i hi e1).2.1.old (Nat.le_refl _)
    · rw [upd_ne _ _ ej]; exact h.off i j hi hj e1 (hold j ej e2)
  · obtain ⟨h1, h2⟩ := h.ord j hj e
    refine ⟨?_, h2⟩
    by_cases ej : j = k
    · rw [upd_eq _ _ ej]
    · rw [upd_ne _ _ ej]; exact h1
theorem FanC.call {K : Nat} {w0 w w' : World} {la lc ls : Nat → Bool} {U V : Nat → Value} {B : Nat → Nat} {s : Nat → Bool} {a : Nat → Option Addr} {n c : Nat → Nat} {z : Nat → Int} (h : FanC K w0 la lc ls U V B s a n c z w) {k : Nat} (hk : k < K) (hlc : lc k = false)
    {s' : Bool} {a' : Option Addr} {n' c' : Nat} {z' : Int} (hN : IsN w' s' a' n' z') (h6 : n' ≤ min 6 c') (hf : n' = 0 ∨ Fresh w a') (hg : Below w.heap.size w w') :
    FanC K w0 la (upd lc k true) ls U (upd V k (.agg #[.bool s', .slice a' n' c'])) B (upd s k s') (upd a k a') (upd n k n') (upd c k c') (upd z k z') w' := by
  have hls : ls k = false := by
    cases hs : ls k with
    | false => rfl
    | true => rw [(h.ord k hk hs).2] at hlc; cases hlc
  have hold : ∀ j, j ≠ k → upd lc k true j = true → lc j = true := fun j hj e => by rwa [upd_ne _ _ hj] at e
  refine { below := h.below.trans (hg.mono h.below.size), var := h.var, box0 := fun j hj e e' => ?_, box1 := fun j hj e e' => ?_, apart := h.apart, num := fun j hj e => ?_, off := fun i j hi hj e1 e2 => ?_, ord := fun j hj e => ?_ }
  · have := h.box0 j hj e e'; exact this.below hg this.lt
  · have ej : j ≠ k := fun ej => by subst ej; rw [hls] at e'; cases e'
    rw [upd_ne _ _ ej, upd_ne _ _ ej, upd_ne _ _ ej, upd_ne _ _ ej]
    have := h.box1 j hj e e'; exact this.below hg this.lt
  · by_cases ej : j = k
    · subst ej
      rw [upd_same, upd_same, upd_same, upd_same, upd_same, upd_same]
      exact ⟨rfl, hN, h6, hf.imp id fun hf ad e => Nat.le_trans h.below.size (hf ad e)⟩
    · rw [upd_ne _ _ ej, upd_ne _ _ ej, upd_ne _ _ ej, upd_ne _ _ ej, upd_ne _ _ ej, upd_ne _ _ ej]
      obtain ⟨h1, h2, h3, h4⟩ := h.num j hj (hold j ej e)
      exact ⟨h1, h2.below hg, h3, h4⟩
  · by_cases ei : i = k
    · subst ei
      rw [upd_same, upd_same]
      have := h.lt hj e2
      exact hf.imp id fun hf ad e => by have := hf ad e; omega
    · rw [upd_ne _ _ ei, upd_ne _ _ ei]; exact h.off i j hi hj (hold i ei e1) e2
  · obtain ⟨h1, h2⟩ := h.ord j hj e
    refine ⟨h1, ?_⟩
    by_cases ej : j = k
    · rw [upd_eq _ _ ej]
    · rw [upd_ne _ _ ej]; exact h2
theorem FanC.store {K : Nat} {w0 w : World} {la lc ls : Nat → Bool} {U V : Nat → Value} {B : Nat → Nat} {s : Nat → Bool} {a : Nat → Option Addr} {n c : Nat → Nat} {z : Nat → Int} (h : FanC K w0 la lc ls U V B s a n c z w) {k : Nat} (hk : k < K) (hla : la k = true) (hlc : lc k = true) :
    FanC K w0 la lc (upd ls k true) U V B s a n c z ((w.setCell ⟨B k, 0, none⟩ (.bool (s k))).setCell ⟨B k, 1, none⟩ (.slice (a k) (n k) (c k))) := by
  obtain ⟨v0, v1, hb⟩ := h.box hk hla
  have hold : ∀ j, j ≠ k → upd ls k true j = ls j := fun j hj => upd_ne _ _ hj
  refine { below := below_set2 h.below (h.var k hk hla).2 _ _, var := h.var, box0 := fun j hj e e' => ?_, box1 := fun j hj e e' => ?_, apart := h.apart, num := fun j hj e => ?_, off := h.off, ord := fun j hj e => ?_ }
  · have ej : j ≠ k := fun ej => by subst ej; rw [upd_same] at e'; cases e'
    rw [hold j ej] at e'
    exact (h.box0 j hj e e').other _ _ (h.apart j k hj hk ej e hla)
  · by_cases ej : j = k
    · subst ej; exact hb.set _ _
    · rw [hold j ej] at e'
      exact (h.box1 j hj e e').other _ _ (h.apart j k hj hk ej e hla)
  · obtain ⟨h1, h2, h3, h4⟩ := h.num j hj e
    exact ⟨h1, h2.set2 hb _ _ (h.off j k hj hk e hla), h3, h4⟩
  · by_cases ej : j = k
    · subst ej; exact ⟨hla, hlc⟩
    · rw [hold j ej] at e; exact h.ord j hj e

/-- THE REGION: K times an address, a load, a call; then K variables, then K stores -/
theorem fanC {P : Program} {ops : Array Oper} {Q : Exit → Act → World → Prop} (K : Nat) (t : TypeId) (A : (Nat → Value) → (Nat → Value) → Act) (w0 : World) (hsize : ops.size = 5 * K)
    (htopo : ∀ (i : Nat) (o : Oper), ops[i]? = some o → ∀ e ∈ o.after, e.on < i)
    (hdep : ∀ (k : Nat) (l : Array Bool), k < K → 4 * K + k ∈ Region.ready .any ops l → l.getD (3 * K + k) false = true ∧ l.getD (3 * k + 2) false = true)
    (hal : ∀ (k : Nat) (U V : Nat → Value) (w : World) (H : Act → World → Prop), k < K → H (A (upd U k (.pointer (some ⟨w.heap.size, 0, none⟩))) V) (w.alloc (Obj.cells #[Value.bool false, Value.slice none 0 0] t)) → wpOp P ops Q (3 * K + k) H (A U V) w)
    (hcl : ∀ (k : Nat) (U V : Nat → Value) (w : World) (H : Act → World → Prop), k < K → Below w0.heap.size w0 w →
      (∀ (z : Int) (s : Bool) (a : Option Addr) (n c : Nat) (w' : World), IsN w' s a n z → n ≤ min 6 c → (n = 0 ∨ Fresh w a) → Below w.heap.size w w' → H (A U (upd V k (.agg #[.bool s, .slice a n c]))) w') → wpOp P ops Q (3 * k + 2) H (A U V) w)
    (hst : ∀ (k : Nat) (U V : Nat → Value) (w : World) (H : Act → World → Prop) (B : Nat) (s : Bool) (a : Option Addr) (n c : Nat), k < K → U k = .pointer (some ⟨B, 0, none⟩) → V k = .agg #[.bool s, .slice a n c] → (∃ v0 v1, Box2 w B v0 v1) →
      H (A U V) ((w.setCell ⟨B, 0, none⟩ (.bool s)).setCell ⟨B, 1, none⟩ (.slice a n c)) → wpOp P ops Q (4 * K + k) H (A U V) w)
    (hend : ∀ U V B s a n c z w, FanC K w0 (fun _ => true) (fun _ => true) (fun _ => true) U V B s a n c z w → Q .normal (A U V) w)
    (U V : Nat → Value) (l : Array Bool) (fuel : Nat) (hl : l.size = 5 * K) (hbase : ∀ k, k < K → l.getD (3 * k) false = true ∧ l.getD (3 * k + 1) false = true) (hfuel : l.toList.count false ≤ fuel)
    (hfree : ∀ k, k < K → l.getD (3 * k + 2) false = false ∧ l.getD (3 * K + k) false = false ∧ l.getD (4 * K + k) false = false) :
    wpAnyH P .any ops Q (fun w => Below w0.heap.size w0 w) fuel l (A U V) w0 := by
  refine wpAnyH_inv (I := fun l x w => l.size = 5 * K ∧ (∀ k, k < K → l.getD (3 * k) false = true ∧ l.getD (3 * k + 1) false = true) ∧ ∃ U V B s a n c z, x = A U V ∧
      FanC K w0 (fun k => l.getD (3 * K + k) false) (fun k => l.getD (3 * k + 2) false) (fun k => l.getD (4 * K + k) false) U V B s a n c z w)
    (fun l x w h => h.1.trans hsize.symm) (fun l x w h => by obtain ⟨-, -, U, V, B, s, a, n, c, z, -, hf⟩ := h; exact hf.below) ?_ ?_ fuel l _ _ hfuel ⟨hl, hbase, U, V, fun _ => 0, fun _ => false, fun _ => none, fun _ => 0, fun _ => 0, fun _ => 0, rfl, FanC.start K w0 _ _ _ _ _ _ _ _ (fun k hk => (hfree k hk).2.1) (fun k hk => (hfree k hk).1) (fun k hk => (hfree k hk).2.2)⟩
  · rintro l x w ⟨hls, hbs, U, V, B, s, a, n, c, z, rfl, hF⟩ i hi
    obtain ⟨h0, o, ho, -⟩ := mem_ready.1 hi
    have hilt : i < 5 * K := by rw [← hsize]; exact (Array.getElem?_eq_some_iff.1 ho).1
    have hsz' : (l.setIfInBounds i true).size = 5 * K := by simpa using hls
    have hbs' : ∀ k, k < K → (l.setIfInBounds i true).getD (3 * k) false = true ∧ (l.setIfInBounds i true).getD (3 * k + 1) false = true := fun k hk => ⟨getD_set_true (hbs k hk).1, getD_set_true (hbs k hk).2⟩
    have hset : ∀ (j : Nat), j ≠ i → (l.setIfInBounds i true).getD j false = l.getD j false := fun j hj => getD_set_ne false (Ne.symm hj)
    by_cases h3 : i < 3 * K
    · obtain ⟨k, hk, e⟩ : ∃ k, k < K ∧ (i = 3 * k ∨ i = 3 * k + 1 ∨ i = 3 * k + 2) := ⟨i / 3, by omega, by omega⟩
      have hil : i < l.size := by omega
      rcases e with rfl | rfl | rfl
      · rw [getD_flip hil true false, (hbs k hk).1] at h0; cases h0
      · rw [getD_flip hil true false, (hbs k hk).2] at h0; cases h0
      · have hlc : l.getD (3 * k + 2) false = false := by rw [getD_flip hil false true]; exact h0
        refine hcl k U V w _ hk hF.below fun z' s' a' n' c' w' hN h6 hf hg => ⟨hsz', hbs', _, _, _, _, _, _, _, _, rfl, (hF.call hk hlc hN h6 hf hg).congr (fun j hj => hset _ (by omega)) (fun j hj => ?_) (fun j hj => hset _ (by omega))⟩
        by_cases ej : j = k
        · subst ej; rw [upd_same]; exact getD_set_same h0 false
        · rw [upd_ne _ _ ej]; exact hset _ (by omega)
    · by_cases h4 : i < 4 * K
      · obtain ⟨k, hk, rfl⟩ : ∃ k, k < K ∧ i = 3 * K + k := ⟨i - 3 * K, by omega, by omega⟩
        have hil : 3 * K + k < l.size := by omega
        have hla : l.getD (3 * K + k) false = false := by rw [getD_flip hil false true]; exact h0
        refine hal k U V w _ hk ⟨hsz', hbs', _, _, _, _, _, _, _, _, rfl, (hF.alloc hk hla t).congr (fun j hj => ?_) (fun j hj => hset _ (by omega)) (fun j hj => hset _ (by omega))⟩
        by_cases ej : j = k
        · subst ej; rw [upd_same]; exact getD_set_same h0 false
        · rw [upd_ne _ _ ej]; exact hset _ (by omega)
      · obtain ⟨k, hk, rfl⟩ : ∃ k, k < K ∧ i = 4 * K + k := ⟨i - 4 * K, by omega, by omega⟩
        obtain ⟨hla, hlc⟩ := hdep k l hk hi
        refine hst k U V w _ (B k) (s k) (a k) (n k) (c k) hk (hF.var k hk hla).1 (hF.num k hk hlc).1 (hF.box hk hla) ⟨hsz', hbs', _, _, _, _, _, _, _, _, rfl, (hF.store hk hla hlc).congr (fun j hj => hset _ (by omega)) (fun j hj => hset _ (by omega)) (fun j hj => ?_)⟩
        by_cases ej : j = k
        · subst ej; rw [upd_same]; exact getD_set_same h0 false
        · rw [upd_ne _ _ ej]; exact hset _ (by omega)
  · rintro l x w ⟨hls, hbs, U, V, B, s, a, n, c, z, rfl, hF⟩ hr
    have hall := all_listed htopo hr
    have hT : ∀ i, i < 5 * K → l.getD i false = true := fun i hi => by rw [getD_flip (by omega) false true]; exact hall i (by omega)
    exact hend U V B s a n c z w (hF.congr (fun k hk => (hT _ (by omega)).symm) (fun k hk => (hT _ (by omega)).symm) (fun k hk => (hT _ (by omega)).symm))

/-- what is known of the variables U and the Nums V -/
structure FanE (K : Nat) (w0 : World) (la lc ls : Nat → Bool) (U V : Nat → Value) (B : Nat → Nat) (s : Nat → Bool) (a : Nat → Option Addr) (n c : Nat → Nat) (w : World) : Prop where
  below : Below w0.heap.size w0 w
  var : ∀ k, k < K → la k = true → U k = .pointer (some ⟨B k, 0, none⟩) ∧ w0.heap.size ≤ B k
  box0 : ∀ k, k < K → la k = true → ls k = false → Box2 w (B k) (.bool false) (.slice none 0 0)
  box1 : ∀ k, k < K → la k = true → ls k = true → Box2 w (B k) (.bool (s k)) (.slice (a k) (n k) (c k))
  apart : ∀ j k, j < K → k < K → j ≠ k → la j = true → la k = true → B j ≠ B k
  num : ∀ k, k < K → lc k = true → V k = .agg #[.bool (s k), .slice (a k) (n k) (c k)] ∧ DigsC w (a k) (n k) (c k)
  off : ∀ j k, j < K → k < K → lc j = true → la k = true → n j = 0 ∨ ∀ ad, a j = some ad → ad.block ≠ B k
  ord : ∀ k, k < K → ls k = true → la k = true ∧ lc k = true
theorem FanE.box {K : Nat} {w0 w : World} {la lc ls : Nat → Bool} {U V : Nat → Value} {B : Nat → Nat} {s : Nat → Bool} {a : Nat → Option Addr} {n c : Nat → Nat} (h : FanE K w0 la lc ls U V B s a n c w) {k : Nat} (hk : k < K) (ha : la k = true) : ∃ v0 v1, Box2 w (B k) v0 v1 := by
  cases hs : ls k with
  | false => exact ⟨_, _, h.box0 k hk ha hs⟩
  | true => exact ⟨_, _, h.box1 k hk ha hs⟩
theorem FanE.lt {K : Nat} {w0 w : World} {la lc ls : Nat → Bool} {U V : Nat → Value} {B : Nat → Nat} {s : Nat → Bool} {a : Nat → Option Addr} {n c : Nat → Nat} (h : FanE K w0 la lc ls U V B s a n c w) {k : Nat} (hk : k < K) (ha : la k = true) : B k < w.heap.size := by
  obtain ⟨_, _, hb⟩ := h.box hk ha
  exact hb.lt
theorem FanE.start (K : Nat) (w0 : World) (U V : Nat → Value) (B : Nat → Nat) (s : Nat → Bool) (a : Nat → Option Addr) (n c : Nat → Nat) {la lc ls : Nat → Bool} (ha : ∀ k, k < K → la k = false) (hc : ∀ k, k < K → lc k = false) (hs : ∀ k, k < K → ls k = false) : FanE K w0 la lc ls U V B s a n c w0 where
  below := Below.refl _ _
  var k hk h := by rw [ha k hk] at h; cases h
  box0 k hk h := by rw [ha k hk] at h; cases h
  box1 k hk h := by rw [ha k hk] at h; cases h
  apart j k hj hk _ h := by rw [ha j hj] at h; cases h
  num k hk h := by rw [hc k hk] at h; cases h
  off j k hj hk h := by rw [hc j hj] at h; cases h
  ord k hk h := by rw [hs k hk] at h; cases h
theorem FanE.congr {K : Nat} {w0 w : World} {la lc ls la' lc' ls' : Nat → Bool} {U V : Nat → Value} {B : Nat → Nat} {s : Nat → Bool} {a : Nat → Option Addr} {n c : Nat → Nat} (h : FanE K w0 la lc ls U V B s a n c w)
    (ea : ∀ k, k < K → la' k = la k) (ec : ∀ k, k < K → lc' k = lc k) (es : ∀ k, k < K → ls' k = ls k) : FanE K w0 la' lc' ls' U V B s a n c w where
  below := h.below
  var k hk h' := h.var k hk (by rw [← ea k hk]; exact h')
  box0 k hk h' h'' := h.box0 k hk (by rw [← ea k hk]; exact h') (by rw [← es k hk]; exact h'')
  box1 k hk h' h'' := h.box1 k hk (by rw [← ea k hk]; exact h') (by rw [← es k hk]; exact h'')
  apart j k hj hk hne h1 h2 := h.apart j k hj hk hne (by rw [← ea j hj]; exact h1) (by rw [← ea k hk]; exact h2)
  num k hk h' := h.num k hk (by rw [← ec k hk]; exact h')
  off j k hj hk h1 h2 := h.off j k hj hk (by rw [← ec j hj]; exact h1) (by rw [← ea k hk]; exact h2)
  ord k hk h' := by rw [ea k hk, ec k hk]; exact h.ord k hk (by rw [← es k hk]; exact h')
theorem FanE.alloc {K : Nat} {w0 w : World} {la lc ls : Nat → Bool} {U V : Nat → Value} {B : Nat → Nat} {s : Nat → Bool} {a : Nat → Option Addr} {n c : Nat → Nat} (h : FanE K w0 la lc ls U V B s a n c w) {k : Nat} (hk : k < K) (hla : la k = false) (t : TypeId) :
    FanE K w0 (upd la k true) lc ls (upd U k (.pointer (some ⟨w.heap.size, 0, none⟩))) V (upd B k w.heap.size) s a n c (w.alloc (Obj.cells #[Value.bool false, Value.slice none 0 0] t)) := by
  have hg := below_alloc' w (Obj.cells #[Value.bool false, Value.slice none 0 0] t)
  have hls : ls k = false := by
    cases hs : ls k with
    | false => rfl
    | true => rw [(h.ord k hk hs).1] at hla; cases hla
  have hold : ∀ j, j ≠ k → upd la k true j = true → la j = true := fun j hj e => by rwa [upd_ne _ _ hj] at e
  refine { below := h.below.trans (hg.mono h.below.size), var := fun j hj e => ?_, box0 := fun j hj e e' => ?_, box1 := fun j hj e e' => ?_, apart := fun i j hi hj hne e1 e2 => ?_, num := fun j hj e => ?_, off := fun i j hi hj e1 e2 => ?_, ord := fun j hj e => ?_ }
  · by_cases ej : j = k
    · subst ej; rw [upd_same, upd_same]; exact ⟨rfl, h.below.size⟩
    · rw [upd_ne _ _ ej, upd_ne _ _ ej]; exact h.var j hj (hold j ej e)
  · by_cases ej : j = k
    · subst ej; rw [upd_same]; exact Box2.new _ _ _ _
    · rw [upd_ne _ _ ej]; have := h.box0 j hj (hold j ej e) e'; exact this.below hg this.lt
  · by_cases ej : j = k
    · subst ej; rw [hls] at e'; cases e'
    · rw [upd_ne _ _ ej]; have := h.box1 j hj (hold j ej e) e'; exact this.below hg this.lt
  · by_cases ei : i = k
    · subst ei
      rw [upd_same, upd_ne _ _ (Ne.symm hne)]
      have := h.lt hj (hold j (Ne.symm hne) e2); omega
    · rw [upd_ne _ _ ei]
      by_cases ej : j = k
      · subst ej; rw [upd_same]; have := h.lt hi (hold i ei e1); omega
      · rw [upd_ne _ _ ej]; exact h.apart i j hi hj hne (hold i ei e1) (hold j ej e2)
  · obtain ⟨h1, h2⟩ := h.num j hj e
    exact ⟨h1, h2.below hg⟩
  · by_cases ej : j = k
    · subst ej; rw [upd_same]; exact (h.num i hi e1).2.old (Nat.le_refl _)
    · rw [upd_ne _ _ ej]; exact h.off i j hi hj e1 (hold j ej e2)
  · obtain ⟨h1, h2⟩ := h.ord j hj e
    refine ⟨?_, h2⟩
    by_cases ej : j = k
    · rw [upd_eq _ _ ej]
    · rw [upd_ne _ _ ej]; exact h1
theorem FanE.call {K : Nat} {w0 w w' : World} {la lc ls : Nat → Bool} {U V : Nat → Value} {B : Nat → Nat} {s : Nat → Bool} {a : Nat → Option Addr} {n c : Nat → Nat} (h : FanE K w0 la lc ls U V B s a n c w) {k : Nat} (hk : k < K) (hlc : lc k = false)
    {s' : Bool} {a' : Option Addr} {n' c' : Nat} (hN : DigsC w' a' n' c') (hf : n' = 0 ∨ Fresh w a' ∨ ∀ ad, a' = some ad → ad.block < w0.heap.size) (hg : Below w.heap.size w w') :
    FanE K w0 la (upd lc k true) ls U (upd V k (.agg #[.bool s', .slice a' n' c'])) B (upd s k s') (upd a k a') (upd n k n') (upd c k c') w' := by
  have hls : ls k = false := by
    cases hs : ls k with
    | false => rfl
    | true => rw [(h.ord k hk hs).2] at hlc; cases hlc
  have hold : ∀ j, j ≠ k → upd lc k true j = true → lc j = true := fun j hj e => by rwa [upd_ne _ _ hj] at e
  refine { below := h.below.trans (hg.mono h.below.size), var := h.var, box0 := fun j hj e e' => ?_, box1 := fun j hj e e' => ?_, apart := h.apart, num := fun j hj e => ?_, off := fun i j hi hj e1 e2 => ?_, ord := fun j hj e => ?_ }
  · have := h.box0 j hj e e'; exact this.below hg this.lt
  · have ej : j ≠ k := fun ej => by subst ej; rw [hls] at e'; cases e'
    rw [upd_ne _ _ ej, upd_ne _ _ ej, upd_ne _ _ ej, upd_ne _ _ ej]
    have := h.box1 j hj e e'; exact this.below hg this.lt
  · by_cases ej : j = k
    · subst ej
      rw [upd_same, upd_same, upd_same, upd_same, upd_same]
      exact ⟨rfl, hN⟩
    · rw [upd_ne _ _ ej, upd_ne _ _ ej, upd_ne _ _ ej, upd_ne _ _ ej, upd_ne _ _ ej]
      obtain ⟨h1, h2⟩ := h.num j hj (hold j ej e)
      exact ⟨h1, h2.below hg⟩
  · by_cases ei : i = k
    · subst ei
      rw [upd_same, upd_same]
      have h1 := h.lt hj e2
      have h2 := (h.var j hj e2).2
      exact hf.imp id fun hf ad e => by
        rcases hf with hf | hf
        · have := hf ad e; omega
        · have := hf ad e; omega
    · rw [upd_ne _ _ ei, upd_ne _ _ ei]; exact h.off i j hi hj (hold i ei e1) e2
  · obtain ⟨h1, h2⟩ := h.ord j hj e
    refine ⟨h1, ?_⟩
    by_cases ej : j = k
    · rw [upd_eq _ _ ej]
    · rw [upd_ne _ _ ej]; exact h2
theorem FanE.store {K : Nat} {w0 w : World} {la lc ls : Nat → Bool} {U V : Nat → Value} {B : Nat → Nat} {s : Nat → Bool} {a : Nat → Option Addr} {n c : Nat → Nat} (h : FanE K w0 la lc ls U V B s a n c w) {k : Nat} (hk : k < K) (hla : la k = true) (hlc : lc k = true) :
    FanE K w0 la lc (upd ls k true) U V B s a n c ((w.setCell ⟨B k, 0, none⟩ (.bool (s k))).setCell ⟨B k, 1, none⟩ (.slice (a k) (n k) (c k))) := by
  obtain ⟨v0, v1, hb⟩ := h.box hk hla
  have hold : ∀ j, j ≠ k → upd ls k true j = ls j := fun j hj => upd_ne _ _ hj
  refine { below := below_set2 h.below (h.var k hk hla).2 _ _, var := h.var, box0 := fun j hj e e' => ?_, box1 := fun j hj e e' => ?_, apart := h.apart, num := fun j hj e => ?_, off := h.off, ord := fun j hj e => ?_ }
  · have ej : j ≠ k := fun ej => by subst ej; rw [upd_same] at e'; cases e'
    rw [hold j ej] at e'
    exact (h.box0 j hj e e').other _ _ (h.apart j k hj hk ej e hla)
  · by_cases ej : j = k
    · subst ej; exact hb.set _ _
    · rw [hold j ej] at e'
      exact (h.box1 j hj e e').other _ _ (h.apart j k hj hk ej e hla)
  · obtain ⟨h1, h2⟩ := h.num j hj e
    exact ⟨h1, h2.set2 hb _ _ (h.off j k hj hk e hla)⟩
  · by_cases ej : j = k
    · subst ej; exact ⟨hla, hlc⟩
    · rw [hold j ej] at e; exact h.ord j hj e

/-- THE REGION: K times an address, a load, a call; then K variables, then K stores -/
theorem fanE {P : Program} {ops : Array Oper} {Q : Exit → Act → World → Prop} (K : Nat) (t : TypeId) (A : (Nat → Value) → (Nat → Value) → Act) (w0 : World) (hsize : ops.size = 5 * K)
    (htopo : ∀ (i : Nat) (o : Oper), ops[i]? = some o → ∀ e ∈ o.after, e.on < i)
    (hdep : ∀ (k : Nat) (l : Array Bool), k < K → 4 * K + k ∈ Region.ready .any ops l → l.getD (3 * K + k) false = true ∧ l.getD (3 * k + 2) false = true)
    (hal : ∀ (k : Nat) (U V : Nat → Value) (w : World) (H : Act → World → Prop), k < K → H (A (upd U k (.pointer (some ⟨w.heap.size, 0, none⟩))) V) (w.alloc (Obj.cells #[Value.bool false, Value.slice none 0 0] t)) → wpOp P ops Q (3 * K + k) H (A U V) w)
    (hcl : ∀ (k : Nat) (U V : Nat → Value) (w : World) (H : Act → World → Prop), k < K → Below w0.heap.size w0 w →
      (∀ (s : Bool) (a : Option Addr) (n c : Nat) (w' : World), DigsC w' a n c → (n = 0 ∨ Fresh w a ∨ ∀ ad, a = some ad → ad.block < w0.heap.size) → Below w.heap.size w w' → H (A U (upd V k (.agg #[.bool s, .slice a n c]))) w') → wpOp P ops Q (3 * k + 2) H (A U V) w)
    (hst : ∀ (k : Nat) (U V : Nat → Value) (w : World) (H : Act → World → Prop) (B : Nat) (s : Bool) (a : Option Addr) (n c : Nat), k < K → U k = .pointer (some ⟨B, 0, none⟩) → V k = .agg #[.bool s, .slice a n c] → (∃ v0 v1, Box2 w B v0 v1) →
      H (A U V) ((w.setCell ⟨B, 0, none⟩ (.bool s)).setCell ⟨B, 1, none⟩ (.slice a n c)) → wpOp P ops Q (4 * K + k) H (A U V) w)
    (hend : ∀ U V B s a n c w, FanE K w0 (fun _ => true) (fun _ => true) (fun _ => true) U V B s a n c w → Q .normal (A U V) w)
    (U V : Nat → Value) (l : Array Bool) (fuel : Nat) (hl : l.size = 5 * K) (hbase : ∀ k, k < K → l.getD (3 * k) false = true ∧ l.getD (3 * k + 1) false = true) (hfuel : l.toList.count false ≤ fuel)
    (hfree : ∀ k, k < K → l.getD (3 * k + 2) false = false ∧ l.getD (3 * K + k) false = false ∧ l.getD (4 * K + k) false = false) :
    wpAnyH P .any ops Q (fun w => Below w0.heap.size w0 w) fuel l (A U V) w0 := by
  refine wpAnyH_inv (I := fun l x w => l.size = 5 * K ∧ (∀ k, k < K → l.getD (3 * k) false = true ∧ l.getD (3 * k + 1) false = true) ∧ ∃ U V B s a n c, x = A U V ∧
      FanE K w0 (fun k => l.getD (3 * K + k) false) (fun k => l.getD (3 * k + 2) false) (fun k => l.getD (4 * K + k) false) U V B s a n c w)
    (fun l x w h => h.1.trans hsize.symm) (fun l x w h => by obtain ⟨-, -, U, V, B, s, a, n, c, -, hf⟩ := h; exact hf.below) ?_ ?_ fuel l _ _ hfuel ⟨hl, hbase, U, V, fun _ => 0, fun _ => false, fun _ => none, fun _ => 0, fun _ => 0, rfl, FanE.start K w0 _ _ _ _ _ _ _ (fun k hk => (hfree k hk).2.1) (fun k hk => (hfree k hk).1) (fun k hk => (hfree k hk).2.2)⟩
  · rintro l x w ⟨hls, hbs, U, V, B, s, a, n, c, rfl, hF⟩ i hi
    obtain ⟨h0, o, ho, -⟩ := mem_ready.1 hi
    have hilt : i < 5 * K := by rw [← hsize]; exact (Array.getElem?_eq_some_iff.1 ho).1
    have hsz' : (l.setIfInBounds i true).size = 5 * K := by simpa using hls
    have hbs' : ∀ k, k < K → (l.setIfInBounds i true).getD (3 * k) false = true ∧ (l.setIfInBounds i true).getD (3 * k + 1) false = true := fun k hk => ⟨getD_set_true (hbs k hk).1, getD_set_true (hbs k hk).2⟩
    have hset : ∀ (j : Nat), j ≠ i → (l.setIfInBounds i true).getD j false = l.getD j false := fun j hj => getD_set_ne false (Ne.symm hj)
    by_cases h3 : i < 3 * K
    · obtain ⟨k, hk, e⟩ : ∃ k, k < K ∧ (i = 3 * k ∨ i = 3 * k + 1 ∨ i = 3 * k + 2) := ⟨i / 3, by omega, by omega⟩
      have hil : i < l.size := by omega
      rcases e with rfl | rfl | rfl
      · rw [getD_flip hil true false, (hbs k hk).1] at h0; cases h0
      · rw [getD_flip hil true false, (hbs k hk).2] at h0; cases h0
      · have hlc : l.getD (3 * k + 2) false = false := by rw [getD_flip hil false true]; exact h0
        refine hcl k U V w _ hk hF.below fun s' a' n' c' w' hN hf hg => ⟨hsz', hbs', _, _, _, _, _, _, _, rfl, (hF.call hk hlc hN hf hg).congr (fun j hj => hset _ (by omega)) (fun j hj => ?_) (fun j hj => hset _ (by omega))⟩
        by_cases ej : j = k
        · subst ej; rw [upd_same]; exact getD_set_same h0 false
        · rw [upd_ne _ _ ej]; exact hset _ (by omega)
    · by_cases h4 : i < 4 * K
      · obtain ⟨k, hk, rfl⟩ : ∃ k, k < K ∧ i = 3 * K + k := ⟨i - 3 * K, by omega, by omega⟩
        have hil : 3 * K + k < l.size := by omega
        have hla : l.getD (3 * K + k) false = false := by rw [getD_flip hil false true]; exact h0
        refine hal k U V w _ hk ⟨hsz', hbs', _, _, _, _, _, _, _, rfl, (hF.alloc hk hla t).congr (fun j hj => ?_) (fun j hj => hset _ (by omega)) (fun j hj => hset _ (by omega))⟩
        by_cases ej : j = k
        · subst ej; rw [upd_same]; exact getD_set_same h0 false
        · rw [upd_ne _ _ ej]; exact hset _ (by omega)
      · obtain ⟨k, hk, rfl⟩ : ∃ k, k < K ∧ i = 4 * K + k := ⟨i - 4 * K, by omega, by omega⟩
        obtain ⟨hla, hlc⟩ := hdep k l hk hi
        refine hst k U V w _ (B k) (s k) (a k) (n k) (c k) hk (hF.var k hk hla).1 (hF.num k hk hlc).1 (hF.box hk hla) ⟨hsz', hbs', _, _, _, _, _, _, _, rfl, (hF.store hk hla hlc).congr (fun j hj => hset _ (by omega)) (fun j hj => hset _ (by omega)) (fun j hj => ?_)⟩
        by_cases ej : j = k
        · subst ej; rw [upd_same]; exact getD_set_same h0 false
        · rw [upd_ne _ _ ej]; exact hset _ (by omega)
  · rintro l x w ⟨hls, hbs, U, V, B, s, a, n, c, rfl, hF⟩ hr
    have hall := all_listed htopo hr
    have hT : ∀ i, i < 5 * K → l.getD i false = true := fun i hi => by rw [getD_flip (by omega) false true]; exact hall i (by omega)
    exact hend U V B s a n c w (hF.congr (fun k hk => (hT _ (by omega)).symm) (fun k hk => (hT _ (by omega)).symm) (fun k hk => (hT _ (by omega)).symm))

theorem FanC.held2 {K : Nat} {w0 w : World} {U V : Nat → Value} {B : Nat → Nat} {s : Nat → Bool} {a : Nat → Option Addr} {n c : Nat → Nat} {z : Nat → Int} (h : FanC K w0 (fun _ => true) (fun _ => true) (fun _ => true) U V B s a n c z w) {k : Nat} (hk : k < K) :
    ∃ (b : Nat) (s' : Bool) (a' : Option Addr) (n' c' : Nat), U k = .pointer (some ⟨b, 0, none⟩) ∧ HD w b s' a' n' c' ∧ n' ≤ min 6 c' ∧ w0.heap.size ≤ b :=
  ⟨B k, s k, a k, n k, c k, (h.var k hk rfl).1, ⟨h.box1 k hk rfl rfl, (h.num k hk rfl).2.1.digs (by have := (h.num k hk rfl).2.2.1; omega)⟩, (h.num k hk rfl).2.2.1, (h.var k hk rfl).2⟩
theorem FanE.held {K : Nat} {w0 w : World} {U V : Nat → Value} {B : Nat → Nat} {s : Nat → Bool} {a : Nat → Option Addr} {n c : Nat → Nat} (h : FanE K w0 (fun _ => true) (fun _ => true) (fun _ => true) U V B s a n c w) {k : Nat} (hk : k < K) :
    ∃ (b : Nat) (s' : Bool) (a' : Option Addr) (n' c' : Nat), U k = .pointer (some ⟨b, 0, none⟩) ∧ HD w b s' a' n' c' ∧ n' ≤ c' ∧ w0.heap.size ≤ b :=
  ⟨B k, s k, a k, n k, c k, (h.var k hk rfl).1, ⟨h.box1 k hk rfl rfl, (h.num k hk rfl).2.1⟩, (h.num k hk rfl).2.2, (h.var k hk rfl).2⟩
end Go.Proofs.YtamibmikbbjjbaaGreatDoor
