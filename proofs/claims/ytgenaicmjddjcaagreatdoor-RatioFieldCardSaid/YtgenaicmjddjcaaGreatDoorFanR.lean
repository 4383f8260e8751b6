/- A region that sets up variables with the fractions that calls hand back, in whatever order. It speaks of no program. -/
import Derived.Test.YtgenaicmjddjcaaGreatDoorPRf
import Derived.Test.YtgenaicmjddjcaaGreatDoorRaE
namespace Go.Proofs.YtgenaicmjddjcaaGreatDoor
open Go.RowKit Go.Shelf

def GoodR (PP : Rat → Prop) (w : World) (v : Value) : Prop :=
 ∃ (s1 : Bool) (a1 : Option Addr) (n1 c1 : Nat) (s2 : Bool) (a2 : Option Addr) (n2 c2 : Nat) (x : Rat), v = .agg #[.bool s1, .slice a1 n1 c1, .bool s2, .slice a2 n2 c2] ∧ RArg w s1 a1 n1 s2 a2 n2 (some x) ∧ PP x
def QuadA (w : World) (b : Nat) : Prop :=
 ∃ (s1 : Bool) (a1 : Option Addr) (n1 c1 : Nat) (s2 : Bool) (a2 : Option Addr) (n2 c2 : Nat), Quad w b (.bool s1) (.slice a1 n1 c1) (.bool s2) (.slice a2 n2 c2)
def QuadV (w : World) (b : Nat) (v : Value) : Prop :=
 ∃ (s1 : Bool) (a1 : Option Addr) (n1 c1 : Nat) (s2 : Bool) (a2 : Option Addr) (n2 c2 : Nat), v = .agg #[.bool s1, .slice a1 n1 c1, .bool s2, .slice a2 n2 c2] ∧ Quad w b (.bool s1) (.slice a1 n1 c1) (.bool s2) (.slice a2 n2 c2)
theorem GoodR.below {PP : Rat → Prop} {w w' : World} {v : Value} (h : GoodR PP w v) (t : Below w.heap.size w w') : GoodR PP w' v := by
 obtain ⟨s1, a1, n1, c1, s2, a2, n2, c2, x, e, hr, hp⟩ := h
 exact ⟨s1, a1, n1, c1, s2, a2, n2, c2, x, e, hr.below t, hp⟩
theorem QuadA.lt {w : World} {b : Nat} (h : QuadA w b) : b < w.heap.size := by
 obtain ⟨s1, a1, n1, c1, s2, a2, n2, c2, q⟩ := h; exact q.lt
theorem QuadA.below {w w' : World} {b : Nat} (h : QuadA w b) (t : Below w.heap.size w w') : QuadA w' b := by
 obtain ⟨s1, a1, n1, c1, s2, a2, n2, c2, q⟩ := h; exact ⟨s1, a1, n1, c1, s2, a2, n2, c2, q.below t⟩
theorem QuadV.below {w w' : World} {b : Nat} {v : Value} (h : QuadV w b v) (t : Below w.heap.size w w') : QuadV w' b v := by
 obtain ⟨s1, a1, n1, c1, s2, a2, n2, c2, e, q⟩ := h; exact ⟨s1, a1, n1, c1, s2, a2, n2, c2, e, q.below t⟩
theorem GoodR.quad {PP : Rat → Prop} {w W : World} {v : Value} {B : Nat} (h : GoodR PP w v) (q : QuadA w B) (t : Touch B 0 4 w W) : GoodR PP W v := by
 obtain ⟨s1, a1, n1, c1, s2, a2, n2, c2, x, e, hr, hp⟩ := h
 obtain ⟨t1, b1, m1, d1, t2, b2, m2, d2, q⟩ := q
 exact ⟨s1, a1, n1, c1, s2, a2, n2, c2, x, e, hr.quad q.four t, hp⟩
theorem QuadA.touch {w W : World} {b B : Nat} (h : QuadA w b) (hne : b ≠ B) (t : Touch B 0 4 w W) : QuadA W b := by
 obtain ⟨s1, a1, n1, c1, s2, a2, n2, c2, q⟩ := h; exact ⟨s1, a1, n1, c1, s2, a2, n2, c2, q.touch hne t⟩
theorem QuadV.touch {w W : World} {b B : Nat} {v : Value} (h : QuadV w b v) (hne : b ≠ B) (t : Touch B 0 4 w W) : QuadV W b v := by
 obtain ⟨s1, a1, n1, c1, s2, a2, n2, c2, e, q⟩ := h; exact ⟨s1, a1, n1, c1, s2, a2, n2, c2, e, q.touch hne t⟩
theorem QuadA.set {w W : World} {B : Nat} {s1 : Bool} {a1 : Option Addr} {n1 c1 : Nat} {s2 : Bool} {a2 : Option Addr} {n2 c2 : Nat} (h : QuadA w B)
 (hW : (((w.setCell ⟨B, 0, none⟩ (.bool s1)).setCell ⟨B, 1, none⟩ (.slice a1 n1 c1)).setCell ⟨B, 2, none⟩ (.bool s2)).setCell ⟨B, 3, none⟩ (.slice a2 n2 c2) = W) : QuadV W B (.agg #[.bool s1, .slice a1 n1 c1, .bool s2, .slice a2 n2 c2]) ∧ Touch B 0 4 w W := by
 obtain ⟨t1, b1, m1, d1, t2, b2, m2, d2, q⟩ := h
 obtain ⟨q1, t⟩ := q.set _ _ _ _ hW
 exact ⟨⟨s1, a1, n1, c1, s2, a2, n2, c2, rfl, q1⟩, t⟩
theorem QuadV.any {w : World} {b : Nat} {v : Value} (h : QuadV w b v) : QuadA w b := by
 obtain ⟨s1, a1, n1, c1, s2, a2, n2, c2, _, q⟩ := h; exact ⟨s1, a1, n1, c1, s2, a2, n2, c2, q⟩

structure FanR (PP : Rat → Prop) (K : Nat) (w0 : World) (la lc ls : Nat → Bool) (U V : Nat → Value) (B : Nat → Nat) (w : World) : Prop where
 below : Below w0.heap.size w0 w
 var : ∀ k, k < K → la k = true → U k = .pointer (some ⟨B k, 0, none⟩) ∧ w0.heap.size ≤ B k ∧ QuadA w (B k)
 box1 : ∀ k, k < K → ls k = true → QuadV w (B k) (V k)
 apart : ∀ j k, j < K → k < K → j ≠ k → la j = true → la k = true → B j ≠ B k
 num : ∀ k, k < K → lc k = true → GoodR PP w (V k)
 ord : ∀ k, k < K → ls k = true → la k = true ∧ lc k = true
theorem FanR.start (PP : Rat → Prop) (K : Nat) (w0 : World) (U V : Nat → Value) (B : Nat → Nat) {la lc ls : Nat → Bool} (ha : ∀ k, k < K → la k = false) (hc : ∀ k, k < K → lc k = false) (hs : ∀ k, k < K → ls k = false) : FanR PP K w0 la lc ls U V B w0 where
 below := Below.refl _ _
 var k hk h := by rw [ha k hk] at h; cases h
 box1 k hk h := by rw [hs k hk] at h; cases h
 apart j k hj hk _ h := by rw [ha j hj] at h; cases h
 num k hk h := by rw [hc k hk] at h; cases h
 ord k hk h := by rw [hs k hk] at h; cases h
theorem FanR.congr {PP : Rat → Prop} {K : Nat} {w0 w : World} {la lc ls la' lc' ls' : Nat → Bool} {U V : Nat → Value} {B : Nat → Nat} (h : FanR PP K w0 la lc ls U V B w)
 (ea : ∀ k, k < K → la' k = la k) (ec : ∀ k, k < K → lc' k = lc k) (es : ∀ k, k < K → ls' k = ls k) : FanR PP K w0 la' lc' ls' U V B w where
 below := h.below
 var k hk h' := h.var k hk (by rw [← ea k hk]; exact h')
 box1 k hk h' := h.box1 k hk (by rw [← es k hk]; exact h')
 apart j k hj hk hne h1 h2 := h.apart j k hj hk hne (by rw [← ea j hj]; exact h1) (by rw [← ea k hk]; exact h2)
 num k hk h' := h.num k hk (by rw [← ec k hk]; exact h')
 ord k hk h' := by rw [ea k hk, ec k hk]; exact h.ord k hk (by rw [← es k hk]; exact h')
theorem FanR.alloc {PP : Rat → Prop} {K : Nat} {w0 w : World} {la lc ls : Nat → Bool} {U V : Nat → Value} {B : Nat → Nat} (h : FanR PP K w0 la lc ls U V B w) {k : Nat} (hk : k < K) (hla : la k = false) (t : TypeId) :
 FanR PP K w0 (upd la k true) lc ls (upd U k (.pointer (some ⟨w.heap.size, 0, none⟩))) V (upd B k w.heap.size) (w.alloc (Obj.cells #[.bool false, .slice none 0 0, .bool false, .slice none 0 0] t)) := by
 have hg := below_alloc' w (Obj.cells #[.bool false, .slice none 0 0, .bool false, .slice none 0 0] t)
 have hls : ls k = false := by
  cases hs : ls k with
  | false => rfl
  | true => rw [(h.ord k hk hs).1] at hla; cases hla
 have hold : ∀ j, j ≠ k → upd la k true j = true → la j = true := fun j hj e => by rwa [upd_ne _ _ hj] at e
 refine { below := h.below.trans (hg.mono h.below.size), var := fun j hj e => ?_, box1 := fun j hj e => ?_, apart := fun i j hi hj hne e1 e2 => ?_, num := fun j hj e => (h.num j hj e).below hg, ord := fun j hj e => ?_ }
 · by_cases ej : j = k
   · subst ej; rw [upd_same, upd_same]; exact ⟨rfl, h.below.size, false, none, 0, 0, false, none, 0, 0, Quad.new _ _ _ _ _ _⟩
   · rw [upd_ne _ _ ej, upd_ne _ _ ej]
     obtain ⟨h1, h2, h3⟩ := h.var j hj (hold j ej e)
     exact ⟨h1, h2, h3.below hg⟩
 · have ej : j ≠ k := fun ej => by subst ej; rw [hls] at e; cases e
   rw [upd_ne _ _ ej]; exact (h.box1 j hj e).below hg
 · by_cases ei : i = k
   · subst ei
     rw [upd_same, upd_ne _ _ (Ne.symm hne)]
     have := (h.var j hj (hold j (Ne.symm hne) e2)).2.2.lt; omega
   · rw [upd_ne _ _ ei]
     by_cases ej : j = k
     · subst ej; rw [upd_same]; have := (h.var i hi (hold i ei e1)).2.2.lt; omega
     · rw [upd_ne _ _ ej]; exact h.apart i j hi hj hne (hold i ei e1) (hold j ej e2)
 · obtain ⟨h1, h2⟩ := h.ord j hj e
   refine ⟨?_, h2⟩
   by_cases ej : j = k
   · rw [upd_eq _ _ ej]
   · rw [upd_ne _ _ ej]; exact h1
theorem FanR.call {PP : Rat → Prop} {K : Nat} {w0 w w' : World} {la lc ls : Nat → Bool} {U V : Nat → Value} {B : Nat → Nat} (h : FanR PP K w0 la lc ls U V B w) {k : Nat} (hk : k < K) (hlc : lc k = false)
 {v : Value} (hv : GoodR PP w' v) (hg : Below w.heap.size w w') :
 FanR PP K w0 la (upd lc k true) ls U (upd V k v) B w' := by
 have hls : ls k = false := by
  cases hs : ls k with
  | false => rfl
  | true => rw [(h.ord k hk hs).2] at hlc; cases hlc
 refine { below := h.below.trans (hg.mono h.below.size), var := fun j hj e => ?_, box1 := fun j hj e => ?_, apart := h.apart, num := fun j hj e => ?_, ord := fun j hj e => ?_ }
 · obtain ⟨h1, h2, h3⟩ := h.var j hj e
   exact ⟨h1, h2, h3.below hg⟩
 · have ej : j ≠ k := fun ej => by subst ej; rw [hls] at e; cases e
   rw [upd_ne _ _ ej]; exact (h.box1 j hj e).below hg
 · by_cases ej : j = k
   · subst ej; rw [upd_same]; exact hv
   · rw [upd_ne _ _ ej] at e ⊢; exact (h.num j hj e).below hg
 · obtain ⟨h1, h2⟩ := h.ord j hj e
   refine ⟨h1, ?_⟩
   by_cases ej : j = k
   · rw [upd_eq _ _ ej]
   · rw [upd_ne _ _ ej]; exact h2
theorem FanR.store {PP : Rat → Prop} {K : Nat} {w0 w : World} {la lc ls : Nat → Bool} {U V : Nat → Value} {B : Nat → Nat} (h : FanR PP K w0 la lc ls U V B w) {k : Nat} (hk : k < K) (hla : la k = true) (hlc : lc k = true)
 {s1 : Bool} {a1 : Option Addr} {n1 c1 : Nat} {s2 : Bool} {a2 : Option Addr} {n2 c2 : Nat} (hv : V k = .agg #[.bool s1, .slice a1 n1 c1, .bool s2, .slice a2 n2 c2]) {W : World}
 (hW : (((w.setCell ⟨B k, 0, none⟩ (.bool s1)).setCell ⟨B k, 1, none⟩ (.slice a1 n1 c1)).setCell ⟨B k, 2, none⟩ (.bool s2)).setCell ⟨B k, 3, none⟩ (.slice a2 n2 c2) = W) :
 FanR PP K w0 la lc (upd ls k true) U V B W := by
 obtain ⟨hu, hb, hq⟩ := h.var k hk hla
 obtain ⟨hn, ht⟩ := hq.set hW
 have hg : Below w0.heap.size w W := ht.below hb h.below.size
 refine { below := h.below.trans hg, var := fun j hj e => ?_, box1 := fun j hj e => ?_, apart := h.apart, num := fun j hj e => (h.num j hj e).quad hq ht, ord := fun j hj e => ?_ }
 · obtain ⟨h1, h2, h3⟩ := h.var j hj e
   by_cases ej : j = k
   · subst ej; exact ⟨h1, h2, hn.any⟩
   · exact ⟨h1, h2, h3.touch (h.apart j k hj hk ej e hla) ht⟩
 · by_cases ej : j = k
   · subst ej; rw [hv]; exact hn
   · rw [upd_ne _ _ ej] at e
     exact (h.box1 j hj e).touch (h.apart j k hj hk ej (h.ord j hj e).1 hla) ht
 · by_cases ej : j = k
   · subst ej; exact ⟨hla, hlc⟩
   · rw [upd_ne _ _ ej] at e; exact h.ord j hj e

theorem fanR {P : Program} {ops : Array Oper} {Q : Exit → Act → World → Prop} (PP : Rat → Prop) (K : Nat) (t : TypeId) (A : (Nat → Value) → (Nat → Value) → Act) (w0 : World) (hsize : ops.size = 5 * K)
 (htopo : ∀ (i : Nat) (o : Oper), ops[i]? = some o → ∀ e ∈ o.after, e.on < i)
 (hdep : ∀ (k : Nat) (l : Array Bool), k < K → 4 * K + k ∈ Region.ready .any ops l → l.getD (3 * K + k) false = true ∧ l.getD (3 * k + 2) false = true)
 (hal : ∀ (k : Nat) (U V : Nat → Value) (w : World) (H : Act → World → Prop), k < K → H (A (upd U k (.pointer (some ⟨w.heap.size, 0, none⟩))) V) (w.alloc (Obj.cells #[.bool false, .slice none 0 0, .bool false, .slice none 0 0] t)) → wpOp P ops Q (3 * K + k) H (A U V) w)
 (hcl : ∀ (k : Nat) (U V : Nat → Value) (w : World) (H : Act → World → Prop), k < K → Below w0.heap.size w0 w →
   (∀ (v : Value) (w' : World), GoodR PP w' v → Below w.heap.size w w' → H (A U (upd V k v)) w') → wpOp P ops Q (3 * k + 2) H (A U V) w)
 (hst : ∀ (k : Nat) (U V : Nat → Value) (w : World) (H : Act → World → Prop) (B : Nat) (s1 : Bool) (a1 : Option Addr) (n1 c1 : Nat) (s2 : Bool) (a2 : Option Addr) (n2 c2 : Nat), k < K → U k = .pointer (some ⟨B, 0, none⟩) → V k = .agg #[.bool s1, .slice a1 n1 c1, .bool s2, .slice a2 n2 c2] → QuadA w B →
   H (A U V) ((((w.setCell ⟨B, 0, none⟩ (.bool s1)).setCell ⟨B, 1, none⟩ (.slice a1 n1 c1)).setCell ⟨B, 2, none⟩ (.bool s2)).setCell ⟨B, 3, none⟩ (.slice a2 n2 c2)) → wpOp P ops Q (4 * K + k) H (A U V) w)
 (hend : ∀ U V B w, FanR PP K w0 (fun _ => true) (fun _ => true) (fun _ => true) U V B w → Q .normal (A U V) w)
 (U V : Nat → Value) (l : Array Bool) (fuel : Nat) (hl : l.size = 5 * K) (hbase : ∀ k, k < K → l.getD (3 * k) false = true ∧ l.getD (3 * k + 1) false = true) (hfuel : l.toList.count false ≤ fuel)
 (hfree : ∀ k, k < K → l.getD (3 * k + 2) false = false ∧ l.getD (3 * K + k) false = false ∧ l.getD (4 * K + k) false = false) :
 wpAnyH P .any ops Q (fun w => Below w0.heap.size w0 w) fuel l (A U V) w0 := by
 refine wpAnyH_inv (I := fun l x w => l.size = 5 * K ∧ (∀ k, k < K → l.getD (3 * k) false = true ∧ l.getD (3 * k + 1) false = true) ∧ ∃ U V B, x = A U V ∧
  FanR PP K w0 (fun k => l.getD (3 * K + k) false) (fun k => l.getD (3 * k + 2) false) (fun k => l.getD (4 * K + k) false) U V B w)
  (fun l x w h => h.1.trans hsize.symm) (fun l x w h => by obtain ⟨-, -, U, V, B, -, hf⟩ := h; exact hf.below) ?_ ?_ fuel l _ _ hfuel ⟨hl, hbase, U, V, fun _ => 0, rfl, FanR.start PP K w0 _ _ _ (fun k hk => (hfree k hk).2.1) (fun k hk => (hfree k hk).1) (fun k hk => (hfree k hk).2.2)⟩
 · rintro l x w ⟨hls, hbs, U, V, B, rfl, hF⟩ i hi
   obtain ⟨h0, o, ho, -⟩ := mem_ready.1 hi
   have hilt : i < 5 * K := by rw [← hsize]; exact (Array.getElem?_eq_some_iff.1 ho).1
   have hsz' : (l.setIfInBounds i true).size = 5 * K := by simpa using hls
   have hbs' : ∀ k, k < K → (l.setIfInBounds i true).getD (3 * k) false = true ∧ (l.setIfInBounds i true).getD (3 * k + 1) false = true := fun k hk => ⟨getD_set_true (hbs k hk).1, getD_set_true (hbs k hk).2⟩
   have hset : ∀ (j : Nat), j ≠ i → (l.setIfInBounds i true).getD j false = l.getD j false := fun j hj => getD_set_ne false (Ne.symm hj)
   by_cases h3 : i < 3 * K
   · obtain ⟨k, hk, e⟩ : ∃ k, k < K ∧ (i = 3 * k ∨ i = 3 * k + 1 ∨ i = 3 * k + 2) := ⟨i / 3, by omega, by omega⟩
     have hil : i < l.size := by omega
     rcases e with rfl | rfl | rfl
     · rw [getD_flip hil true false, (hbs k hk).1] at h0; cases h0
     · rw [getD_flip hil true false, (hbs k hk).2] at h0; cases h0
     · have hlc : l.getD (3 * k + 2) false = false := by rw [getD_flip hil false true]; exact h0
       refine hcl k U V w _ hk hF.below fun v w' hv hg => ⟨hsz', hbs', _, _, _, rfl, (hF.call hk hlc hv hg).congr (fun j hj => hset _ (by omega)) (fun j hj => ?_) (fun j hj => hset _ (by omega))⟩
       by_cases ej : j = k
       · subst ej; rw [upd_same]; exact getD_set_same h0 false
       · rw [upd_ne _ _ ej]; exact hset _ (by omega)
   · by_cases h4 : i < 4 * K
     · obtain ⟨k, hk, rfl⟩ : ∃ k, k < K ∧ i = 3 * K + k := ⟨i - 3 * K, by omega, by omega⟩
       have hil : 3 * K + k < l.size := by omega
       have hla : l.getD (3 * K + k) false = false := by rw [getD_flip hil false true]; exact h0
       refine hal k U V w _ hk ⟨hsz', hbs', _, _, _, rfl, (hF.alloc hk hla t).congr (fun j hj => ?_) (fun j hj => hset _ (by omega)) (fun j hj => hset _ (by omega))⟩
       by_cases ej : j = k
       · subst ej; rw [upd_same]; exact getD_set_same h0 false
       · rw [upd_ne _ _ ej]; exact hset _ (by omega)
     · obtain ⟨k, hk, rfl⟩ : ∃ k, k < K ∧ i = 4 * K + k := ⟨i - 4 * K, by omega, by omega⟩
       obtain ⟨hla, hlc⟩ := hdep k l hk hi
       obtain ⟨s1, a1, n1, c1, s2, a2, n2, c2, x, hv, -, -⟩ := hF.num k hk hlc
       refine hst k U V w _ (B k) s1 a1 n1 c1 s2 a2 n2 c2 hk (hF.var k hk hla).1 hv (hF.var k hk hla).2.2 ⟨hsz', hbs', _, _, _, rfl, (hF.store hk hla hlc hv rfl).congr (fun j hj => hset _ (by omega)) (fun j hj => hset _ (by omega)) (fun j hj => ?_)⟩
       by_cases ej : j = k
       · subst ej; rw [upd_same]; exact getD_set_same h0 false
       · rw [upd_ne _ _ ej]; exact hset _ (by omega)
 · rintro l x w ⟨hls, hbs, U, V, B, rfl, hF⟩ hr
   have hall := all_listed htopo hr
   have hT : ∀ i, i < 5 * K → l.getD i false = true := fun i hi => by rw [getD_flip (by omega) false true]; exact hall i (by omega)
   exact hend U V B w (hF.congr (fun k hk => (hT _ (by omega)).symm) (fun k hk => (hT _ (by omega)).symm) (fun k hk => (hT _ (by omega)).symm))
theorem FanR.held {PP : Rat → Prop} {K : Nat} {w0 w : World} {U V : Nat → Value} {B : Nat → Nat} (h : FanR PP K w0 (fun _ => true) (fun _ => true) (fun _ => true) U V B w) {k : Nat} (hk : k < K) :
 ∃ (b : Nat) (s1 : Bool) (a1 : Option Addr) (n1 c1 : Nat) (s2 : Bool) (a2 : Option Addr) (n2 c2 : Nat) (x : Rat), U k = .pointer (some ⟨b, 0, none⟩) ∧ V k = .agg #[.bool s1, .slice a1 n1 c1, .bool s2, .slice a2 n2 c2] ∧ HeldR w b s1 a1 n1 c1 s2 a2 n2 c2 (some x) ∧ PP x ∧ w0.heap.size ≤ b := by
 obtain ⟨s1, a1, n1, c1, s2, a2, n2, c2, x, hv, hr, hp⟩ := h.num k hk rfl
 obtain ⟨t1, b1, m1, d1, t2, b2, m2, d2, hv2, hq⟩ := h.box1 k hk rfl
 rw [hv] at hv2
 simp only [Value.agg.injEq] at hv2
 have e := hv2
 simp at e
 obtain ⟨rfl, ⟨rfl, rfl, rfl⟩, rfl, rfl, rfl, rfl⟩ := e
 exact ⟨B k, s1, a1, n1, c1, s2, a2, n2, c2, x, (h.var k hk rfl).1, hv, ⟨hq, hr⟩, hp, (h.var k hk rfl).2.1⟩
end Go.Proofs.YtgenaicmjddjcaaGreatDoor
