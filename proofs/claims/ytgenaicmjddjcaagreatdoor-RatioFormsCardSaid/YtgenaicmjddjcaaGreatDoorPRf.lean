/- Several texts in one. -/
import Derived.Test.YtgenaicmjddjcaaGreatDoorPRef
import Derived.Test.YtgenaicmjddjcaaGreatDoorPNumC
import Derived.Test.YtgenaicmjddjcaaGreatDoorPNumB
import Derived.BigQuiet
import Derived.Deep.QuietTactic
import Derived.Laws.OwnMore
/- Any Num as an argument, and what a call hands back that may find no right Num. -/
namespace Go.Proofs.YtgenaicmjddjcaaGreatDoor
open Go.RowKit Go.Shelf

def Arg (w : World) (s : Bool) (a : Option Addr) (n : Nat) : Option Int → Prop
 | some z => IsN w s a n z ∧ n ≤ 64
 | none => ∃ f, Dig w a n f ∧ n ≤ 140737488355328 ∧ rightB s n f = false
theorem Arg.below {w w' : World} {s : Bool} {a : Option Addr} {n : Nat} {o : Option Int} (h : Arg w s a n o) (t : Below w.heap.size w w') : Arg w' s a n o := by
 cases o with
 | some z => exact ⟨h.1.below t, h.2⟩
 | none => obtain ⟨f, h1, h2, h3⟩ := h; exact ⟨f, h1.below t, h2, h3⟩
theorem IsN.arg {w : World} {s : Bool} {a : Option Addr} {n : Nat} {z : Int} (h : IsN w s a n z) (hn : n ≤ 64) : Arg w s a n (some z) := ⟨h, hn⟩
theorem arg_of {w : World} {s : Bool} {a : Option Addr} {n : Nat} {f : Nat → Nat} (h : Dig w a n f) (hf : ∀ j, j < n → f j < 4294967296) (hn : n ≤ 140737488355328) : ∃ o, Arg w s a n o := by
 by_cases hr : rightB s n f = true
 · unfold rightB at hr
   by_cases h0 : n = 0
   · subst h0
     have hs : s = false := by simpa using hr
     exact ⟨some 0, ⟨by rw [hs]; rfl, ⟨dlen_zero.symm, .inl rfl⟩⟩, by omega⟩
   · rw [if_neg h0] at hr
     obtain ⟨h64, htop⟩ := of_decide_eq_true hr
     have hl : dlen (valF f n) = n := dlen_valF hf (.inr htop)
     have hD : IsD w a n (valF f n) := ⟨hl.symm, h.congr fun j hj => (dgt_valF hf hj).symm⟩
     exact ⟨some (signed s (valF f n)), IsN.mk' hD fun _ e => h0 (by rw [← hl, e]; exact dlen_zero), h64⟩
 · exact ⟨none, f, h, hn, by simpa using hr⟩

def fitO (z : Int) : Option Int := if dlen z.natAbs ≤ 64 then some z else none
def addO : Option Int → Option Int → Option Int
 | some x, some y => fitO (x + y)
 | _, _ => none
def subO : Option Int → Option Int → Option Int
 | some x, some y => fitO (x - y)
 | _, _ => none
def mulO : Option Int → Option Int → Option Int
 | some x, some y => fitO (x * y)
 | _, _ => none
def intO : Option Int → Option Int
 | some z => if -9223372036854775808 ≤ z ∧ z ≤ 9223372036854775807 then some z else none
 | none => none
theorem subO_none (x : Option Int) : subO x none = none := by cases x <;> rfl
theorem fitO_some {z : Int} (h : dlen z.natAbs ≤ 64) : fitO z = some z := if_pos h
theorem fitO_none {z : Int} (h : ¬ dlen z.natAbs ≤ 64) : fitO z = none := if_neg h

def OptPost (w : World) (o : Option Int) (e : Ending) (w' : World) : Prop :=
 ∃ (s : Bool) (a : Option Addr) (n c : Nat), e = .returned (.tuple #[.agg #[.bool s, .slice a n c], .bool o.isSome]) ∧ IsN w' s a n (o.getD 0) ∧ n ≤ 64 ∧ (n = 0 ∨ Fresh w a) ∧ Below w.heap.size w w'
def NoPost (w : World) (e : Ending) (w' : World) : Prop := e = .returned (.tuple #[.agg #[.bool false, .slice none 0 0], .bool false]) ∧ Below w.heap.size w w'
theorem zero_num (w : World) : IsN w false none 0 0 := ⟨rfl, ⟨dlen_zero.symm, .inl rfl⟩⟩
theorem NoPost.opt {w w' : World} {e : Ending} {o : Option Int} (h : NoPost w e w') (ho : o = none) : OptPost w o e w' := by
 subst ho
 exact ⟨false, none, 0, 0, h.1, zero_num _, by omega, .inl rfl, h.2⟩
theorem NumPost.opt {w w' : World} {e : Ending} {z : Int} (h : NumPost w z e w') (hz : dlen z.natAbs ≤ 64) : OptPost w (some z) e w' := by
 obtain ⟨s, a, n, c, rfl, hN, hf, hb⟩ := h
 exact ⟨s, a, n, c, rfl, hN, by rw [hN.dig.len]; exact hz, hf, hb⟩
end Go.Proofs.YtgenaicmjddjcaaGreatDoor

/- XFan's region, for calls that hand back any Num, right or not. -/
namespace Go.Proofs.YtgenaicmjddjcaaGreatDoor
open Go.RowKit Go.Shelf

def Digs (w : World) (a : Option Addr) (n : Nat) : Prop := ∃ f, Dig w a n f ∧ (∀ j, j < n → f j < 4294967296) ∧ n ≤ 140737488355328
theorem Digs.below {w w' : World} {a : Option Addr} {n : Nat} (h : Digs w a n) (t : Below w.heap.size w w') : Digs w' a n := by
 obtain ⟨f, h1, h2, h3⟩ := h
 exact ⟨f, h1.below t, h2, h3⟩
theorem Digs.old {w : World} {a : Option Addr} {n g : Nat} (h : Digs w a n) (hg : w.heap.size ≤ g) : n = 0 ∨ ∀ ad, a = some ad → ad.block ≠ g := by
 obtain ⟨f, h1, h2, h3⟩ := h
 by_cases h0 : n = 0
 · exact .inl h0
 · exact .inr (h1.old hg (by omega))
theorem Digs.set2 {w : World} {a : Option Addr} {n B : Nat} {u0 u1 : Value} (h : Digs w a n) (hb : Box2 w B u0 u1) (v0 v1 : Value) (hne : n = 0 ∨ ∀ ad, a = some ad → ad.block ≠ B) : Digs ((w.setCell ⟨B, 0, none⟩ v0).setCell ⟨B, 1, none⟩ v1) a n := by
 obtain ⟨f, h1, h2, h3⟩ := h
 exact ⟨f, h1.touch' (setNum v0 v1 hb.c0 hb.c1).2.2 hne, h2, h3⟩
theorem Digs.arg {w : World} {a : Option Addr} {n : Nat} (h : Digs w a n) (s : Bool) : ∃ o, Arg w s a n o := by
 obtain ⟨f, h1, h2, h3⟩ := h
 exact arg_of h1 h2 h3
theorem IsN.digs {w : World} {s : Bool} {a : Option Addr} {n : Nat} {z : Int} (h : IsN w s a n z) (hn : n ≤ 64) : Digs w a n := ⟨_, h.dig.dig, fun _ _ => dgt_lt _ _, by omega⟩
def Raw (w : World) (a : Option Addr) (n : Nat) : Prop := ∃ f, Dig w a n f ∧ ∀ j, j < n → f j < 4294967296
theorem Raw.below {w w' : World} {a : Option Addr} {n : Nat} (h : Raw w a n) (t : Below w.heap.size w w') : Raw w' a n := by
 obtain ⟨f, h1, h2⟩ := h
 exact ⟨f, h1.below t, h2⟩
structure HD (w : World) (B : Nat) (s : Bool) (a : Option Addr) (n c : Nat) : Prop where
 box : Box2 w B (.bool s) (.slice a n c)
 dig : Digs w a n
theorem HD.below {w w' : World} {B : Nat} {s : Bool} {a : Option Addr} {n c : Nat} (h : HD w B s a n c) (t : Below w.heap.size w w') : HD w' B s a n c := ⟨h.box.below t h.box.lt, h.dig.below t⟩

structure FanD (K : Nat) (w0 : World) (la lc ls : Nat → Bool) (U V : Nat → Value) (B : Nat → Nat) (s : Nat → Bool) (a : Nat → Option Addr) (n c : Nat → Nat) (w : World) : Prop where
 below : Below w0.heap.size w0 w
 var : ∀ k, k < K → la k = true → U k = .pointer (some ⟨B k, 0, none⟩) ∧ w0.heap.size ≤ B k
 box0 : ∀ k, k < K → la k = true → ls k = false → Box2 w (B k) (.bool false) (.slice none 0 0)
 box1 : ∀ k, k < K → la k = true → ls k = true → Box2 w (B k) (.bool (s k)) (.slice (a k) (n k) (c k))
 apart : ∀ j k, j < K → k < K → j ≠ k → la j = true → la k = true → B j ≠ B k
 num : ∀ k, k < K → lc k = true → V k = .agg #[.bool (s k), .slice (a k) (n k) (c k)] ∧ Digs w (a k) (n k)
 off : ∀ j k, j < K → k < K → lc j = true → la k = true → n j = 0 ∨ ∀ ad, a j = some ad → ad.block ≠ B k
 ord : ∀ k, k < K → ls k = true → la k = true ∧ lc k = true
theorem FanD.box {K : Nat} {w0 w : World} {la lc ls : Nat → Bool} {U V : Nat → Value} {B : Nat → Nat} {s : Nat → Bool} {a : Nat → Option Addr} {n c : Nat → Nat} (h : FanD K w0 la lc ls U V B s a n c w) {k : Nat} (hk : k < K) (ha : la k = true) : ∃ v0 v1, Box2 w (B k) v0 v1 := by
 cases hs : ls k with
 | false => exact ⟨_, _, h.box0 k hk ha hs⟩
 | true => exact ⟨_, _, h.box1 k hk ha hs⟩
theorem FanD.lt {K : Nat} {w0 w : World} {la lc ls : Nat → Bool} {U V : Nat → Value} {B : Nat → Nat} {s : Nat → Bool} {a : Nat → Option Addr} {n c : Nat → Nat} (h : FanD K w0 la lc ls U V B s a n c w) {k : Nat} (hk : k < K) (ha : la k = true) : B k < w.heap.size := by
 obtain ⟨_, _, hb⟩ := h.box hk ha
 exact hb.lt
theorem FanD.start (K : Nat) (w0 : World) (U V : Nat → Value) (B : Nat → Nat) (s : Nat → Bool) (a : Nat → Option Addr) (n c : Nat → Nat) {la lc ls : Nat → Bool} (ha : ∀ k, k < K → la k = false) (hc : ∀ k, k < K → lc k = false) (hs : ∀ k, k < K → ls k = false) : FanD K w0 la lc ls U V B s a n c w0 where
 below := Below.refl _ _
 var k hk h := by rw [ha k hk] at h; cases h
 box0 k hk h := by rw [ha k hk] at h; cases h
 box1 k hk h := by rw [ha k hk] at h; cases h
 apart j k hj hk _ h := by rw [ha j hj] at h; cases h
 num k hk h := by rw [hc k hk] at h; cases h
 off j k hj hk h := by rw [hc j hj] at h; cases h
 ord k hk h := by rw [hs k hk] at h; cases h
theorem FanD.congr {K : Nat} {w0 w : World} {la lc ls la' lc' ls' : Nat → Bool} {U V : Nat → Value} {B : Nat → Nat} {s : Nat → Bool} {a : Nat → Option Addr} {n c : Nat → Nat} (h : FanD K w0 la lc ls U V B s a n c w)
 (ea : ∀ k, k < K → la' k = la k) (ec : ∀ k, k < K → lc' k = lc k) (es : ∀ k, k < K → ls' k = ls k) : FanD K w0 la' lc' ls' U V B s a n c w where
 below := h.below
 var k hk h' := h.var k hk (by rw [← ea k hk]; exact h')
 box0 k hk h' h'' := h.box0 k hk (by rw [← ea k hk]; exact h') (by rw [← es k hk]; exact h'')
 box1 k hk h' h'' := h.box1 k hk (by rw [← ea k hk]; exact h') (by rw [← es k hk]; exact h'')
 apart j k hj hk hne h1 h2 := h.apart j k hj hk hne (by rw [← ea j hj]; exact h1) (by rw [← ea k hk]; exact h2)
 num k hk h' := h.num k hk (by rw [← ec k hk]; exact h')
 off j k hj hk h1 h2 := h.off j k hj hk (by rw [← ec j hj]; exact h1) (by rw [← ea k hk]; exact h2)
 ord k hk h' := by rw [ea k hk, ec k hk]; exact h.ord k hk (by rw [← es k hk]; exact h')
theorem FanD.alloc {K : Nat} {w0 w : World} {la lc ls : Nat → Bool} {U V : Nat → Value} {B : Nat → Nat} {s : Nat → Bool} {a : Nat → Option Addr} {n c : Nat → Nat} (h : FanD K w0 la lc ls U V B s a n c w) {k : Nat} (hk : k < K) (hla : la k = false) (t : TypeId) :
 FanD K w0 (upd la k true) lc ls (upd U k (.pointer (some ⟨w.heap.size, 0, none⟩))) V (upd B k w.heap.size) s a n c (w.alloc (Obj.cells #[.bool false, .slice none 0 0] t)) := by
 have hg := below_alloc' w (Obj.cells #[.bool false, .slice none 0 0] t)
 have hls : ls k = false := by
  cases hs : ls k with
  | false => rfl
  | true => rw [(h.ord k hk hs).1] at hla; cases hla
 have hold : ∀ j, j ≠ k → upd la k true j = true → la j = true := fun j hj e => by rwa [upd_ne _ _ hj] at e
 refine { below := h.below.trans (hg.mono h.below.size), var := fun j hj e => ?_, box0 := fun j hj e e' => ?_, box1 := fun j hj e e' => ?_, apart := fun i j hi hj hne e1 e2 => ?_, num := fun j hj e => ?_, off := fun i j hi hj e1 e2 => ?_, ord := fun j hj e => ?_ }
 · by_cases ej : j = k
   · subst ej; rw [upd_same, upd_same]; exact ⟨rfl, h.below.size⟩
   · rw [upd_ne _ _ ej, upd_ne _ _ ej]; exact h.var j hj (hold j ej e)
 · by_cases ej : j = k
   · subst ej; rw [upd_same]; exact Box2.new _ _ _ _
   · rw [upd_ne _ _ ej]; have := h.box0 j hj (hold j ej e) e'; exact this.below hg this.lt
 · by_cases ej : j = k
   · subst ej; rw [hls] at e'; cases e'
   · rw [upd_ne _ _ ej]; have := h.box1 j hj (hold j ej e) e'; exact this.below hg this.lt
 · by_cases ei : i = k
   · subst ei
     rw [upd_same, upd_ne _ _ (Ne.symm hne)]
     have := h.lt hj (hold j (Ne.symm hne) e2); omega
   · rw [upd_ne _ _ ei]
     by_cases ej : j = k
     · subst ej; rw [upd_same]; have := h.lt hi (hold i ei e1); omega
     · rw [upd_ne _ _ ej]; exact h.apart i j hi hj hne (hold i ei e1) (hold j ej e2)
 · obtain ⟨h1, h2⟩ := h.num j hj e
   exact ⟨h1, h2.below hg⟩
 · by_cases ej : j = k
   · subst ej; rw [upd_same]; exact (h.num i hi e1).2.old (Nat.le_refl _)
   · rw [upd_ne _ _ ej]; exact h.off i j hi hj e1 (hold j ej e2)
 · obtain ⟨h1, h2⟩ := h.ord j hj e
   refine ⟨?_, h2⟩
   by_cases ej : j = k
   · rw [upd_eq _ _ ej]
   · rw [upd_ne _ _ ej]; exact h1
theorem FanD.call {K : Nat} {w0 w w' : World} {la lc ls : Nat → Bool} {U V : Nat → Value} {B : Nat → Nat} {s : Nat → Bool} {a : Nat → Option Addr} {n c : Nat → Nat} (h : FanD K w0 la lc ls U V B s a n c w) {k : Nat} (hk : k < K) (hlc : lc k = false)
 {s' : Bool} {a' : Option Addr} {n' c' : Nat} (hN : Digs w' a' n') (hf : n' = 0 ∨ Fresh w a' ∨ ∀ ad, a' = some ad → ad.block < w0.heap.size) (hg : Below w.heap.size w w') :
 FanD K w0 la (upd lc k true) ls U (upd V k (.agg #[.bool s', .slice a' n' c'])) B (upd s k s') (upd a k a') (upd n k n') (upd c k c') w' := by
 have hls : ls k = false := by
  cases hs : ls k with
  | false => rfl
  | true => rw [(h.ord k hk hs).2] at hlc; cases hlc
 have hold : ∀ j, j ≠ k → upd lc k true j = true → lc j = true := fun j hj e => by rwa [upd_ne _ _ hj] at e
 refine { below := h.below.trans (hg.mono h.below.size), var := h.var, box0 := fun j hj e e' => ?_, box1 := fun j hj e e' => ?_, apart := h.apart, num := fun j hj e => ?_, off := fun i j hi hj e1 e2 => ?_, ord := fun j hj e => ?_ }
 · have := h.box0 j hj e e'; exact this.below hg this.lt
 · have ej : j ≠ k := fun ej => by subst ej; rw [hls] at e'; cases e'
   rw [upd_ne _ _ ej, upd_ne _ _ ej, upd_ne _ _ ej, upd_ne _ _ ej]
   have := h.box1 j hj e e'; exact this.below hg this.lt
 · by_cases ej : j = k
   · subst ej
     rw [upd_same, upd_same, upd_same, upd_same, upd_same]
     exact ⟨rfl, hN⟩
   · rw [upd_ne _ _ ej, upd_ne _ _ ej, upd_ne _ _ ej, upd_ne _ _ ej, upd_ne _ _ ej]
     obtain ⟨h1, h2⟩ := h.num j hj (hold j ej e)
     exact ⟨h1, h2.below hg⟩
 · by_cases ei : i = k
   · subst ei
     rw [upd_same, upd_same]
     have h1 := h.lt hj e2
     have h2 := (h.var j hj e2).2
     exact hf.imp id fun hf ad e => by
      rcases hf with hf | hf
      · have := hf ad e; omega
      · have := hf ad e; omega
   · rw [upd_ne _ _ ei, upd_ne _ _ ei]; exact h.off i j hi hj (hold i ei e1) e2
 · obtain ⟨h1, h2⟩ := h.ord j hj e
   refine ⟨h1, ?_⟩
   by_cases ej : j = k
   · rw [upd_eq _ _ ej]
   · rw [upd_ne _ _ ej]; exact h2
theorem FanD.store {K : Nat} {w0 w : World} {la lc ls : Nat → Bool} {U V : Nat → Value} {B : Nat → Nat} {s : Nat → Bool} {a : Nat → Option Addr} {n c : Nat → Nat} (h : FanD K w0 la lc ls U V B s a n c w) {k : Nat} (hk : k < K) (hla : la k = true) (hlc : lc k = true) :
 FanD K w0 la lc (upd ls k true) U V B s a n c ((w.setCell ⟨B k, 0, none⟩ (.bool (s k))).setCell ⟨B k, 1, none⟩ (.slice (a k) (n k) (c k))) := by
 obtain ⟨v0, v1, hb⟩ := h.box hk hla
 have hold : ∀ j, j ≠ k → upd ls k true j = ls j := fun j hj => upd_ne _ _ hj
 refine { below := below_set2 h.below (h.var k hk hla).2 _ _, var := h.var, box0 := fun j hj e e' => ?_, box1 := fun j hj e e' => ?_, apart := h.apart, num := fun j hj e => ?_, off := h.off, ord := fun j hj e => ?_ }
 · have ej : j ≠ k := fun ej => by subst ej; rw [upd_same] at e'; cases e'
   rw [hold j ej] at e'
   exact (h.box0 j hj e e').other _ _ (h.apart j k hj hk ej e hla)
 · by_cases ej : j = k
   · subst ej; exact hb.set _ _
   · rw [hold j ej] at e'
     exact (h.box1 j hj e e').other _ _ (h.apart j k hj hk ej e hla)
 · obtain ⟨h1, h2⟩ := h.num j hj e
   exact ⟨h1, h2.set2 hb _ _ (h.off j k hj hk e hla)⟩
 · by_cases ej : j = k
   · subst ej; exact ⟨hla, hlc⟩
   · rw [hold j ej] at e; exact h.ord j hj e

theorem FanD.held {K : Nat} {w0 w : World} {U V : Nat → Value} {B : Nat → Nat} {s : Nat → Bool} {a : Nat → Option Addr} {n c : Nat → Nat} (h : FanD K w0 (fun _ => true) (fun _ => true) (fun _ => true) U V B s a n c w) {k : Nat} (hk : k < K) :
 ∃ (b : Nat) (s' : Bool) (a' : Option Addr) (n' c' : Nat), U k = .pointer (some ⟨b, 0, none⟩) ∧ HD w b s' a' n' c' ∧ w0.heap.size ≤ b :=
 ⟨B k, s k, a k, n k, c k, (h.var k hk rfl).1, ⟨h.box1 k hk rfl rfl, (h.num k hk rfl).2⟩, (h.var k hk rfl).2⟩
end Go.Proofs.YtgenaicmjddjcaaGreatDoor

/- The reference's Right, compare and at. -/
namespace Go.Proofs.YtgenaicmjddjcaaGreatDoor
open Go.RowKit Go.Shelf
attribute [local go_sem] Oper.semAt_some

theorem below_drewN' {B : Nat} {a w : World} (h : Below B a w) (n : Nat) : Below B a (w.drewN n) := ⟨h.os, h.tape, h.output, h.size, h.block⟩

set_option maxRecDepth 100000 in
set_option maxHeartbeats 1000000 in
theorem rright_any (s : Bool) (a : Option Addr) (L cap : Nat) (f : Nat → Nat) (hL : L ≤ 140737488355328) (w : World) (hd : Dig w a L f) :
 Calls Tryz.prog 61 #[.agg #[.bool s, .slice a L cap]] w fun e w' => e = .returned (.bool (rightB s L f)) ∧ Below w.heap.size w w' := by
 rcases Nat.eq_zero_or_pos L with h | h
 · subst h
   rw [show rightB s 0 f = !s from rfl]
   go_enter Tryz.func61, Tryz.ntmps61
   go_wp2
   go_ret
   exact ⟨rfl, (Below.refl _ w).alloc (Nat.le_refl _) _⟩
 · have hr0 : rightB s L f = decide (L ≤ 64 ∧ f (L - 1) ≠ 0) := by unfold rightB; rw [if_neg (by omega)]
   obtain ⟨b, off, rfl, hc⟩ := hd.at h
   have hcl := hc (L - 1) (by omega)
   have hb := hc.lt h
   have hz : ((L : Int) == 0) = false := by simp; omega
   have hz1 : ((L : Int) - 1).toNat = L - 1 := by omega
   by_cases h64 : L ≤ 64
   · have h64' : (L : Int) ≤ 64 := by omega
     by_cases hf : f (L - 1) = 0
     · rw [hf] at hcl
       rw [show rightB s L f = false by rw [hr0]; simp [hf]]
       have HC := hide hcl
       clear hf hr0 hc hd
       have hcl2 : w.cell? ⟨b, off + (L - 1), none⟩ = some (.int .u32 0) := HC.out
       clear hcl
       go_enter Tryz.func61, Tryz.ntmps61
       go_wp2
       go_ret
       exact ⟨rfl, (Below.refl _ w).alloc (Nat.le_refl _) _⟩
     · have hne : (((f (L - 1) : Nat) : Int) != 0) = true := by simp; exact hf
       have hne2 : (((f (L - 1) : Nat) : Int) == 0) = false := by simp; exact hf
       rw [show rightB s L f = true by rw [hr0]; simp [hf, h64]]
       clear hf hr0 hc hd
       go_enter Tryz.func61, Tryz.ntmps61
       go_wp2
       go_ret
       exact ⟨rfl, (Below.refl _ w).alloc (Nat.le_refl _) _⟩
   · have h64' : (64 : Int) < L := by omega
     rw [show rightB s L f = false by rw [hr0]; simp [h64]]
     clear hr0 hc hd
     go_enter Tryz.func61, Tryz.ntmps61
     go_wp2
     go_ret
     exact ⟨rfl, (Below.refl _ w).alloc (Nat.le_refl _) _⟩

theorem rright_arg (s : Bool) (a : Option Addr) (n c : Nat) (o : Option Int) (w : World) (h : Arg w s a n o) :
 Calls Tryz.prog 61 #[.agg #[.bool s, .slice a n c]] w fun e w' => e = .returned (.bool o.isSome) ∧ Below w.heap.size w w' := by
 cases o with
 | some z =>
   refine (rright_any s a n c (dgt z.natAbs) (by have := h.2; omega) w h.1.dig.dig).mono ?_
   rintro e w' ⟨rfl, hb⟩
   exact ⟨by rw [rightB_yes h.1 h.2]; rfl, hb⟩
 | none =>
   obtain ⟨f, h1, h2, h3⟩ := h
   refine (rright_any s a n c f h2 w h1).mono ?_
   rintro e w' ⟨rfl, hb⟩
   exact ⟨by rw [h3]; rfl, hb⟩

set_option maxRecDepth 100000 in
set_option maxHeartbeats 1000000 in
theorem rcompare_len_lt (ax ay : Option Addr) (nx ny cx cy : Nat) (h : nx < ny) (w : World) :
 Calls Tryz.prog 122 #[.slice ax nx cx, .slice ay ny cy] w fun e w' => e = .returned (.int .i64 (-1)) ∧ Below w.heap.size w w' := by
 have h' : (nx : Int) < ny := by omega
 go_enter Tryz.func122, Tryz.ntmps122
 go_wp2
 go_ret
 exact ⟨rfl, Below.refl _ _⟩
set_option maxRecDepth 100000 in
set_option maxHeartbeats 1000000 in
theorem rcompare_len_gt (ax ay : Option Addr) (nx ny cx cy : Nat) (h : ny < nx) (w : World) :
 Calls Tryz.prog 122 #[.slice ax nx cx, .slice ay ny cy] w fun e w' => e = .returned (.int .i64 1) ∧ Below w.heap.size w w' := by
 have h' : (ny : Int) < nx := by omega
 have h'' : ¬ nx < ny := by omega
 go_enter Tryz.func122, Tryz.ntmps122
 go_wp2
 go_ret
 exact ⟨rfl, Below.refl _ _⟩

set_option maxRecDepth 100000 in
set_option maxHeartbeats 2000000 in
theorem rcompare_same (ax ay : Option Addr) (n cx cy : Nat) (f g : Nat → Nat) (hn : n ≤ 1099511627776) (hf : ∀ j, j < n → f j < 4294967296) (hg : ∀ j, j < n → g j < 4294967296) (w : World) (hx : Dig w ax n f) (hy : Dig w ay n g) :
 Calls Tryz.prog 122 #[.slice ax n cx, .slice ay n cy] w fun e w' => e = .returned (.int .i64 (cmpN (valF f n) (valF g n))) ∧ Below w.heap.size w w' := by
 have HF : Hid (∀ j, j < n → f j < 4294967296) := hf
 have HG : Hid (∀ j, j < n → g j < 4294967296) := hg
 clear hf hg
 go_enter Tryz.func122, Tryz.ntmps122
 go_wp2
 go_loopw [5] (fun i wr => ∃ k : Nat, k ≤ n ∧ i = .int .i64 ((k : Int) - 1) ∧ (∀ j, k ≤ j → j < n → f j = g j) ∧ Below w.heap.size w wr) (fun i _ => (intOf i + 1).toNat)
 case atStart => exact ⟨n, Nat.le_refl _, rfl, fun j h1 h2 => by omega, Below.refl _ _⟩
 case round =>
  obtain ⟨k, hk, rfl, hsame, hr⟩ := hrel
  cases k with
  | zero =>
    have h0 : cmpN (valF f n) (valF g n) = 0 := by
     rw [valF_congr (fun j hj => hsame j (Nat.zero_le _) hj)]; exact cmpN_eq _
    have H0 := hide h0
    clear hsame h0
    rw [show ((0 : Nat) : Int) - 1 = -1 from rfl]
    go_wp2
    go_ret
    exact ⟨by rw [H0.out]; rfl, hr⟩
  | succ m =>
    rw [show ((m + 1 : Nat) : Int) - 1 = (m : Int) by omega]
    obtain ⟨bx, ox, rfl, hcx⟩ := (hx.below hr).at (by omega)
    obtain ⟨by', oy, rfl, hcy⟩ := (hy.below hr).at (by omega)
    have hx1 := hcx m (by omega)
    have hy1 := hcy m (by omega)
    have hm0 : (0 : Int) ≤ m := by omega
    have hmn : (m : Int) < n := by omega
    have HS := hide hsame
    clear hsame hcx hcy
    rcases Nat.lt_trichotomy (f m) (g m) with hlt | heq | hgt
    · have hlt' : ((f m : Nat) : Int) < ((g m : Nat) : Int) := by omega
      have HFIN := hide (cmpN_lt (valF_lt_valF hk HF.out (fun j h1 h2 => HS.out j (by omega) h2) hlt))
      clear hlt
      go_wp2
      go_quiet (fail)
      go_wp2
      go_ret
      exact ⟨by rw [HFIN.out]; rfl, below_drewN' hr _⟩
    · have HE := hide heq
      rw [heq] at hx1
      clear heq
      go_wp2
      go_quiet (fail)
      go_wp2
      go_quiet (fail)
      go_wp2
      go_roundw
      case rel => exact ⟨m, by omega, rfl, fun j h1 h2 => by
       by_cases e : j = m
       · subst e; exact HE.out
       · exact HS.out j (by omega) h2, below_drewN' hr _⟩
      case measure => simp [intOf]
    · have hgt' : ((g m : Nat) : Int) < ((f m : Nat) : Int) := by omega
      have hgt'' : ¬ ((f m : Nat) : Int) < ((g m : Nat) : Int) := by omega
      have HFIN := hide (cmpN_gt (valF_lt_valF hk HG.out (fun j h1 h2 => (HS.out j (by omega) h2).symm) hgt))
      clear hgt
      go_wp2
      go_quiet (fail)
      go_wp2
      go_quiet (fail)
      go_wp2
      go_ret
      exact ⟨by rw [HFIN.out]; rfl, below_drewN' (below_drewN' hr _) _⟩

theorem rcompare_any (ax ay : Option Addr) (x y nx ny cx cy : Nat) (hn : nx ≤ 1099511627776) (w : World) (hx : IsD w ax nx x) (hy : IsD w ay ny y) :
 Calls Tryz.prog 122 #[.slice ax nx cx, .slice ay ny cy] w fun e w' => e = .returned (.int .i64 (cmpN x y)) ∧ Below w.heap.size w w' := by
 rcases Nat.lt_trichotomy nx ny with h | h | h
 · rw [cmpN_lt (lt_of_dlen (by rw [← hx.len, ← hy.len]; exact h))]; exact rcompare_len_lt ax ay _ _ cx cy h w
 · subst h
   have := rcompare_same ax ay nx cx cy (dgt x) (dgt y) hn (fun _ _ => dgt_lt _ _) (fun _ _ => dgt_lt _ _) w hx.dig hy.dig
   have e1 : valF (dgt x) nx = x := by rw [hx.len, valF_dlen]
   have e2 : valF (dgt y) nx = y := by rw [hy.len, valF_dlen]
   rw [e1, e2] at this; exact this
 · rw [cmpN_gt (lt_of_dlen (by rw [← hx.len, ← hy.len]; exact h))]; exact rcompare_len_gt ax ay _ _ cx cy h w

set_option maxRecDepth 100000 in
set_option maxHeartbeats 1000000 in
theorem rat_any (a : Option Addr) (n c k : Nat) (f : Nat → Nat) (hn : n ≤ 1099511627776) (hk : k ≤ 1099511627776) (hf : ∀ j, j < n → f j < 4294967296) (w : World) (hd : Dig w a n f) :
 Calls Tryz.prog 121 #[.slice a n c, .int .i64 (k : Int)] w fun e w' => e = .returned (.int .u64 ((mixF f (fun _ => 0) n k : Nat) : Int)) ∧ w = w' := by
 by_cases h : k < n
 · obtain ⟨b, off, rfl, hc⟩ := hd.at (by omega)
   have hx := hc k h
   have h' : (k : Int) < n := by omega
   have hfk := hf k h
   rw [show mixF f (fun _ => 0) n k = f k by simp [mixF, h]]
   clear hc hd
   go_enter Tryz.func121, Tryz.ntmps121
   go_wp2
   go_ret
   exact ⟨rfl, rfl⟩
 · have h' : ¬ (k : Int) < n := by omega
   rw [show mixF f (fun _ => 0) n k = 0 by simp [mixF, h]]
   go_enter Tryz.func121, Tryz.ntmps121
   go_wp2
   go_ret
   exact ⟨rfl, rfl⟩
end Go.Proofs.YtgenaicmjddjcaaGreatDoor

/- The reference's plus and minus. -/
namespace Go.Proofs.YtgenaicmjddjcaaGreatDoor
open Go.RowKit Go.Shelf

theorem mix_dgt {n x : Nat} (h : n = dlen x) : mixF (dgt x) (fun _ => 0) n = dgt x := by
 funext j
 unfold mixF
 split
 · rfl
 · rename_i hj
   unfold dgt
   rw [Nat.div_eq_of_lt (Nat.lt_of_lt_of_le (lt_bp_dlen x) (bp_le (by omega)))]
theorem rat_num (a : Option Addr) (n c k x : Nat) (hn : n ≤ 1099511627776) (hk : k ≤ 1099511627776) (w : World) (hd : IsD w a n x) :
 Calls Tryz.prog 121 #[.slice a n c, .int .i64 (k : Int)] w fun e w' => e = .returned (.int .u64 ((dgt x k : Nat) : Int)) ∧ w = w' := by
 have := rat_any a n c k (dgt x) hn hk (fun _ _ => dgt_lt _ _) w hd.dig
 rw [mix_dgt hd.len] at this; exact this
theorem val_full {x k : Nat} (h : dlen x ≤ k) : valF (dgt x) k = x := by rw [valF_dgt, Nat.mod_eq_of_lt (Nat.lt_of_lt_of_le (lt_bp_dlen x) (bp_le h))]
theorem digVals_congr {f g : Nat → Nat} {k : Nat} (h : ∀ j, j < k → f j = g j) : digVals f k = digVals g k := by
 unfold digVals
 exact List.map_congr_left fun j hj => by rw [h j (List.mem_range.1 hj)]
theorem digVals_put (h : Nat → Nat) (k v : Nat) : digVals (putF h k v) (k + 1) = digVals h k ++ [.int .u32 (v : Int)] := by
 rw [digVals_succ, putF_same, digVals_congr fun j hj => putF_ne h v (by omega)]
def DigPost (w : World) (v : Nat) (e : Ending) (w' : World) : Prop :=
 ∃ (a : Option Addr) (n c : Nat), e = .returned (.slice a n c) ∧ IsD w' a n v ∧ n ≤ c ∧ (n = 0 ∨ Fresh w a) ∧ Below w.heap.size w w'
theorem owns_digF {w : World} {base : Nat} {e : TypeId} {gv : Value} {k : Nat} {f : Nat → Nat} (h : w.ownsRow base e 1 gv k (digVals f k)) : ∃ a c, gv = .slice a k c ∧ k ≤ c ∧ Dig w a k f ∧ ∀ ad, a = some ad → base ≤ ad.block := by
 rcases h.2 with ⟨hv, h0⟩ | ⟨g, cap, cur, hv, hb, hob, hc, _⟩
 · exact ⟨none, 0, by rw [hv, h0], by omega, .inl h0, fun _ e => by cases e⟩
 · refine ⟨some ⟨g, 0, none⟩, cap, hv, hc, .inr ⟨g, 0, rfl, fun j hj => ?_⟩, fun ad e => by cases e; exact hb⟩
   have := h.cells (g := g) (by rw [hv]; rfl) j (.int .u32 ((f j : Nat) : Int)) (digVals_get f hj)
   rw [← this]; congr 1; unfold Addr.add; split <;> simp_all
theorem trim_own {w wr : World} {base : Nat} {t : TypeId} {gv : Value} {K : Nat} {h : Nat → Nat} (hK : K ≤ 1099511627776) (hb : w.heap.size ≤ base) (hlt : ∀ j, j < K → h j < 4294967296) (ho : wr.ownsRow base t 1 gv K (digVals h K)) (hr : Below w.heap.size w wr) :
 ∃ (a : Option Addr) (c : Nat), gv = .slice a K c ∧ Calls Tryz.prog 62 #[.slice a K c] wr (DigPost w (valF h K)) := by
 obtain ⟨a, c, rfl, hc, hd, hf⟩ := owns_digF ho
 refine ⟨a, c, rfl, (rtrim_any a K c h hK hc hlt wr hd).mono ?_⟩
 rintro e w' ⟨a', c', rfl, ha', hc', rfl⟩
 refine ⟨a', _, c', rfl, IsD.of hd hlt ha', hc', ?_, hr⟩
 rcases ha' with rfl | h0
 · exact .inr fun ad e => Nat.le_trans hb (hf ad e)
 · exact .inl h0

theorem plus_step {V r X Y P x y : Nat} (h : V + r * P = X + Y) : V + (r + x + y) % 4294967296 * P + (r + x + y) / 4294967296 * (4294967296 * P) = X + x * P + (Y + y * P) := by
 rw [Nat.add_assoc, split_mul, Nat.add_mul, Nat.add_mul]; omega

set_option maxRecDepth 100000 in
set_option maxHeartbeats 4000000 in
theorem rplus_any (ax ay : Option Addr) (x y nx ny cx cy : Nat) (hn : nx ≤ 100000000000) (hn' : ny ≤ 100000000000) (w : World) (hx : IsD w ax nx x) (hy : IsD w ay ny y) :
 Calls Tryz.prog 74 #[.slice ax nx cx, .slice ay ny cy] w (DigPost w (x + y)) := by
 obtain ⟨i0, hi, hz0, hz1, hz2⟩ := info_parts info_u32
 have HI := hide hi
 have HZ := hide (And.intro hz0 (And.intro hz1 hz2))
 have HX := hide hx
 have HY := hide hy
 have HLX := hide hx.len
 have HLY := hide hy.len
 clear hi hz0 hz1 hz2 hx hy
 go_enter Tryz.func74, Tryz.ntmps74
 go_wp2_with fail
 go_loopw [5, 6, 7] (fun ov cv i wr => ∃ (k r : Nat) (h : Nat → Nat), (k ≤ nx ∨ k ≤ ny) ∧ r ≤ 1 ∧ i = .int .i64 (k : Int) ∧ cv = .int .u64 (r : Int) ∧ (∀ j, h j < 4294967296) ∧ valF h k + r * bp k = valF (dgt x) k + valF (dgt y) k ∧
  wr.ownsRow w.heap.size 68 1 ov k (digVals h k) ∧ Below w.heap.size w wr)
  (fun _ _ i _ => nx + ny - (intOf i).toNat)
 case atStart => exact ⟨0, 0, fun _ => 0, .inl (Nat.zero_le _), by decide, rfl, rfl, fun _ => by show (0 : Nat) < _; decide, by simp [valF_zero], World.ownsRow_nil _ _ _ _, Below.refl _ _⟩
 case round =>
  obtain ⟨k, r, h, hk, hr1, rfl, rfl, hlt, hval, ho, hr⟩ := hrel
  have HO := hide ho
  have HV := hide hval
  have HL := hide hlt
  have HSZ := hide hr.size
  clear ho hval hlt
  by_cases hgo : k < nx ∨ k < ny
  · have hdx : dgt x k < 4294967296 := dgt_lt _ _
    have hdy : dgt y k < 4294967296 := dgt_lt _ _
    have CA : Hid (∀ W, Below w.heap.size w W → Calls Tryz.prog 121 #[.slice ax nx cx, .int .i64 (k : Int)] W fun e w' => e = .returned (.int .u64 ((dgt x k : Nat) : Int)) ∧ W = w') := fun W hW => rat_num ax nx cx k x (by omega) (by omega) W (HX.out.below hW)
    have CB : Hid (∀ W, Below w.heap.size w W → Calls Tryz.prog 121 #[.slice ay ny cy, .int .i64 (k : Int)] W fun e w' => e = .returned (.int .u64 ((dgt y k : Nat) : Int)) ∧ W = w') := fun W hW => rat_num ay ny cy k y (by omega) (by omega) W (HY.out.below hW)
    rcases (by omega : k < nx ∨ (¬ k < nx ∧ k < ny)) with h1 | ⟨h1, h2⟩
    all_goals
     go_wp2_with fail
     refine (CA.out _ hr).mono ?_
     rintro e w' ⟨rfl, rfl⟩
     go_wp2_with fail
     refine (CB.out _ hr).mono ?_
     rintro e w' ⟨rfl, rfl⟩
     have hsum : ((r : Int) + ((dgt x k : Nat) : Int) + ((dgt y k : Nat) : Int)) % 4294967296 = (((r + dgt x k + dgt y k) % 4294967296 : Nat) : Int) := by omega
     have hdiv : ((r : Int) + ((dgt x k : Nat) : Int) + ((dgt y k : Nat) : Int)) / 4294967296 = (((r + dgt x k + dgt y k) / 4294967296 : Nat) : Int) := by omega
     have HSUM := hide hsum
     have HDIV := hide hdiv
     clear hsum hdiv
     go_wp2_with (at_builtin; refine wpList_append_own _ rfl _ _ 23 rfl w.heap.size 68 i0 (.int .u32 0) 1 4 Tryz.underlying23 HI.out HZ.out.1 HZ.out.2.1 HZ.out.2.2 rfl (by decide) _ _ _ rfl (HO.out.alloc _) ⟨wr.heap.size, 0, none⟩ 1 1 [.int .u32 (((r : Int) + ((dgt x k : Nat) : Int) + ((dgt y k : Nat) : Int)) % 4294967296)] rfl rfl (fun j u hj => by match j, hj with | 0, hj => simp at hj; subst hj; simp [Addr.add]) (fun u hu => by simp at hu; subst hu; rfl) (by unfold maxLen; omega) (by omega) (by have := HSZ.out; simp; omega) ?_; intro v' w2 hown hgrow _)
     have hb2 : Below w.heap.size w w2 := (hr.alloc HSZ.out _).grown hgrow (by rw [World.size_alloc]; have := HSZ.out; omega) (fun k' hk' => (HO.out.lt k' hk').1)
     go_roundw
     case rel => exact ⟨k + 1, (r + dgt x k + dgt y k) / 4294967296, putF h k ((r + dgt x k + dgt y k) % 4294967296), by omega, by omega, by go_num, by rw [HDIV.out], fun j => by unfold putF; split; exact Nat.mod_lt _ (by decide); exact HL.out j,
      by rw [valF_succ, valF_succ, valF_succ, bp_succ, putF_same, valF_putF_ge _ _ (Nat.le_refl _)]; exact plus_step HV.out, by rw [digVals_put, ← HSUM.out]; exact hown, hb2⟩
     case measure => simp [intOf]; omega
  · have hkx : nx ≤ k := by omega
    have hky : ny ≤ k := by omega
    have hr32 : (r : Int) % 4294967296 = ((r : Nat) : Int) := by omega
    have HR := hide hr32
    have h1 : ¬ (k : Int) < nx := by omega
    have h2 : ¬ (k : Int) < ny := by omega
    have hvx : valF (dgt x) k = x := val_full (by rw [← HLX.out]; exact hkx)
    have hvy : valF (dgt y) k = y := val_full (by rw [← HLY.out]; exact hky)
    have HVX := hide hvx
    have HVY := hide hvy
    clear hr32 hvx hvy
    go_wp2_with (at_builtin; refine wpList_append_own _ rfl _ _ 23 rfl w.heap.size 68 i0 (.int .u32 0) 1 4 Tryz.underlying23 HI.out HZ.out.1 HZ.out.2.1 HZ.out.2.2 rfl (by decide) _ _ _ rfl (HO.out.alloc _) ⟨wr.heap.size, 0, none⟩ 1 1 [.int .u32 (r : Int)] rfl rfl (fun j u hj => by match j, hj with | 0, hj => simp at hj; subst hj; simp [Addr.add]) (fun u hu => by simp at hu; subst hu; rfl) (by unfold maxLen; omega) (by omega) (by have := HSZ.out; simp; omega) ?_; intro v' w2 hown hgrow _)
    have hb2 : Below w.heap.size w w2 := (hr.alloc HSZ.out _).grown hgrow (by rw [World.size_alloc]; have := HSZ.out; omega) (fun k' hk' => (HO.out.lt k' hk').1)
    have hown' : w2.ownsRow w.heap.size 68 1 v' (k + 1) (digVals (putF h k r) (k + 1)) := by rw [digVals_put]; exact hown
    have hval : valF (putF h k r) (k + 1) = x + y := by rw [valF_succ, putF_same, valF_putF_ge _ _ (Nat.le_refl _), HV.out, HVX.out, HVY.out]
    obtain ⟨a3, c3, rfl, hcall⟩ := trim_own (by omega) (Nat.le_refl _) (fun j _ => by unfold putF; split; omega; exact HL.out j) hown' hb2
    rw [hval] at hcall
    refine hcall.mono ?_
    rintro e w3 ⟨a4, n4, c4, rfl, h4⟩
    go_wp2
    go_ret
    exact ⟨a4, n4, c4, rfl, h4⟩
theorem minus_step {V YV XV r P x y v s : Nat} (h : V + YV = XV + r * P) (hv : v + y + r = x + 4294967296 * s) : V + v * P + (YV + y * P) = XV + x * P + s * (4294967296 * P) := by
 have h3 := congrArg (· * P) hv
 simp only [Nat.add_mul] at h3
 have h4 : 4294967296 * s * P = s * (4294967296 * P) := by rw [Nat.mul_comm 4294967296 s, Nat.mul_assoc]
 omega

set_option maxRecDepth 100000 in
set_option maxHeartbeats 4000000 in
theorem rminus_any (ax ay : Option Addr) (x y nx ny cx cy : Nat) (hn : nx ≤ 100000000000) (hn' : ny ≤ 100000000000) (w : World) (hx : IsD w ax nx x) (hy : IsD w ay ny y) (hle : y ≤ x) :
 Calls Tryz.prog 127 #[.slice ax nx cx, .slice ay ny cy] w (DigPost w (x - y)) := by
 obtain ⟨i0, hi, hz0, hz1, hz2⟩ := info_parts info_u32
 have HI := hide hi
 have HZ := hide (And.intro hz0 (And.intro hz1 hz2))
 have HX := hide hx
 have HY := hide hy
 have HLX := hide hx.len
 have HLY := hide hy.len
 clear hi hz0 hz1 hz2 hx hy
 go_enter Tryz.func127, Tryz.ntmps127
 go_wp2_with fail
 go_loopw [5, 6, 7] (fun ov cv i wr => ∃ (k r : Nat) (h : Nat → Nat), k ≤ nx ∧ r ≤ 1 ∧ i = .int .i64 (k : Int) ∧ cv = .int .u64 (r : Int) ∧ (∀ j, h j < 4294967296) ∧ valF h k + valF (dgt y) k = valF (dgt x) k + r * bp k ∧
  wr.ownsRow w.heap.size 68 1 ov k (digVals h k) ∧ Below w.heap.size w wr)
  (fun _ _ i _ => nx - (intOf i).toNat)
 case atStart => exact ⟨0, 0, fun _ => 0, Nat.zero_le _, by decide, rfl, rfl, fun _ => by show (0 : Nat) < _; decide, by simp [valF_zero], World.ownsRow_nil _ _ _ _, Below.refl _ _⟩
 case round =>
  obtain ⟨k, r, h, hk, hr1, rfl, rfl, hlt, hval, ho, hr⟩ := hrel
  have HO := hide ho
  have HV := hide hval
  have HL := hide hlt
  have HSZ := hide hr.size
  clear ho hval hlt
  by_cases hgo : k < nx
  · have hdx : dgt x k < 4294967296 := dgt_lt _ _
    have hdy : dgt y k < 4294967296 := dgt_lt _ _
    have CA : Hid (∀ W, Below w.heap.size w W → Calls Tryz.prog 121 #[.slice ax nx cx, .int .i64 (k : Int)] W fun e w' => e = .returned (.int .u64 ((dgt x k : Nat) : Int)) ∧ W = w') := fun W hW => rat_num ax nx cx k x (by omega) (by omega) W (HX.out.below hW)
    have CB : Hid (∀ W, Below w.heap.size w W → Calls Tryz.prog 121 #[.slice ay ny cy, .int .i64 (k : Int)] W fun e w' => e = .returned (.int .u64 ((dgt y k : Nat) : Int)) ∧ W = w') := fun W hW => rat_num ay ny cy k y (by omega) (by omega) W (HY.out.below hW)
    have hgo' : (k : Int) < nx := by omega
    go_wp2_with fail
    refine (CA.out _ hr).mono ?_
    rintro e w' ⟨rfl, rfl⟩
    go_wp2_with fail
    refine (CB.out _ hr).mono ?_
    rintro e w' ⟨rfl, rfl⟩
    obtain ⟨t, ht⟩ : ∃ t : Nat, t = 4294967296 + dgt x k - dgt y k - r := ⟨_, rfl⟩
    have hsum : (4294967296 + ((dgt x k : Nat) : Int) - ((dgt y k : Nat) : Int) - (r : Int)) % 4294967296 = ((t % 4294967296 : Nat) : Int) := by omega
    have hdiv : 1 - (4294967296 + ((dgt x k : Nat) : Int) - ((dgt y k : Nat) : Int) - (r : Int)) / 4294967296 = ((1 - t / 4294967296 : Nat) : Int) := by omega
    have hst : t % 4294967296 + dgt y k + r = dgt x k + 4294967296 * (1 - t / 4294967296) := by omega
    have HST := hide (And.intro hsum (And.intro hdiv hst))
    clear hsum hdiv hst ht
    go_wp2_with (at_builtin; refine wpList_append_own _ rfl _ _ 23 rfl w.heap.size 68 i0 (.int .u32 0) 1 4 Tryz.underlying23 HI.out HZ.out.1 HZ.out.2.1 HZ.out.2.2 rfl (by decide) _ _ _ rfl (HO.out.alloc _) ⟨wr.heap.size, 0, none⟩ 1 1 [.int .u32 ((4294967296 + ((dgt x k : Nat) : Int) - ((dgt y k : Nat) : Int) - (r : Int)) % 4294967296)] rfl rfl (fun j u hj => by match j, hj with | 0, hj => simp at hj; subst hj; simp [Addr.add]) (fun u hu => by simp at hu; subst hu; rfl) (by unfold maxLen; omega) (by omega) (by have := HSZ.out; simp; omega) ?_; intro v' w2 hown hgrow _)
    have hb2 : Below w.heap.size w w2 := (hr.alloc HSZ.out _).grown hgrow (by rw [World.size_alloc]; have := HSZ.out; omega) (fun k' hk' => (HO.out.lt k' hk').1)
    go_roundw
    case rel => exact ⟨k + 1, 1 - t / 4294967296, putF h k (t % 4294967296), by omega, by omega, by go_num, by rw [HST.out.2.1], fun j => by unfold putF; split; exact Nat.mod_lt _ (by decide); exact HL.out j,
     by rw [valF_succ, valF_succ, valF_succ, bp_succ, putF_same, valF_putF_ge _ _ (Nat.le_refl _)]; exact minus_step HV.out HST.out.2.2, by rw [digVals_put, ← HST.out.1]; exact hown, hb2⟩
    case measure => simp [intOf]; omega
  · obtain rfl : k = nx := by omega
    have hvx : valF (dgt x) k = x := val_full (by rw [← HLX.out]; exact Nat.le_refl _)
    have hvy : valF (dgt y) k = y := val_full (by rw [HLX.out]; exact dlen_mono hle)
    have hval : valF h k = x - y := by
     have h1 := HV.out
     rw [hvx, hvy] at h1
     have h2 : valF h k < bp k := valF_lt fun j _ => HL.out j
     rcases (by omega : r = 0 ∨ r = 1) with rfl | rfl
     · omega
     · omega
    obtain ⟨a3, c3, rfl, hcall⟩ := trim_own (by omega) (Nat.le_refl _) (fun j _ => HL.out j) HO.out hr
    rw [hval] at hcall
    have HC := hide hcall
    clear hcall hval hvx hvy
    go_wp2_with fail
    refine HC.out.mono ?_
    rintro e w3 ⟨a4, n4, c4, rfl, h4⟩
    go_wp2
    go_ret
    exact ⟨a4, n4, c4, rfl, h4⟩
end Go.Proofs.YtgenaicmjddjcaaGreatDoor

/- The reference's times. -/
namespace Go.Proofs.YtgenaicmjddjcaaGreatDoor
open Go.RowKit Go.Shelf

theorem valF_put (f : Nat → Nat) (v : Nat) {p n : Nat} (h : p < n) : valF (putF f p v) n + f p * bp p = valF f n + v * bp p := by
 induction n with
 | zero => omega
 | succ n ih =>
   rw [valF_succ, valF_succ]
   by_cases e : p = n
   · subst e
     rw [putF_same, valF_putF_ge _ _ (Nat.le_refl _)]; omega
   · rw [putF_ne _ _ (fun h => e h.symm)]
     have := ih (by omega)
     omega
theorem times_step {V V' V0 P r d e S : Nat} (h1 : V' + d * P = V + (r + d + e) % 4294967296 * P) (h2 : V + r * P = V0 + S) : V' + (r + d + e) / 4294967296 * (4294967296 * P) = V0 + (S + e * P) := by
 have h3 := split_mul (r + d + e) P
 rw [Nat.add_mul, Nat.add_mul] at h3
 omega
theorem times_sum (c v y K J : Nat) : c * v * K + c * y * (K * J) = c * (v + y * J) * K := by
 rw [Nat.mul_add, Nat.add_mul]
 congr 1
 simp only [Nat.mul_comm, Nat.mul_left_comm]
theorem times_last {V V' P r d : Nat} (h1 : V' + d * P = V + r * P) (hd : d = 0) : V' = V + r * P := by subst hd; omega

set_option maxRecDepth 100000 in
set_option maxHeartbeats 4000000 in
theorem rtimes_any (ax ay : Option Addr) (x y nx ny cx cy : Nat) (hn : nx ≤ 100000000000) (hn' : ny ≤ 100000000000) (w : World) (hx : IsD w ax nx x) (hy : IsD w ay ny y) :
 Calls Tryz.prog 75 #[.slice ax nx cx, .slice ay ny cy] w (DigPost w (x * y)) := by
 have HX := hide hx
 have HY := hide hy
 have HLX := hide hx.len
 have HLY := hide hy.len
 clear hx hy
 go_enter Tryz.func75, Tryz.ntmps75
 go_wp2_with (at_make; refine make_digs rfl _ _ rfl _ _ _ _ (nx + ny) rfl rfl (by omega) (by omega) (by omega) ?_; intro w1 hc1 hf1 hb1)
 obtain ⟨g, hg⟩ : ∃ g, w.heap.size = g := ⟨_, rfl⟩
 have HG := hide hg
 have hgle : w.heap.size ≤ g := by omega
 rw [hg] at hc1 hf1 ⊢
 clear hg
 go_loopw [6] (fun i wr => ∃ (k : Nat) (f' : Nat → Nat), k ≤ nx ∧ i = .int .i64 (k : Int) ∧ (∀ j, f' j < 4294967296) ∧ (∀ j, k + ny ≤ j → f' j = 0) ∧ valF f' (nx + ny) = valF (dgt x) k * y ∧
  Cells wr g 0 (nx + ny) f' ∧ Free wr g 0 (nx + ny) ∧ Below w.heap.size w wr)
  (fun i _ => nx - (intOf i).toNat)
 case atStart => exact ⟨0, fun _ => 0, Nat.zero_le _, rfl, fun _ => by show (0 : Nat) < 4294967296; decide, fun _ _ => rfl, by rw [valF_zeros (fun _ _ => rfl), valF_zero, Nat.zero_mul], hc1, hf1, hb1⟩
 case round =>
  obtain ⟨k, f', hk, rfl, hlt', hzero, hval, hcx, hfr, hbel⟩ := hrel
  by_cases hlt : k < nx
  · have hx1 : ∃ bx ox, ax = some ⟨bx, ox, none⟩ ∧ ∀ W, Below w.heap.size w W → W.cell? ⟨bx, ox + k, none⟩ = some (.int .u32 ((dgt x k : Nat) : Int)) := by
     obtain ⟨bx, ox, e, hcxx⟩ := HX.out.dig.at (by omega)
     exact ⟨bx, ox, e, fun W hW => (hW.cell (p := ⟨bx, ox + k, none⟩) (lt_of_cell (hcxx k hlt))).trans (hcxx k hlt)⟩
    obtain ⟨bx, ox, rfl, hxc⟩ := hx1
    have hk1 : (k : Int) < nx := by omega
    have HV := hide hval
    have HZ := hide hzero
    have HL := hide hlt'
    have HXC := hide hxc
    have HCX := hide hcx
    have HFR := hide hfr
    clear hval hzero hlt' hxc hc1 hf1 hcx hfr
    go_wp2_with fail
    go_loopw [7, 8] (fun cv jv wr' => ∃ (j r : Nat) (f1 : Nat → Nat), j ≤ ny ∧ jv = .int .i64 (j : Int) ∧ cv = .int .u64 (r : Int) ∧ r < 4294967296 ∧ (∀ m, f1 m < 4294967296) ∧ (∀ m, k + ny ≤ m → f1 m = 0) ∧
     valF f1 (nx + ny) + r * bp (k + j) = valF (dgt x) k * y + dgt x k * valF (dgt y) j * bp k ∧ Cells wr' g 0 (nx + ny) f1 ∧ Free wr' g 0 (nx + ny) ∧ Below w.heap.size w wr')
     (fun _ jv _ => ny - (intOf jv).toNat)
    case atStart => exact ⟨0, 0, f', Nat.zero_le _, rfl, rfl, by decide, HL.out, HZ.out, by rw [HV.out, valF_zero]; simp, HCX.out, HFR.out, hbel⟩
    case round =>
     obtain ⟨j, r, f1, hj, rfl, rfl, hr, hlt1, hz1, hval1, hc1, hf1, hb1⟩ := hrel
     by_cases hlj : j < ny
     · have hy1 : ∃ by' oy, ay = some ⟨by', oy, none⟩ ∧ wr.cell? ⟨by', oy + j, none⟩ = some (.int .u32 ((dgt y j : Nat) : Int)) := by
        obtain ⟨by', oy, e, hcy⟩ := (HY.out.below hb1).dig.at (by omega)
        exact ⟨by', oy, e, hcy j hlj⟩
       obtain ⟨by', oy, rfl, hyc⟩ := hy1
       have hxc := HXC.out wr hb1
       have hgc : wr.cell? ⟨g, k + j, none⟩ = some (.int .u32 ((f1 (k + j) : Nat) : Int)) := by have := hc1 (k + j) (by omega); rw [Nat.zero_add] at this; exact this
       have hgz : wr.frozen? ⟨g, k + j, none⟩ = false := by have := hf1 (k + j) (by omega); rw [Nat.zero_add] at this; exact this
       have hj1 : (j : Int) < ny := by omega
       have hkj : (k : Int) + j < (nx : Int) + ny := by omega
       have hdx : dgt x k < 4294967296 := dgt_lt _ _
       have hdy : dgt y j < 4294967296 := dgt_lt _ _
       have hdf : f1 (k + j) < 4294967296 := hlt1 _
       obtain ⟨hm1, hm0⟩ := mul32_le hdx hdy
       have hsum : ((r : Int) + ((f1 (k + j) : Nat) : Int) + ((dgt x k : Nat) : Int) * ((dgt y j : Nat) : Int)) = ((r + f1 (k + j) + dgt x k * dgt y j : Nat) : Int) := by rw [Int.natCast_add, Int.natCast_add, Int.natCast_mul]
       have HS := hide hsum
       have HC1 := hide hc1
       have HF1 := hide hf1
       have HZ1 := hide hz1
       have HL1 := hide hlt1
       have HV1 := hide hval1
       clear hsum hc1 hf1 hz1 hlt1 hval1
       go_wp2_with fail
       go_quiet (fail)
       go_wp2
       have hmN : dgt x k * dgt y j ≤ 18446744065119617025 := by rw [← Int.natCast_mul] at hm1; omega
       go_roundw
       case rel =>
        refine ⟨j + 1, (r + f1 (k + j) + dgt x k * dgt y j) / 4294967296, putF f1 (k + j) ((r + f1 (k + j) + dgt x k * dgt y j) % 4294967296), by omega, by go_num, ?_, by omega, fun m => ?_, fun m hm => ?_, ?_, ?_, fun m hm => ?_, ?_⟩
        · rw [HS.out, cast_div32]
        · unfold putF; split
          · exact Nat.mod_lt _ (by decide)
          · exact HL1.out m
        · rw [putF_ne _ _ (by omega)]; exact HZ1.out m hm
        · rw [← Nat.add_assoc k j 1, bp_succ, valF_succ, ← times_sum, ← bp_add]
          exact times_step (valF_put _ _ (by omega)) HV1.out
        · have := Cells.set (w := wr.drewN nq) (k := k + j) HC1.out ((r + f1 (k + j) + dgt x k * dgt y j) % 4294967296) (by omega)
          rw [Nat.zero_add] at this
          rw [HS.out, cast_mod32]; exact this
        · rw [World.frozen?_setCell]; exact HF1.out m hm
        · exact (below_drewN' hb1 nq).setCell (p := ⟨g, k + j, none⟩) hgle _
       case measure => simp [intOf]; omega
     · obtain rfl : j = ny := by omega
       have hgc : wr.cell? ⟨g, k + j, none⟩ = some (.int .u32 ((f1 (k + j) : Nat) : Int)) := by have := hc1 (k + j) (by omega); rw [Nat.zero_add] at this; exact this
       have hgz : wr.frozen? ⟨g, k + j, none⟩ = false := by have := hf1 (k + j) (by omega); rw [Nat.zero_add] at this; exact this
       have hkj : (k : Int) + j < (nx : Int) + j := by omega
       have hr' : (r : Int) % 4294967296 = (r : Int) := by omega
       have h0 : f1 (k + j) = 0 := hz1 _ (Nat.le_refl _)
       have hv := times_last (valF_put f1 r (show k + j < nx + j by omega)) h0
       rw [hval1, val_full (x := y) (by rw [← HLY.out]; exact Nat.le_refl _)] at hv
       have HV1 := hide hv
       have HC1 := hide hc1
       have HF1 := hide hf1
       have HZ1 := hide hz1
       have HL1 := hide hlt1
       clear hv h0 hval1 hc1 hf1 hz1 hlt1
       go_wp2
       go_roundw
       case rel =>
        refine ⟨k + 1, putF f1 (k + j) r, by omega, by go_num, fun m => ?_, fun m hm => ?_, ?_, ?_, fun m hm => ?_, ?_⟩
        · unfold putF; split
          · exact hr
          · exact HL1.out m
        · rw [putF_ne _ _ (by omega)]; exact HZ1.out m (by omega)
        · rw [HV1.out, valF_succ, Nat.add_mul]; congr 1; simp only [Nat.mul_comm, Nat.mul_left_comm]
        · have := Cells.set (k := k + j) HC1.out r (by omega)
          rw [Nat.zero_add] at this
          exact this
        · rw [World.frozen?_setCell]; exact HF1.out m hm
        · exact hb1.setCell (p := ⟨g, k + j, none⟩) hgle _
       case measure => simp [intOf]; omega
  · obtain rfl : k = nx := by omega
    have hx' : valF (dgt x) k = x := val_full (by rw [← HLX.out]; exact Nat.le_refl _)
    rw [hx'] at hval
    have HV := hide hval
    have HL := hide hlt'
    have HC := hide hcx
    clear hval hx' hzero hlt' hc1 hf1 hcx hfr
    go_wp2_with fail
    refine (rtrim_any (some ⟨g, 0, none⟩) (k + ny) (k + ny) f' (by omega) (Nat.le_refl _) (fun j _ => HL.out j) _ (.inr ⟨g, 0, rfl, HC.out⟩)).mono ?_
    rintro e w3 ⟨a', cap', rfl, ha, hcap', rfl⟩
    go_wp2
    go_ret
    have h4 := IsD.of (.inr ⟨g, 0, rfl, HC.out⟩) (fun j _ => HL.out j) ha
    rw [HV.out] at h4 hcap' ha
    have hfr' : Fresh w (some ⟨g, 0, none⟩) := fun ad e => by cases e; exact hgle
    exact ⟨a', _, cap', by rw [HV.out]; rfl, h4, hcap', hfr'.or ha, hbel⟩
end Go.Proofs.YtgenaicmjddjcaaGreatDoor

/- colletlaw01's cut and raised. -/
namespace Go.Proofs.YtgenaicmjddjcaaGreatDoor
open Go.RowKit Go.Shelf

theorem wpAnyH_one {P : Program} {md : Region.Mode} {ops : Array Oper} {Q : Exit → Act → World → Prop} {S : World → Prop} {fuel : Nat} {l : Array Bool} {a : Act} {w : World} (i : Nat) (hr : Region.ready md ops l = [i])
 (h : wpOp P ops Q i (fun a' w' => S w' ∧ wpAnyH P md ops Q S fuel (l.setIfInBounds i true) a' w') a w) : wpAnyH P md ops Q S (fuel + 1) l a w := by
 refine ⟨fun h0 => ?_, fun j hj => ?_⟩
 · rw [hr] at h0; cases h0
 · rw [hr] at hj
   obtain rfl : j = i := by simpa using hj
   exact h

end Go.Proofs.YtgenaicmjddjcaaGreatDoor

/- colletlaw01's cut at 20 digits. -/
namespace Go.Proofs.YtgenaicmjddjcaaGreatDoor
open Go.RowKit Go.Shelf

end Go.Proofs.YtgenaicmjddjcaaGreatDoor

