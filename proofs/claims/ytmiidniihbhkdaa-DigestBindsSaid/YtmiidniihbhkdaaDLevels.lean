/- The range over a tree's levels: the iterator's closure calls its yield with each level, from the lowest one on. -/
import Derived.RangeFuncNested
import Derived.RangeFuncBound
import Derived.RangeFuncCalls
import Derived.RangeFuncLeaves
import Derived.Shelf.Abstract
import Derived.Shelf.RegionOpen
import Derived.OwnWalkIn
import Derived.TacticsInMore
import Derived.LoopNIn
import Derived.LoopIn
import Derived.Test.YtmiidniihbhkdaaDAbove
namespace Go.Proofs.Ytmiidniihbhkdaa
open Go.RowKit Go.Shelf
attribute [local go_sem] Oper.semAt_some

/-- what the digests of the level k are of -/
def climbP (P : Nat → List UInt8) : Nat → Nat → List UInt8
  | 0 => P
  | k + 1 => upP (climbP P k)
/-- the cells of blocks behind r stay -/
def Stay (r : Nat) (W W' : World) : Prop := ∀ b o v, r < b → W.cell? ⟨b, o, none⟩ = some v → W'.cell? ⟨b, o, none⟩ = some v
theorem Level.stay {r : Nat} {W W' : World} {b n : Nat} {P : Nat → List UInt8} (h : Level W b n P) (t : Stay r W W') (hb : r < b) : Level W' b n P := fun k hk j hj => t b _ _ hb (h k hk j hj)
theorem pow_step {K k : Nat} (h : k < K) : 2 ^ (K - k) = 2 * 2 ^ (K - (k + 1)) := by
  obtain ⟨d, rfl⟩ : ∃ d, K = k + 1 + d := ⟨K - (k + 1), by omega⟩
  rw [show k + 1 + d - k = d + 1 from by omega, show k + 1 + d - (k + 1) = d from by omega, Nat.pow_succ, Nat.mul_comm]

set_option maxRecDepth 100000 in
set_option maxHeartbeats 1000000 in
theorem levels1_in (n : Nat) (hn : 4 ≤ n) (l box r : Nat) (ao : Option Addr) (len cap : Nat) (hlen : len ≤ 1099511627776) (S : Nat → ByteArray) (hs : ∀ j, j < len → (S j).size ≤ 9223372036854775807) (J : Nat → World → Prop)
    (hbox : ∀ W, J 0 W → W.cell? ⟨box, 0, none⟩ = some (.slice ao len cap) ∧ Strs W ao len S)
    (hJB : ∀ k W W', J k W → Below W.heap.size W W' → J k W') (hJr : ∀ k W, J k W → r < W.heap.size)
    (hY : ∀ k b W, k ≤ lg len → r < b → J k W → Level W b (2 ^ (lg len - k)) (climbP (lowP S len) k) →
      YieldAt Fence.wide (n - 1) Try.prog l #[.slice (some ⟨b, 0, none⟩) (2 ^ (lg len - k)) (2 ^ (lg len - k))] W fun e W' => e = .returned (.bool true) ∧ J (k + 1) W' ∧ Stay r W W')
    (W : World) (h0 : J 0 W) :
    CallsIn Fence.wide n Try.prog 42 #[.func (.yield l) #[] #[], .pointer (some ⟨box, 0, none⟩)] W fun e W' => (∃ v, e = .returned v) ∧ J (lg len + 1) W' := by
  obtain ⟨hb0, hS0⟩ := hbox _ h0
  have HS := hide hs
  have HY := hide hY
  have HB := hide hJB
  have HR := hide hJr
  have HX := hide hbox
  clear hs hY hJB hJr hbox
  refine callsIn_of_wp Try.func42 rfl trivial ?_ rfl
  simp only [Try.ntmps42, List.size_toArray, List.length_cons, List.length_nil, Nat.reduceAdd, Nat.reduceSub, Array.replicate_succ, Array.replicate_zero, List.push_toArray, List.append_toArray, List.nil_append, List.cons_append]
  gi_wp2
  refine ⟨trivial, fun _ => by omega, (callsIn_wide.2 (leaves_any ao len cap hlen S HS.out _ hS0)).mono ?_⟩
  rintro e W1 ⟨b1, rfl, hf1, hL1, hB1⟩
  have hJ1 := HB.out 0 _ _ h0 hB1
  have hr1 := HR.out 0 _ h0
  clear hb0 hS0 HS
  gi_wp2
  gi_loopw [3] (fun v wr => ∃ (k b m : Nat), k ≤ lg len ∧ v = .slice (some ⟨b, 0, none⟩) m m ∧ Hid (m = 2 ^ (lg len - k)) ∧ 1 ≤ m ∧ m ≤ 1099511627776 ∧ r < b ∧ J k wr ∧ Level wr b m (climbP (lowP S len) k))
    (fun v _ => match v with | .slice _ m _ => m | _ => 0)
  case atStart => exact ⟨0, b1, _, Nat.zero_le _, rfl, rfl, Nat.two_pow_pos _, pow_small (lg_small hlen), Nat.lt_of_lt_of_le hr1 hf1, hJ1, hL1⟩
  case round =>
    obtain ⟨k, b, m, hk, rfl, hm, hm1, hm2, hrb, hJ, hL⟩ := hrel
    have hYk := HY.out k b wr hk hrb hJ
    rw [← show m = _ from hm] at hYk
    obtain ⟨fn, tmps, assign, body, hy, hR⟩ := hYk hL
    by_cases hlt : 1 < m
    · have hlt' : (1 : Int) < (m : Int) := by omega
      have hm0 : m = 2 ^ (lg len - k) := hm
      have hk1 : k < lg len := by
        rcases Nat.lt_or_ge k (lg len) with h | h
        · exact h
        · rw [show lg len - k = 0 from by omega] at hm0; omega
      obtain ⟨m', hm'⟩ : ∃ m', 2 ^ (lg len - (k + 1)) = m' := ⟨_, rfl⟩
      have h2 : m = 2 * m' := by rw [hm0, pow_step hk1, hm']
      have hm'1 : 1 ≤ m' := by omega
      have hm'2 : m' ≤ 1099511627776 := by omega
      have HM := hide hm'
      subst h2
      clear hm0 hm hm' hYk
      gi_wp2
      refine ⟨fun _ => by omega, hR.mono ?_⟩
      rintro e W3 ⟨rfl, hJ3, hst⟩
      have hL3 := hL.stay hst hrb
      clear hy hR
      gi_wp2
      refine ⟨trivial, fun _ => by omega, (callsIn_wide.2 (above_any b m' (2 * m') hm'1 hm'2 _ _ hL3)).mono ?_⟩
      rintro e W4 ⟨b4, rfl, hf4, hL4, hB4⟩
      have hJ4 := HB.out _ _ _ hJ3 hB4
      have hr4 := HR.out _ _ hJ3
      gi_wp2
      go_roundw
      case rel => exact ⟨k + 1, b4, m', by omega, rfl, HM.out.symm, hm'1, hm'2, Nat.lt_of_lt_of_le hr4 hf4, hJ4, hL4⟩
      case measure => show m' < 2 * m'; omega
    · have hlt' : ¬ (1 : Int) < (m : Int) := by omega
      have hm0 : m = 2 ^ (lg len - k) := hm
      have hk1 : k = lg len := by
        rcases Nat.lt_or_ge k (lg len) with h | h
        · exfalso; rw [pow_step h] at hm0; have := Nat.two_pow_pos (lg len - (k + 1)); omega
        · omega
      subst hk1
      clear hm0 hYk
      gi_wp2
      refine ⟨fun _ => by omega, hR.mono ?_⟩
      rintro e W3 ⟨rfl, hJ3, hst⟩
      clear hy hR
      gi_wp2
      go_end0
      exact ⟨⟨_, rfl⟩, hJ3⟩
/-- A step of a loop's book-keeping: a block from B on that holds no cells has turned, or is new. -/
structure Calm (B : Nat) (W W' : World) : Prop where
  cell : ∀ a v, W.cell? a = some v → W'.cell? a = some v
  frozen : ∀ a v, W.cell? a = some v → W'.frozen? a = W.frozen? a
  below : Below B W W'
theorem ownFrom_of {β : Type} {B : Nat} {I : β → World → Prop} (hs : ∀ s W, I s W → B ≤ W.heap.size) (h : ∀ s W W', I s W → Calm B W W' → I s W') : OwnFrom B I := fun s W W' _ hi hg hr =>
  h s W W' hi ⟨fun _ _ hc => cell_kept hc hg (fun r e => (hr r e).2), fun _ _ hc => frozen_kept hc hg (fun r e => (hr r e).2),
    (Below.refl B W).grown hg (hs s W hi) (fun k e => (hr k e).1)⟩
theorem calm_put {B D : Nat} {W : World} {o : Obj} (o' : Obj) (hB : B ≤ D) (h : W.heap[D]? = some o) (ho : o.isCells = false) : Calm B W (W.putObj D o') :=
  have hg := grownBy_putObj' W D o'
  have hr : ∀ r, some D = some r → ∃ o : Obj, W.heap[r]? = some o ∧ o.isCells = false := fun r e => by cases e; exact ⟨o, h, ho⟩
  ⟨fun _ _ hc => cell_kept hc hg hr, fun _ _ hc => frozen_kept hc hg hr, hg.os, hg.tape, hg.output, hg.size, fun k hk => World.putObj_heap_other (by omega)⟩
/-- the way out of a function that has held one range over a function -/
theorem leavesM_one {n : Nat} {P : Program} {fn : Func} {tmps : Array Value} {R : Ending → World → Prop} {w : World} {D : Nat} (hK : w.heap[D]? = some (.deferred (some [])))
    (h : ∃ v, (results fn tmps).run P (w.putObj D (.deferred none)) = .ok v (w.putObj D (.deferred none)) ∧ R (.returned v) (w.putObj D (.deferred none))) :
    LeavesInM Fence.wide n P fn tmps R [{ target := .collected D, args := #[] }] .returning w :=
  ⟨by simp, .inl ⟨_, _, rfl, run_takeDeferred hK, h⟩⟩


/-- How the body of a round is left. -/
def levPost (B k r : Nat) (I : Nat → World → Prop) (W : World) : Exit → Act → World → Prop
  | .normal, _, W' => KeepsFrom B W W' ∧ I (k + 1) W' ∧ Stay r W W'
  | _, _, _ => False
theorem Stay.trans {r : Nat} {x y z : World} (h : Stay r x y) (k : Stay r y z) : Stay r x z := fun b o v hb hc => k b o v hb (h b o v hb hc)

set_option maxHeartbeats 1000000 in
/-- 'for level := range levels(l) ..': the invariant I k: k levels have been visited. -/
theorem wp_levels {ps : Array Tmp} {assign body : Code} {Q : Exit → Act → World → Prop} {a : Act} {w : World} {g : Operand}
    (n : Nat) (hn : 6 ≤ n) (box r : Nat) (ao : Option Addr) (len cap : Nat) (hlen : len ≤ 1099511627776) (S : Nat → ByteArray) (hs : ∀ j, j < len → (S j).size ≤ 9223372036854775807)
    (hg : a.eval g = .func (.func 42) #[] #[.pointer (some ⟨box, 0, none⟩)]) (hps : ps.size = 1) (hrw : r < w.heap.size)
    (I : Nat → World → Prop) (hI : OwnFrom w.heap.size I) (hIB : ∀ k W W', I k W → w.heap.size ≤ W.heap.size → Below W.heap.size W W' → I k W')
    (hbox : ∀ W, I 0 W → W.cell? ⟨box, 0, none⟩ = some (.slice ao len cap) ∧ Strs W ao len S) (h0 : I 0 w) (a₁ : Nat → Nat → Act)
    (hassign : ∀ (l b m : Nat) (W : World) (K : Act → World → Prop), K (a₁ b m) W →
      assign.wpIn (Fence.wide.inRound l) (n - 1 - 1) Try.prog (Exit.then K (fun _ _ _ => False)) { tmps := (ps.zip #[.slice (some ⟨b, 0, none⟩) m m]).foldl (fun t (p, v) => t.setIfInBounds p v) a.tmps, defers := [] } W)
    (hbody : ∀ (l k b m : Nat) (W : World), k ≤ lg len → r < b → 1 ≤ m → m ≤ 1099511627776 → I k W → Level W b m (climbP (lowP S len) k) →
      body.wpIn (Fence.wide.inRound l) (n - 1 - 1) Try.prog (levPost w.heap.size k r I W) (a₁ b m) W)
    (hdone : ∀ (D : Nat) (W : World), w.heap.size ≤ D → I (lg len + 1) W → W.heap[D]? = some (.deferred (some [])) → Q .normal { a with defers := { target := .collected D, args := #[] } :: a.defers } W) :
    (Code.rangeFunc g ps assign body).wpIn Fence.wide n Try.prog Q a w := by
  refine wpIn_rangeFunc ?_
  intro fn hfn
  rw [show Fence.wide.round = none from rfl]
  obtain ⟨rec, hrec⟩ : ∃ rec : LoopState → Option Code → Loop, rec = fun st pe => { state := st, pending := pe, fn, tmps := a.tmps, params := ps, assign, body, defers := w.heap.size } := ⟨_, rfl⟩
  obtain ⟨W1, hW1⟩ : ∃ W1, (w.alloc (.deferred (some []))).alloc (.loop (rec .ready none)) = W1 := ⟨_, rfl⟩
  have hL1 : W1.heap[w.heap.size + 1]? = some (.loop (rec .ready none)) := by
    rw [← hW1]; have := World.alloc_heap_new (w.alloc (.deferred (some []))) (.loop (rec .ready none)); rwa [World.size_alloc] at this
  have hK1 : W1.heap[w.heap.size]? = some (.deferred (some [])) := by
    rw [← hW1]; exact (Below.heap_alloc _ _ _ (by simp)).trans (World.alloc_heap_new w _)
  have hI1 : I 0 W1 := by rw [← hW1]; exact hI.alloc _ (hI.alloc _ h0)
  refine ⟨w.heap.size + 1, [{ target := .collected w.heap.size, args := #[] }], W1, { target := .fn (.func 42) #[.pointer (some ⟨box, 0, none⟩)], args := #[.func (.yield (w.heap.size + 1)) #[] #[]] }, W1, 42,
    #[.func (.yield (w.heap.size + 1)) #[] #[]] ++ #[.pointer (some ⟨box, 0, none⟩)], W1, ?_, ?_, ?_, ?_, fun _ => by omega, ?_⟩
  · rw [← hW1, hrec]; exact run_enterLoop_outer _ _ _ _ _
  · simp only [resolve, hg]
    simp [go_sem]
  · intro f' _; trivial
  · simp [invoke, go_sem]
  · refine (levels1_in (n - 1) (by omega) (w.heap.size + 1) box r ao len cap hlen S hs
      (fun k W => I k W ∧ W.heap[w.heap.size + 1]? = some (.loop (rec .ready none)) ∧ W.heap[w.heap.size]? = some (.deferred (some [])))
      (fun W h => hbox W h.1) ?_ ?_ ?_ W1 ⟨hI1, hL1, hK1⟩).mono ?_
    · rintro k W W' ⟨hi, hl, hkd⟩ hb
      have hlt : w.heap.size + 1 < W.heap.size := (Array.getElem?_eq_some_iff.1 hl).1
      exact ⟨hIB k W W' hi (by omega) hb, (hb.block _ hlt).trans hl, (hb.block _ (by omega)).trans hkd⟩
    · rintro k W ⟨_, hl, _⟩
      have hlt : w.heap.size + 1 < W.heap.size := (Array.getElem?_eq_some_iff.1 hl).1
      omega
    · rintro k b W hk hrb ⟨hi, hl, hkd⟩ hLv
      have hlt : w.heap.size + 1 < W.heap.size := (Array.getElem?_eq_some_iff.1 hl).1
      obtain ⟨m, hm⟩ : ∃ m, 2 ^ (lg len - k) = m := ⟨_, rfl⟩
      have hm1 : 1 ≤ m := by rw [← hm]; exact Nat.two_pow_pos _
      have hm2 : m ≤ 1099511627776 := by rw [← hm]; exact pow_small (Nat.le_trans (Nat.sub_le _ _) (lg_small hlen))
      rw [hm] at hLv ⊢
      have hy := run_yield (P := Try.prog) (args := #[.slice (some ⟨b, 0, none⟩) m m]) hl (by rw [hrec]; exact hps.symm)
      rw [hrec] at hy
      refine ⟨fn, _, assign, body, hy, roundIn_of_wpIn hfn (hassign _ b m W _ ⟨_, run_beginRound hl (by rw [hrec]), ?_⟩)⟩
      have hl2 : (W.putObj (w.heap.size + 1) (.loop { rec .ready none with state := .busy })).heap[w.heap.size + 1]? = some (.loop { rec .ready none with state := .busy }) := World.putObj_heap_same hlt
      have hk2 : (W.putObj (w.heap.size + 1) (.loop { rec .ready none with state := .busy })).heap[w.heap.size]? = some (.deferred (some [])) := (World.putObj_heap_other (by omega)).trans hkd
      have hst2 : Stay r W (W.putObj (w.heap.size + 1) (.loop { rec .ready none with state := .busy })) := fun b o v _ hc =>
        cell_kept hc (grownBy_putObj' _ _ _) (fun r e => by cases e; exact ⟨_, hl, rfl⟩)
      refine wpIn_mono (hbody _ k b m _ hk hrb hm1 hm2 (hI.putObj _ hi (by omega) hl rfl) (hLv.stay hst2 hrb)) ?_
      rintro e a3 W3 hp
      cases e with
      | normal =>
        obtain ⟨hk3, hi3, hst3⟩ := hp
        have hl3 := hk3.same _ _ (by omega) hl2 rfl
        have hr := run_endRound (P := Try.prog) none hl3
        rw [hrec] at hr hl3
        refine ⟨_, _, hr, rfl, ⟨hI.putObj _ hi3 (by omega) hl3 rfl, ?_, (World.putObj_heap_other (by omega)).trans (hk3.same _ _ (Nat.le_refl _) hk2 rfl)⟩, (hst2.trans hst3).trans fun b o v _ hc =>
          cell_kept hc (grownBy_putObj' _ _ _) (fun r e => by cases e; exact ⟨_, hl3, rfl⟩)⟩
        rw [World.putObj_heap_same (Array.getElem?_eq_some_iff.1 hl3).1, hrec]
        rfl
      | ret => exact hp.elim
      | exit id => exact hp.elim
      | goto t => exact hp.elim
      | panic ch => exact hp.elim
      | outgrown => exact hp.elim
    · rintro e W2 ⟨⟨v, rfl⟩, ⟨hi, hl, hk⟩⟩
      exact ⟨none, _, by have := run_endLoop (P := Try.prog) hl (by rw [hrec]; simp); rw [hrec] at this; exact this, hdone _ _ (Nat.le_refl _) (hI.putObj _ hi (by omega) hl rfl) ((World.putObj_heap_other (by omega)).trans hk)⟩

/-- A function that holds ranges over functions, from its body. -/
theorem calls_marks {f : FuncId} {fn : Func} {c : Code} {args : Array Value} {w : World} {R : Ending → World → Prop} (hf : Try.prog.funcs[f]? = some fn) (hb : fn.body = some c)
    (h : c.wp Try.prog (bodyPostM Fence.wide 11 Try.prog fn R) { tmps := args ++ Array.replicate (fn.ntmps - args.size) undef, defers := [] } w) : Calls Try.prog f args w R :=
  callsIn_wide.1 (callsIn_of_wp_marks hf hb trivial (wpIn_wide.2 h) rfl)
end Go.Proofs.Ytmiidniihbhkdaa
