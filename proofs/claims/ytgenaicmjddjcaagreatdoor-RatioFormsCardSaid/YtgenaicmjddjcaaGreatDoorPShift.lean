/- Several texts in one. -/
import Derived.OrdersIn
import Derived.OrdersHeld
import Derived.StillTail
import Derived.StillTactics
import Derived.RangeFuncCalls
import Derived.TacticsIn
import Derived.Test.YtgenaicmjddjcaaGreatDoorPNumB
import Derived.Test.YtgenaicmjddjcaaGreatDoorPMath
import Derived.StillTailTactics
import Derived.Test.YtgenaicmjddjcaaGreatDoorPNumA
import Derived.Test.YtgenaicmjddjcaaGreatDoorDiv64
import Derived.Deep.RegionHeld3
/- A region that draws its order inside the round of a range over a function: the laws outside a fence serve there. It speaks of no program. -/
namespace Go.Proofs.YtgenaicmjddjcaaGreatDoor
open Go.RowKit

theorem rows_wide {n : Nat} {P : Program} {row : String} {args : Array Value} {w : World} {R : Value → World → Prop} (l : Nat) (h : Rows P row args w R) : RowsIn (Fence.wide.inRound l) n P row args w R := by
 intro c cs _
 obtain ⟨v, w', r, s⟩ := h c cs
 exact ⟨v, w', r, stepsIn_wide.2 s⟩
theorem Oper.wp_inRound {P : Program} {o : Oper} (hd : ∀ c, o.op ≠ .defer c) (l n : Nat) {a : Act} {w : World} {K : Act → World → Prop} {Q : Exit → Act → World → Prop} (h : o.wp P a w K Q) :
 o.wpIn (Fence.wide.inRound l) n P a w K Q := by
 refine ⟨fun f _ => trivial, ?_⟩
 rw [Fence.inRound_round, Oper.semAt_some l _ o hd]
 unfold Oper.wp at h
 generalize (execOp a.eval o).run P w = r at *
 cases r with
 | ok x w' =>
   cases x <;> simp only [Oper.upon, Oper.uponIn] at h ⊢ <;>
    first
     | exact h
     | exact ⟨(fun e => by cases e), CallsIn.inRound l (callsIn_wide.2 h)⟩
     | exact ⟨(fun e => by cases e), rows_wide l h⟩
 | halt x w' => cases x <;> simp only [Oper.upon, Oper.uponIn] at h ⊢ <;> exact h
def noDefer (ops : Array Oper) : Bool := ops.all fun o => match o.op with | .defer _ => false | _ => true
theorem noDefer_at {ops : Array Oper} (h : noDefer ops = true) {i : Nat} {o : Oper} (ho : ops[i]? = some o) (c : Call) : o.op ≠ .defer c := by
 intro e
 unfold noDefer at h
 obtain ⟨hi, hio⟩ := Array.getElem?_eq_some_iff.1 ho
 have := Array.all_eq_true.1 h i hi
 rw [hio, e] at this
 cases this
theorem wpOp_inRound {P : Program} {ops : Array Oper} {Q : Exit → Act → World → Prop} (hQ : ¬ LetsOut Q) (hd : noDefer ops = true) (l n : Nat) {i : Nat} {K : Act → World → Prop} {a : Act} {w : World}
 (h : wpOp P ops Q i K a w) : wpOpIn (Fence.wide.inRound l) n P ops Q i K a w := by
 unfold wpOp at h
 unfold wpOpIn
 cases ho : ops[i]? with
 | none => simpa only [ho] using h
 | some o =>
   simp only [ho] at h ⊢
   split
   · rename_i hw
     rw [if_pos hw] at h
     rcases h with h | h
     · exact Oper.wp_inRound (noDefer_at hd ho) l n h
     · exact absurd h.2 hQ
   · rename_i hw
     rw [if_neg hw] at h
     exact ⟨fun f _ => trivial, h⟩
theorem wpAny_inRound {P : Program} {md : Region.Mode} {ops : Array Oper} {Q : Exit → Act → World → Prop} (hQ : ¬ LetsOut Q) (hd : noDefer ops = true) (l n : Nat) :
 ∀ (fuel : Nat) (listed : Array Bool) (a : Act) (w : World), wpAny P md ops Q fuel listed a w → wpAnyIn (Fence.wide.inRound l) n P md ops Q fuel listed a w
 | 0, _, _, _, h => h
 | fuel + 1, _, _, _, h => ⟨h.1, fun i hi => wpOpIn_mono (fun a' w' h' => wpAny_inRound hQ hd l n fuel _ a' w' h') (wpOp_inRound hQ hd l n (h.2 i hi))⟩
theorem inRound_region {P : Program} {id : Nat} {ops : Array Oper} {Q : Exit → Act → World → Prop} {a : Act} {w : World} (l n : Nat) (hQ : ¬ LetsOut Q) (hd : noDefer ops = true) (hm : P.follows .mixedOrders = true)
 (h : wpAny P .any ops Q ops.size (Array.replicate ops.size false) a { w with drawn := w.drawn + 1 }) : (Code.region id ops true).wpIn (Fence.wide.inRound l) n P Q a w :=
 wpIn_region_any hm (wpAny_inRound hQ hd l n _ _ _ _ h)
theorem inRound_still_tail {P : Program} {id : Nat} {Q : Exit → Act → World → Prop} {a : Act} {w : World} {l : List Oper} (lp nf : Nat) (hQ : ¬ LetsOut Q) (hd : noDefer l.toArray = true) (n : Nat) (hm : P.follows .mixedOrders = true) (hB : Region.lexTailB .any l.toArray n = true)
 (h : wpStill P l.toArray { w with drawn := w.drawn + 1 } (fun a' => wpList P l.toArray Q (l.drop n) a' { w with drawn := w.drawn + 1 }) (l.take n) a) : (Code.region id l.toArray true).wpIn (Fence.wide.inRound lp) nf P Q a w := by
 simp only [Region.lexTailB, Bool.and_eq_true, decide_eq_true_eq] at hB
 obtain ⟨⟨⟨⟨hsel, hn⟩, hs⟩, hc⟩, hlex⟩ := hB
 have hn' : n < l.length := by simpa using hn
 have htl : (l.take n).length = n := by simp; omega
 have hdl : (l.drop n).length = l.toArray.size - n := by simp
 have inv0 : HeadInv .any l.toArray n (Array.replicate l.toArray.size false) :=
  ⟨by simp, fun j oj _ hl => (by rw [getD_replicate_false] at hl; cases hl), fun t _ ht => getD_in (by simpa using ht) (getD_replicate_false _ _)⟩
 have H := wpAnyL_lex (md := .any) (g := l.toArray.size - n) hsel hs hc hn (l.take n) 0 _ a (fun j hj => by
  have hj' : j < n := by rw [htl] at hj; exact hj
  simp [hj']) (by simpa using htl) inv0 (by rw [htl]; exact hlex) h
 refine inRound_region lp nf hQ hd hm ?_
 have := wpAny_of_head (Q' := Q) (g := l.toArray.size - n) (fun listed a' hL => by
  have := wpAny_of_seq (md := .any) (Q' := Q) (l.drop n) n listed a' { w with drawn := w.drawn + 1 } (fun j => by simp [List.getElem?_drop]) (by rw [hdl]; exact hL.1) hL.2
  rwa [hdl] at this) _ _ _ H
 rw [htl, show n + (l.toArray.size - n) = l.toArray.size by omega] at this
 exact this
theorem inRound_held_drew {P : Program} {id : Nat} {ops : Array Oper} {Q : Exit → Act → World → Prop} {S : World → Prop} {a : Act} {w : World} (l n : Nat) (hQ : ¬ LetsOut Q) (hd : noDefer ops = true) (hm : P.follows .mixedOrders = true) (hS : S w.drew)
 (h : S w.drew → wpAnyH P .any ops Q S ops.size (Array.replicate ops.size false) a w.drew) : (Code.region id ops true).wpIn (Fence.wide.inRound l) n P Q a w :=
 inRound_region l n hQ hd hm (wpAny_of_held _ _ _ _ (h hS))
end Go.Proofs.YtgenaicmjddjcaaGreatDoor

/- num's shiftDown: digits divided in their place by a power of 2. -/
namespace Go.Proofs.YtgenaicmjddjcaaGreatDoor
open Go.RowKit Go.Shelf
attribute [local go_sem] Oper.semAt_some

def pairW (V k : Nat) : Nat := dgt V (k + 1) * 4294967296 + dgt V k
theorem pairW_lt (V k : Nat) : pairW V k < 18446744073709551616 := by
 have h1 := dgt_lt V (k + 1); have h2 := dgt_lt V k; unfold pairW; omega
theorem pairW_step (V k : Nat) : pairW V (k + 1) * 4294967296 % 18446744073709551616 = dgt V (k + 1) * 4294967296 := by
 have h1 := dgt_lt V (k + 2); have h2 := dgt_lt V (k + 1); unfold pairW; omega

set_option maxRecDepth 100000 in
set_option maxHeartbeats 2000000 in
theorem shiftDown_any (b off L cap V s : Nat) (hs : s ≤ 31) (hL : L ≤ 1099511627776) (hVL : V < bp L) (w : World) (hb : b < w.heap.size) (hx : Cells w b off L (dgt V)) (hfr : Free w b off L) :
 Calls Tryz.prog 158 #[.slice (some ⟨b, off, none⟩) L cap, .int .i64 (s : Int)] w fun e w' => (∃ v, e = .returned v) ∧
  Cells w' b off L (dgt (V / 2 ^ s)) ∧ Touch b off (off + L) w w' := by
 refine calls_marks Tryz.func158 rfl ?_
 simp only [Tryz.ntmps158, List.size_toArray, List.length_cons, List.length_nil, Nat.reduceAdd, Nat.reduceSub, Array.replicate_succ, Array.replicate_zero, List.push_toArray, List.append_toArray, List.nil_append, List.cons_append]
 go_wp2_with (go_at_call 66; refine (backward_any _ _ _ _).mono ?_; rintro e w' ⟨rfl, rfl⟩)
 obtain ⟨W0, hW0⟩ : ∃ W0, (((w.alloc (Obj.cells #[.slice (some ⟨b, off, none⟩) L cap] 23)).alloc (Obj.cells #[.int .i64 (s : Int)] 3)).alloc (Obj.cells #[.int .u64 0] 77)).alloc (Obj.cells #[.slice (some ⟨b, off, none⟩) L cap] 23) = W0 := ⟨_, rfl⟩
 have c0 : W0.cell? ⟨w.heap.size, 0, none⟩ = some (.slice (some ⟨b, off, none⟩) L cap) := by rw [← hW0]; simp [go_sem]
 have c1 : W0.cell? ⟨w.heap.size + 1, 0, none⟩ = some (.int .i64 (s : Int)) := by rw [← hW0]; simp [go_sem]
 have c2 : W0.cell? ⟨w.heap.size + 1 + 1, 0, none⟩ = some (.int .u64 0) := by rw [← hW0]; simp [go_sem]
 have z2 : W0.frozen? ⟨w.heap.size + 1 + 1, 0, none⟩ = false := by rw [← hW0]; simp [go_sem]
 have c3 : W0.cell? ⟨w.heap.size + 1 + 1 + 1, 0, none⟩ = some (.slice (some ⟨b, off, none⟩) L cap) := by rw [← hW0]; simp [go_sem]
 have hsz : W0.heap.size = w.heap.size + 4 := by rw [← hW0]; simp
 have hB0 : Below w.heap.size w W0 := by rw [← hW0]; exact ((((Below.refl _ w).alloc (Nat.le_refl _) _).alloc (by simp) _).alloc (by simp; omega) _).alloc (by simp; omega) _
 have hT0 : Touch b off (off + L) w W0 := Touch.of_below hB0 (Nat.le_refl _) hb
 rw [hW0]
 clear hW0
 have HVL := hide hVL
 have HX := hide hx
 have HFR := hide hfr
 have hmx : Tryz.prog.follows .mixedOrders = true := by kernel_rfl
 clear hVL hx hfr
 refine wp_backW (w.heap.size + 1 + 1 + 1) (some ⟨b, off, none⟩) L cap (by omega) rfl rfl
  (fun k W => (W.cell? ⟨w.heap.size, 0, none⟩ = some (.slice (some ⟨b, off, none⟩) L cap) ∧ W.cell? ⟨w.heap.size + 1, 0, none⟩ = some (.int .i64 (s : Int)) ∧ W.cell? ⟨w.heap.size + 1 + 1, 0, none⟩ = some (.int .u64 ((pairW V k : Nat) : Int)) ∧
    W.frozen? ⟨w.heap.size + 1 + 1, 0, none⟩ = false ∧ W.cell? ⟨w.heap.size + 1 + 1 + 1, 0, none⟩ = some (.slice (some ⟨b, off, none⟩) L cap)) ∧
    Touch b off (off + L) w W ∧ W0.heap.size ≤ W.heap.size ∧ Cells W b off L (mixF (dgt V) (dgt (V / 2 ^ s)) k))
  (fun _ _ => False)
  ?hI ?hIx (fun _ _ h => h.1.2.2.2.2) ⟨⟨c0, c1, by rw [c2]; unfold pairW; rw [dgt_ge HVL.out (Nat.le_refl _), dgt_ge HVL.out (Nat.le_succ _)]; rfl, z2, c3⟩, hT0, Nat.le_refl _, (HX.out.below hB0 (.inl (Nat.le_refl _))).congr fun j hj => by simp [mixF, hj]⟩
  (fun k v => { tmps := #[.slice (some ⟨b, off, none⟩) L cap, .int .i64 (s : Int), .pointer (some ⟨w.heap.size, 0, none⟩), .pointer (some ⟨w.heap.size + 1, 0, none⟩), .pointer (some ⟨w.heap.size + 1 + 1, 0, none⟩), .int .i64 (k : Int), .int .u32 v, .slice (some ⟨b, off, none⟩) L cap,
    .func (.func 113) #[] #[.pointer (some ⟨w.heap.size + 1 + 1 + 1, 0, none⟩)], .int .i64 (k : Int), .int .u32 v, undef, undef, undef, undef, undef, undef, undef, undef, undef, undef, undef, undef], defers := [] })
  ?hcell ?assign ?body ?done ?stop
 case hI =>
  refine ownFrom_of (fun _ _ h => h.2.2.1) ?_
  rintro s W W' ⟨⟨h0, h1, h2, h3, h4⟩, h5, h6, h7⟩ hc
  exact ⟨⟨hc.cell _ _ h0, hc.cell _ _ h1, hc.cell _ _ h2, (hc.frozen _ _ h2).trans h3, hc.cell _ _ h4⟩, h5.calm hc (by omega) hb, Nat.le_trans h6 hc.below.size, hc.cells h7⟩
 case hIx => exact fun _ _ _ _ h _ _ => h
 case hcell =>
  rintro k W hk ⟨_, _, _, h7⟩
  exact ⟨b, off, _, rfl, h7 k hk⟩
 case assign =>
  intro l k v W K hK
  gi_wp2
  exact hK
 case body =>
  rintro l k v b' off' W hk ⟨⟨h0, h1, h2, h3, h4⟩, h5, h6, h7⟩ ha hcv
  cases ha
  obtain rfl : v = ((dgt V k : Nat) : Int) := by
   have := h7 k hk
   rw [hcv] at this
   have e : mixF (dgt V) (dgt (V / 2 ^ s)) (k + 1) k = dgt V k := by simp [mixF]
   rw [e] at this
   cases this; rfl
  have hdl := dgt_lt V k
  have hdl1 := dgt_lt V (k + 1)
  have hst := pairW_step V k
  have hpl := pairW_lt V k
  have hdd : dgt (V / 2 ^ s) k = pairW V k / 2 ^ s % 4294967296 := dgt_shr k (by omega)
  have hpe : pairW V k = dgt V (k + 1) * 4294967296 + dgt V k := rfl
  obtain ⟨A, hA⟩ : ∃ A, pairW V (k + 1) = A := ⟨_, rfl⟩
  obtain ⟨A', hA'⟩ : ∃ A', pairW V k = A' := ⟨_, rfl⟩
  obtain ⟨d, hd⟩ : ∃ d, dgt V k = d := ⟨_, rfl⟩
  obtain ⟨d1, hd1⟩ : ∃ d1, dgt V (k + 1) = d1 := ⟨_, rfl⟩
  obtain ⟨D, hD⟩ : ∃ D, dgt (V / 2 ^ s) k = D := ⟨_, rfl⟩
  have HD := hide hD
  rw [hA] at hst h2
  rw [hA'] at hpl hdd hpe
  rw [hd] at hdl hcv hpe ⊢
  rw [hd1] at hdl1 hst hpe
  rw [hD] at hdd
  obtain ⟨M, hM⟩ : ∃ M, d1 * 4294967296 = M := ⟨_, rfl⟩
  have Z1 : IntKind.u64.wrap ((A : Int) * 4294967296) = (M : Int) := by rw [show IntKind.u64.wrap ((A : Int) * 4294967296) = ((A : Int) * 4294967296) % 18446744073709551616 from rfl]; omega
  have Z2 : bits BinOp.or IntKind.u64 (M : Int) (d : Int) = (A' : Int) := by
   have := or_digits d1 d hdl1 hdl
   rw [hpe, ← this]; congr 1; omega
  obtain ⟨T, hT⟩ : ∃ T, A' / 2 ^ s = T := ⟨_, rfl⟩
  have Z3 : (A' : Int) / 2 ^ s = (T : Int) := by rw [← hT]; simp
  have Z4 : IntKind.u32.wrap (T : Int) = (D : Int) := by rw [show IntKind.u32.wrap (T : Int) = (T : Int) % 4294967296 from rfl, hdd, hT]; omega
  have hfz : W.frozen? ⟨b, off + k, none⟩ = false := HFR.out.touch h5 hb k hk
  have hk' : (k : Int) < L := by omega
  have hbs := lt_of_cell hcv
  have H7 := hide h7
  have HA := hide hA'
  clear h7 hM hT hA hA' hd hd1 hD hst hpl hdd hpe hdl1
  gi_wp2
  have hne1 : w.heap.size ≠ w.heap.size + 1 + 1 := by omega
  have hne2 : w.heap.size + 1 ≠ w.heap.size + 1 + 1 := by omega
  have hne3 : w.heap.size + 1 + 1 + 1 ≠ w.heap.size + 1 + 1 := by omega
  have hne4 : b ≠ w.heap.size + 1 + 1 := by omega
  have ne : ∀ {x y o p : Nat}, x ≠ y → (⟨x, o, none⟩ : Addr) ≠ ⟨y, p, none⟩ := fun h e => h (congrArg Addr.block e)
  have e0 : (W.setCell ⟨w.heap.size + 1 + 1, 0, none⟩ (.int .u64 (A' : Int))).cell? ⟨w.heap.size, 0, none⟩ = some (.slice (some ⟨b, off, none⟩) L cap) := (cell_setCell_ne _ _ _ _ (ne hne1) rfl rfl).trans h0
  have e1 : (W.setCell ⟨w.heap.size + 1 + 1, 0, none⟩ (.int .u64 (A' : Int))).cell? ⟨w.heap.size + 1, 0, none⟩ = some (.int .i64 (s : Int)) := (cell_setCell_ne _ _ _ _ (ne hne2) rfl rfl).trans h1
  have e2 : (W.setCell ⟨w.heap.size + 1 + 1, 0, none⟩ (.int .u64 (A' : Int))).cell? ⟨w.heap.size + 1 + 1, 0, none⟩ = some (.int .u64 (A' : Int)) := World.cell?_setCell_same' _ _ _ (by rw [h2]; rfl)
  have e3 : (W.setCell ⟨w.heap.size + 1 + 1, 0, none⟩ (.int .u64 (A' : Int))).frozen? ⟨w.heap.size + 1 + 1, 0, none⟩ = false := by rw [World.frozen?_setCell]; exact h3
  have e4 : (W.setCell ⟨w.heap.size + 1 + 1, 0, none⟩ (.int .u64 (A' : Int))).cell? ⟨w.heap.size + 1 + 1 + 1, 0, none⟩ = some (.slice (some ⟨b, off, none⟩) L cap) := (cell_setCell_ne _ _ _ _ (ne hne3) rfl rfl).trans h4
  have e6 : (W.setCell ⟨w.heap.size + 1 + 1, 0, none⟩ (.int .u64 (A' : Int))).frozen? ⟨b, off + k, none⟩ = false := by rw [World.frozen?_setCell]; exact hfz
  have e5 : (W.setCell ⟨w.heap.size + 1 + 1, 0, none⟩ (.int .u64 (A' : Int))).cell? ⟨b, off + k, none⟩ = some (.int .u32 (d : Int)) := (cell_setCell_ne _ _ _ _ (ne hne4) rfl rfl).trans hcv
  have hT1 : Touch b off (off + L) w (W.setCell ⟨w.heap.size + 1 + 1, 0, none⟩ (.int .u64 (A' : Int))) := h5.newCell (by omega) hb _
  have hK1 : KeepsFrom W0.heap.size W (W.setCell ⟨w.heap.size + 1 + 1, 0, none⟩ (.int .u64 (A' : Int))) := (KeepsOthers.setCell _ _ _).from _
  have hC1 : Cells (W.setCell ⟨w.heap.size + 1 + 1, 0, none⟩ (.int .u64 (A' : Int))) b off L (mixF (dgt V) (dgt (V / 2 ^ s)) (k + 1)) := fun j hj => (cell_setCell_ne _ _ _ _ (ne hne4) rfl rfl).trans (H7.out j hj)
  have hs1 : (W.setCell ⟨w.heap.size + 1 + 1, 0, none⟩ (.int .u64 (A' : Int))).heap.size = W.heap.size := World.size_setCell _ _ _
  obtain ⟨W1, hW1⟩ : ∃ W1, W.setCell ⟨w.heap.size + 1 + 1, 0, none⟩ (.int .u64 (A' : Int)) = W1 := ⟨_, rfl⟩
  rw [hW1] at e0 e1 e2 e3 e4 e5 e6 hT1 hK1 hC1 hs1 ⊢
  have HC1 := hide hC1
  have HS1 := hide hs1
  have HNE := hide (And.intro hne1 (And.intro hne2 (And.intro hne3 hne4)))
  clear hW1 h0 h1 h2 h3 h4 hcv hfz hC1 hs1 hne1 hne2 hne3 hne4 ne
  refine inRound_still_tail l 9 (by rintro ⟨_, _, h⟩; exact h) (by kernel_rfl) 7 hmx (by kernel_rfl) ?_
  simp only [List.take_succ_cons, List.take_zero, List.drop_succ_cons, List.drop_zero]
  repeat still_step
  refine wpStill_nil ?_
  change wpList _ _ _ _ _ W1.drew
  go_wp2
  have hT2 := hT1.trans ((Touch.setCell (b := b) (lo := off) (hi := off + L) W1 (.int .u32 (D : Int)) (Nat.le_add_right off k) (by omega)))
  have hK2 : KeepsFrom W0.heap.size W (W1.setCell ⟨b, off + k, none⟩ (.int .u32 (D : Int))) := hK1.trans ((KeepsOthers.setCell _ _ _).from _)
  have hC2 := HC1.out.set D hk
  have hC2' : Cells (W1.setCell ⟨b, off + k, none⟩ (.int .u32 (D : Int))) b off L (mixF (dgt V) (dgt (V / 2 ^ s)) k) := hC2.congr fun j _ => by
   by_cases hjk : j = k
   · subst hjk; rw [putF_same, ← HD.out]; simp [mixF]
   · rw [putF_ne _ _ hjk]
     simp only [mixF]
     by_cases hj1 : j < k
     · rw [if_pos hj1, if_pos (by omega)]
     · rw [if_neg hj1, if_neg (by omega)]
  have ne : ∀ {x y o p : Nat}, x ≠ y → (⟨x, o, none⟩ : Addr) ≠ ⟨y, p, none⟩ := fun h e => h (congrArg Addr.block e)
  have n0 : w.heap.size ≠ b := by omega
  have n1 : w.heap.size + 1 ≠ b := by omega
  have n2 : w.heap.size + 1 + 1 ≠ b := by omega
  have n3 : w.heap.size + 1 + 1 + 1 ≠ b := by omega
  exact ⟨hK2.trans ((KeepsOthers.drew _).from _), ⟨(cell_setCell_ne _ _ _ _ (ne n0) rfl rfl).trans e0, (cell_setCell_ne _ _ _ _ (ne n1) rfl rfl).trans e1, by rw [HA.out]; exact (cell_setCell_ne _ _ _ _ (ne n2) rfl rfl).trans e2,
   (World.frozen?_setCell _ _ _ _).trans e3, (cell_setCell_ne _ _ _ _ (ne n3) rfl rfl).trans e4⟩, hT2.drew, Nat.le_trans h6 (Nat.le_of_eq (by rw [← HS1.out]; exact (World.size_setCell W1 _ _).symm)), hC2'⟩
 case done =>
  rintro D W hD ⟨⟨h0, h1, h2, h3, h4⟩, h5, h6, h7⟩ hK
  have h7' : Cells W b off L (dgt (V / 2 ^ s)) := h7.congr fun j _ => by simp [mixF]
  clear h7
  go_wp2
  have hc := calm_put (.deferred none) hD hK rfl
  exact leavesM_one hK ⟨_, results_none rfl _ _ _, ⟨_, rfl⟩, hc.cells h7', h5.calm hc (by omega) hb⟩
 case stop => exact fun _ _ _ _ h _ => h.elim
end Go.Proofs.YtgenaicmjddjcaaGreatDoor

/- num's shiftUp: digits multiplied in their place by a power of 2. -/
namespace Go.Proofs.YtgenaicmjddjcaaGreatDoor
open Go.RowKit Go.Shelf
attribute [local go_sem] Oper.semAt_some

theorem or_u32_nat (a b : Nat) (ha : a < 4294967296) (hb : b < 4294967296) : bits BinOp.or IntKind.u32 (a : Int) (b : Int) = ((a ||| b : Nat) : Int) := by
 have hx : a ||| b < 2 ^ 32 := Nat.or_lt_two_pow (by omega) (by omega)
 have h1 : (BitVec.ofInt 32 (a : Int)).toNat = a := by
  rw [BitVec.ofInt_natCast, BitVec.toNat_ofNat]; exact Nat.mod_eq_of_lt (by omega)
 have h2 : (BitVec.ofInt 32 (b : Int)).toNat = b := by
  rw [BitVec.ofInt_natCast, BitVec.toNat_ofNat]; exact Nat.mod_eq_of_lt (by omega)
 show IntKind.u32.wrap ((BitVec.ofInt 32 (a : Int) ||| BitVec.ofInt 32 (b : Int)).toNat : Int) = _
 rw [BitVec.toNat_or, h1, h2, show IntKind.u32.wrap (((a ||| b : Nat) : Int)) = ((a ||| b : Nat) : Int) % 4294967296 from rfl]
 omega
theorem shl_parts {V s : Nat} (hs : s ≤ 31) (k : Nat) : dgt V (k + 1) * 2 ^ s % 4294967296 ||| dgt V k * 2 ^ s / 4294967296 = dgt (V * 2 ^ s) (k + 1) := by
 rw [dgt_shl_succ (by omega)]
 have h1 : dgt V k * 2 ^ s / 4294967296 < 2 ^ s := by
  rw [Nat.div_lt_iff_lt_mul (by decide), Nat.mul_comm]
  exact Nat.mul_lt_mul_of_pos_left (dgt_lt V k) (pow_pos' s)
 refine or_parts ?_ h1
 rw [show (4294967296 : Nat) = 2 ^ (32 - s) * 2 ^ s from by rw [← Nat.pow_add, show 32 - s + s = 32 from by omega], Nat.mul_mod_mul_right, Nat.mul_mod_left]
theorem u64_mul_pow (p : Nat) {s : Nat} (hp : p < 4294967296) (hs : s ≤ 31) : p * 2 ^ s < 18446744073709551616 := by
 have h1 : 2 ^ s ≤ 2 ^ 31 := Nat.pow_le_pow_right (by decide) hs
 have h2 : p * 2 ^ s ≤ 4294967295 * 2 ^ 31 := Nat.mul_le_mul (by omega) h1
 omega

set_option maxRecDepth 100000 in
set_option maxHeartbeats 2000000 in
theorem shiftUp_any (b off L cap V s : Nat) (hs : s ≤ 31) (hL : L ≤ 1099511627776) (w : World) (hb : b < w.heap.size) (hx : Cells w b off L (dgt V)) (hfr : Free w b off L) :
 Calls Tryz.prog 156 #[.slice (some ⟨b, off, none⟩) L cap, .int .i64 (s : Int)] w fun e w' => (∃ v, e = .returned v) ∧
  Cells w' b off L (dgt (V * 2 ^ s)) ∧ Touch b off (off + L) w w' := by
 refine calls_marks Tryz.func156 rfl ?_
 simp only [Tryz.ntmps156, List.size_toArray, List.length_cons, List.length_nil, Nat.reduceAdd, Nat.reduceSub, Array.replicate_succ, Array.replicate_zero, List.push_toArray, List.append_toArray, List.nil_append, List.cons_append]
 go_wp2_with (go_at_call 66; refine (backward_any _ _ _ _).mono ?_; rintro e w' ⟨rfl, rfl⟩)
 obtain ⟨W0, hW0⟩ : ∃ W0, ((w.alloc (Obj.cells #[.slice (some ⟨b, off, none⟩) L cap] 23)).alloc (Obj.cells #[.int .i64 (s : Int)] 3)).alloc (Obj.cells #[.slice (some ⟨b, off, none⟩) L cap] 23) = W0 := ⟨_, rfl⟩
 have c0 : W0.cell? ⟨w.heap.size, 0, none⟩ = some (.slice (some ⟨b, off, none⟩) L cap) := by rw [← hW0]; simp [go_sem]
 have c1 : W0.cell? ⟨w.heap.size + 1, 0, none⟩ = some (.int .i64 (s : Int)) := by rw [← hW0]; simp [go_sem]
 have c3 : W0.cell? ⟨w.heap.size + 1 + 1, 0, none⟩ = some (.slice (some ⟨b, off, none⟩) L cap) := by rw [← hW0]; simp [go_sem]
 have hsz : W0.heap.size = w.heap.size + 3 := by rw [← hW0]; simp
 have hB0 : Below w.heap.size w W0 := by rw [← hW0]; exact (((Below.refl _ w).alloc (Nat.le_refl _) _).alloc (by simp) _).alloc (by simp; omega) _
 have hT0 : Touch b off (off + L) w W0 := Touch.of_below hB0 (Nat.le_refl _) hb
 rw [hW0]
 clear hW0
 have HX := hide hx
 have HFR := hide hfr
 have hmx : Tryz.prog.follows .mixedOrders = true := by kernel_rfl
 clear hx hfr
 refine wp_backW (w.heap.size + 1 + 1) (some ⟨b, off, none⟩) L cap (by omega) rfl rfl
  (fun k W => (W.cell? ⟨w.heap.size, 0, none⟩ = some (.slice (some ⟨b, off, none⟩) L cap) ∧ W.cell? ⟨w.heap.size + 1, 0, none⟩ = some (.int .i64 (s : Int)) ∧ W.cell? ⟨w.heap.size + 1 + 1, 0, none⟩ = some (.slice (some ⟨b, off, none⟩) L cap)) ∧
    Touch b off (off + L) w W ∧ W0.heap.size ≤ W.heap.size ∧ Cells W b off L (mixF (dgt V) (dgt (V * 2 ^ s)) k))
  (fun _ _ => False)
  ?hI ?hIx (fun _ _ h => h.1.2.2) ⟨⟨c0, c1, c3⟩, hT0, Nat.le_refl _, (HX.out.below hB0 (.inl (Nat.le_refl _))).congr fun j hj => by simp [mixF, hj]⟩
  (fun k v => { tmps := #[.slice (some ⟨b, off, none⟩) L cap, .int .i64 (s : Int), .pointer (some ⟨w.heap.size, 0, none⟩), .pointer (some ⟨w.heap.size + 1, 0, none⟩), .int .i64 (k : Int), .int .u32 v, .slice (some ⟨b, off, none⟩) L cap,
    .func (.func 113) #[] #[.pointer (some ⟨w.heap.size + 1 + 1, 0, none⟩)], .int .i64 (k : Int), .int .u32 v, undef, undef, undef, undef, undef, undef, undef, undef, undef, undef, undef, undef, undef, undef, undef, undef, undef, undef, undef, undef, undef, undef, undef, undef], defers := [] })
  ?hcell ?assign ?body ?done ?stop
 case hI =>
  refine ownFrom_of (fun _ _ h => h.2.2.1) ?_
  rintro s W W' ⟨⟨h0, h1, h4⟩, h5, h6, h7⟩ hc
  exact ⟨⟨hc.cell _ _ h0, hc.cell _ _ h1, hc.cell _ _ h4⟩, h5.calm hc (by omega) hb, Nat.le_trans h6 hc.below.size, hc.cells h7⟩
 case hIx => exact fun _ _ _ _ h _ _ => h
 case hcell =>
  rintro k W hk ⟨_, _, _, h7⟩
  exact ⟨b, off, _, rfl, h7 k hk⟩
 case assign =>
  intro l k v W K hK
  gi_wp2
  exact hK
 case body =>
  rintro l k v b' off' W hk ⟨⟨h0, h1, h4⟩, h5, h6, h7⟩ ha hcv
  cases ha
  obtain rfl : v = ((dgt V k : Nat) : Int) := by
   have := h7 k hk
   rw [hcv] at this
   have e : mixF (dgt V) (dgt (V * 2 ^ s)) (k + 1) k = dgt V k := by simp [mixF]
   rw [e] at this
   cases this; rfl
  have hdl := dgt_lt V k
  have hul := u64_mul_pow (dgt V k) hdl hs
  obtain ⟨d, hd⟩ : ∃ d, dgt V k = d := ⟨_, rfl⟩
  rw [hd] at hdl hcv hul ⊢
  obtain ⟨E, hE⟩ : ∃ E, d * 2 ^ s % 4294967296 = E := ⟨_, rfl⟩
  have Z1 : IntKind.u32.wrap ((d : Int) * 2 ^ s) = (E : Int) := by
   rw [show IntKind.u32.wrap ((d : Int) * 2 ^ s) = ((d : Int) * 2 ^ s) % 4294967296 from rfl, ← hE]
   simp
  have hEl : E < 4294967296 := by rw [← hE]; exact Nat.mod_lt _ (by decide)
  have hfz : W.frozen? ⟨b, off + k, none⟩ = false := HFR.out.touch h5 hb k hk
  have hk' : (k : Int) < L := by omega
  have hbs := lt_of_cell hcv
  have H7 := hide h7
  have HE := hide (And.intro hE hd)
  clear h7 hE hd hul
  gi_wp2
  refine wpIn_mono (Q := fun e a w' => e = .normal ∧ ∃ x6 x7 x8 x9 x10 x11 x12 x13 x14 x15 : Value, a = { tmps := #[.slice (some ⟨b, off, none⟩) L cap, .int .i64 (s : Int), .pointer (some ⟨w.heap.size, 0, none⟩), .pointer (some ⟨w.heap.size + 1, 0, none⟩), .int .i64 (k : Int), .int .u32 (d : Int), x6, x7, x8, x9, x10, x11, x12, x13, x14, x15,
   undef, undef, undef, undef, undef, undef, undef, undef, undef, undef, undef, undef, undef, undef, undef, undef, undef, undef], defers := [] } ∧ (W.setCell ⟨b, off + k, none⟩ (.int .u32 (E : Int))).drew = w') ?reg ?cont
  case reg =>
   refine inRound_still_tail l 9 (by rintro ⟨_, _, h, _⟩; cases h) (by kernel_rfl) 6 hmx (by kernel_rfl) ?_
   simp only [List.take_succ_cons, List.take_zero, List.drop_succ_cons, List.drop_zero]
   repeat still_step
   refine wpStill_nil ?_
   change wpList _ _ _ _ _ W.drew
   go_wp2
  case cont =>
   rintro e a w' ⟨rfl, x6, x7, x8, x9, x10, x11, x12, x13, x14, x15, rfl, rfl⟩
   have ne : ∀ {x y o p : Nat}, x ≠ y → (⟨x, o, none⟩ : Addr) ≠ ⟨y, p, none⟩ := fun h e => h (congrArg Addr.block e)
   have n0 : w.heap.size ≠ b := by omega
   have n1 : w.heap.size + 1 ≠ b := by omega
   have n2 : w.heap.size + 1 + 1 ≠ b := by omega
   have e0 : (W.setCell ⟨b, off + k, none⟩ (.int .u32 (E : Int))).drew.cell? ⟨w.heap.size, 0, none⟩ = some (.slice (some ⟨b, off, none⟩) L cap) := (cell_setCell_ne _ _ _ _ (ne n0) rfl rfl).trans h0
   have e1 : (W.setCell ⟨b, off + k, none⟩ (.int .u32 (E : Int))).drew.cell? ⟨w.heap.size + 1, 0, none⟩ = some (.int .i64 (s : Int)) := (cell_setCell_ne _ _ _ _ (ne n1) rfl rfl).trans h1
   have e4 : (W.setCell ⟨b, off + k, none⟩ (.int .u32 (E : Int))).drew.cell? ⟨w.heap.size + 1 + 1, 0, none⟩ = some (.slice (some ⟨b, off, none⟩) L cap) := (cell_setCell_ne _ _ _ _ (ne n2) rfl rfl).trans h4
   have e5 : (W.setCell ⟨b, off + k, none⟩ (.int .u32 (E : Int))).drew.cell? ⟨b, off + k, none⟩ = some (.int .u32 (E : Int)) := World.cell?_setCell_same' _ _ _ (by rw [hcv]; rfl)
   have e6 : (W.setCell ⟨b, off + k, none⟩ (.int .u32 (E : Int))).drew.frozen? ⟨b, off + k, none⟩ = false := (World.frozen?_setCell _ _ _ _).trans hfz
   have hT1 : Touch b off (off + L) w (W.setCell ⟨b, off + k, none⟩ (.int .u32 (E : Int))).drew := (h5.trans (Touch.setCell (b := b) (lo := off) (hi := off + L) W (.int .u32 (E : Int)) (Nat.le_add_right off k) (by omega))).drew
   have hK1 : KeepsFrom W0.heap.size W (W.setCell ⟨b, off + k, none⟩ (.int .u32 (E : Int))).drew := ((KeepsOthers.setCell _ _ _).from _).trans ((KeepsOthers.drew _).from _)
   have hC1 : Cells (W.setCell ⟨b, off + k, none⟩ (.int .u32 (E : Int))).drew b off L (putF (mixF (dgt V) (dgt (V * 2 ^ s)) (k + 1)) k E) := H7.out.set E hk
   have hs1 : W0.heap.size ≤ (W.setCell ⟨b, off + k, none⟩ (.int .u32 (E : Int))).drew.heap.size := Nat.le_trans h6 (Nat.le_of_eq (World.size_setCell W _ _).symm)
   obtain ⟨W1, hW1⟩ : ∃ W1, (W.setCell ⟨b, off + k, none⟩ (.int .u32 (E : Int))).drew = W1 := ⟨_, rfl⟩
   rw [hW1] at e0 e1 e4 e5 e6 hT1 hK1 hC1 hs1 ⊢
   have HC1 := hide hC1
   clear hW1 h0 h1 h4 hcv hfz hC1 ne h6 h5
   rcases Nat.eq_zero_or_pos k with hk0 | hk0
   · subst hk0
     gi_wp2
     exact ⟨hK1, ⟨e0, e1, e4⟩, hT1, hs1, HC1.out.congr fun j hj => by
      by_cases hj0 : j = 0
      · subst hj0; rw [putF_same, ← HE.out.1, ← HE.out.2, ← dgt_shl_zero]; simp [mixF]
      · rw [putF_ne _ _ hj0]; simp only [mixF]; rw [if_neg (by omega), if_neg (by omega)]⟩
   · obtain ⟨m, rfl⟩ : ∃ m, k = m + 1 := ⟨k - 1, by omega⟩
     have hp : W1.cell? ⟨b, off + m, none⟩ = some (.int .u32 ((dgt V m : Nat) : Int)) := by
      have := HC1.out m (by omega)
      rw [putF_ne _ _ (by omega)] at this
      rw [this]; exact congrArg (fun n : Nat => some (Value.int .u32 (n : Int))) (if_pos (by omega))
     have hpl := dgt_lt V m
     have hpu := u64_mul_pow (dgt V m) hpl hs
     have hfin := shl_parts (V := V) hs m
     rw [HE.out.2, HE.out.1] at hfin
     obtain ⟨p, hpp⟩ : ∃ p, dgt V m = p := ⟨_, rfl⟩
     rw [hpp] at hp hpl hpu hfin
     obtain ⟨u, hu⟩ : ∃ u, p * 2 ^ s = u := ⟨_, rfl⟩
     rw [hu] at hpu hfin
     obtain ⟨c, hc⟩ : ∃ c, u / 4294967296 = c := ⟨_, rfl⟩
     rw [hc] at hfin
     obtain ⟨F, hF⟩ : ∃ F, dgt (V * 2 ^ s) (m + 1) = F := ⟨_, rfl⟩
     rw [hF] at hfin
     have Y1 : (p : Int) * 2 ^ s = (u : Int) := by rw [← hu]; simp
     have Y2 : IntKind.u64.wrap (u : Int) = (u : Int) := IntWalk.u64_in _ (by omega)
     have Y3 : (u : Int) / 4294967296 = (c : Int) := by omega
     have hcl : c < 4294967296 := by omega
     have Y4 : bits BinOp.or IntKind.u32 (E : Int) (c : Int) = (F : Int) := by
      rw [or_u32_nat E c hEl hcl, hfin]
     have HF := hide hF
     have hkA : (0 : Int) < (m : Int) + 1 := by omega
     have hkB : (0 : Int) ≤ (m : Int) + 1 := by omega
     have hkT : ((m : Int) + 1).toNat = m + 1 := by omega
     have hk1 : (m : Int) + 1 < L := by omega
     have hk2 : (m : Int) < L := by omega
     have hw1 : IntKind.i64.wrap (m : Int) = (m : Int) := IntWalk.i64_in _ (by omega)
     rw [show ((m + 1 : Nat) : Int) = (m : Int) + 1 from by omega]
     clear hpp hu hc hF hpu hfin
     gi_wp2
     refine inRound_still_tail l 9 (by rintro ⟨_, _, h⟩; exact h) (by kernel_rfl) 16 hmx (by kernel_rfl) ?_
     simp only [List.take_succ_cons, List.take_zero, List.drop_succ_cons, List.drop_zero]
     repeat still_step
     refine wpStill_nil ?_
     change wpList _ _ _ _ _ W1.drew
     go_wp2
     rw [Y1, Y3, Y4]
     have hT2 := hT1.trans ((Touch.setCell (b := b) (lo := off) (hi := off + L) W1 (.int .u32 (F : Int)) (Nat.le_add_right off (m + 1)) (by omega)))
     have hK2 : KeepsFrom W0.heap.size W (W1.setCell ⟨b, off + (m + 1), none⟩ (.int .u32 (F : Int))) := hK1.trans ((KeepsOthers.setCell _ _ _).from _)
     have hC2 := HC1.out.set F hk
     have hC2' : Cells (W1.setCell ⟨b, off + (m + 1), none⟩ (.int .u32 (F : Int))) b off L (mixF (dgt V) (dgt (V * 2 ^ s)) (m + 1)) := hC2.congr fun j _ => by
      by_cases hjk : j = m + 1
      · subst hjk; rw [putF_same, ← HF.out]; simp [mixF]
      · rw [putF_ne _ _ hjk, putF_ne _ _ hjk]
        simp only [mixF]
        by_cases hj1 : j < m + 1
        · rw [if_pos hj1, if_pos (by omega)]
        · rw [if_neg hj1, if_neg (by omega)]
     have ne : ∀ {x y o p : Nat}, x ≠ y → (⟨x, o, none⟩ : Addr) ≠ ⟨y, p, none⟩ := fun h e => h (congrArg Addr.block e)
     exact ⟨hK2.trans ((KeepsOthers.drew _).from _), ⟨(cell_setCell_ne _ _ _ _ (ne n0) rfl rfl).trans e0, (cell_setCell_ne _ _ _ _ (ne n1) rfl rfl).trans e1, (cell_setCell_ne _ _ _ _ (ne n2) rfl rfl).trans e4⟩, hT2.drew,
      Nat.le_trans hs1 (Nat.le_of_eq (World.size_setCell W1 _ _).symm), hC2'⟩
 case done =>
  rintro D W hD ⟨⟨h0, h1, h4⟩, h5, h6, h7⟩ hK
  have h7' : Cells W b off L (dgt (V * 2 ^ s)) := h7.congr fun j _ => by simp [mixF]
  clear h7
  go_wp2
  have hc := calm_put (.deferred none) hD hK rfl
  exact leavesM_one hK ⟨_, results_none rfl _ _ _, ⟨_, rfl⟩, hc.cells h7', h5.calm hc (by omega) hb⟩
 case stop => exact fun _ _ _ _ h _ => h.elim
end Go.Proofs.YtgenaicmjddjcaaGreatDoor

/- num's takeOut: how often the divisor goes into the part of the number from which a digit of the quotient is taken. -/
namespace Go.Proofs.YtgenaicmjddjcaaGreatDoor
open Go.RowKit Go.Shelf

theorem div64_any (hi lo y : Nat) (hhi : hi < 4294967296) (hlo : lo < 18446744073709551616) (hy : 9223372036854775808 ≤ y) (hy' : y < 18446744073709551616) (w : World) :
 Calls Tryz.prog 180 #[.int .u64 (hi : Int), .int .u64 (lo : Int), .int .u64 (y : Int)] w (QuoPost ((hi * 18446744073709551616 + lo) / y) w) := by
 rcases Nat.eq_zero_or_pos hi with h | h
 · subst h
   rw [Nat.zero_mul, Nat.zero_add]
   exact div64_zero lo y hlo hy hy' w
 · exact div64_top hi lo y (by omega) h hlo hy hy' w

def TakePost (b off L : Nat) (X Y : Nat) (w : World) (e : Ending) (w' : World) : Prop :=
 ∃ f' : Nat → Nat, e = .returned (.int .u32 ((X / Y : Nat) : Int)) ∧ (∀ j, j < L → f' j < 4294967296) ∧ valF f' L = X % Y ∧ Cells w' b off L f' ∧ Touch b off (off + L) w w'

set_option maxRecDepth 100000 in
set_option maxHeartbeats 4000000 in
theorem takeOut_any (b off m capx capy : Nat) (by' oy : Nat) (f g : Nat → Nat) (hm : m ≤ 1099511627000) (hf : ∀ j, j < m + 3 → f j < 4294967296) (hg : ∀ j, j < m + 2 → g j < 4294967296) (htop : 2147483648 ≤ g (m + 1))
 (hlt : valF f (m + 3) < valF g (m + 2) * 4294967296) (hcx : m + 3 ≤ capx) (hcy : m + 2 ≤ capy) (w : World) (hx : Cells w b off (m + 3) f) (hy : Cells w by' oy (m + 2) g) (hyb : by' ≠ b) (hfr : Free w b off (m + 3)) :
 Calls Tryz.prog 157 #[.slice (some ⟨b, off, none⟩) ((m + 3 : Nat)) capx, .slice (some ⟨by', oy, none⟩) ((m + 2 : Nat)) capy] w (TakePost b off (m + 3) (valF f (m + 3)) (valF g (m + 2)) w) := by
 -- the words
 have hfm := hf m (by omega)
 have hfm1 := hf (m + 1) (by omega)
 have hfm2 := hf (m + 2) (by omega)
 have hgm := hg m (by omega)
 have hgm1 := hg (m + 1) (by omega)
 obtain ⟨lo, hlo⟩ : ∃ lo, valF (fun j => f (m + j)) 2 = lo := ⟨_, rfl⟩
 obtain ⟨y2, hy2⟩ : ∃ y2, valF (fun j => g (m + j)) 2 = y2 := ⟨_, rfl⟩
 have hlo1 : lo < 18446744073709551616 := by rw [← hlo, val_two]; simp only [Nat.add_zero]; omega
 have hy21 : 9223372036854775808 ≤ y2 ∧ y2 < 18446744073709551616 := by rw [← hy2, val_two]; simp only [Nat.add_zero]; omega
 have hest := est_digit (X := valF f (m + 3)) (Y := valF g (m + 2)) (X3 := f (m + 2) * 18446744073709551616 + lo) (Y2 := y2) (P := bp m) (xl := valF f m) (yl := valF g m)
  (by rw [val_top3, hlo]) (by rw [val_top2, hy2]) (valF_lt fun j hj => hf j (by omega)) (valF_lt fun j hj => hg j (by omega)) hy21.1 hlt
 obtain ⟨q0, hq0⟩ : ∃ q0, (f (m + 2) * 18446744073709551616 + lo) / y2 = q0 := ⟨_, rfl⟩
 obtain ⟨h, hh⟩ : ∃ h, f (m + 2) = h := ⟨_, rfl⟩
 have hj1 := fun w' (hd : Below w.heap.size w w') => join_any (some ⟨b, off + m, none⟩) 2 (capx - m) (fun j => f (m + j)) (Nat.le_refl _) (fun j hj => hf (m + j) (by omega)) w' (.inr ⟨b, off + m, rfl, (hx.below hd (.inl (Nat.le_refl _))).shift (k := m) (n := 2) (by omega)⟩)
 have hj2 := fun w' (hd : Below w.heap.size w w') => join_any (some ⟨by', oy + m, none⟩) 2 (capy - m) (fun j => g (m + j)) (Nat.le_refl _) (fun j hj => hg (m + j) (by omega)) w' (.inr ⟨by', oy + m, rfl, (hy.below hd (.inl (Nat.le_refl _))).shift (k := m) (n := 2) (by omega)⟩)
 rw [hlo] at hj1
 rw [hy2] at hj2
 have hj3 := div64_any h lo y2 (by omega) hlo1 hy21.1 hy21.2
 rw [← hh, hq0] at hj3
 rw [hq0] at hest
 have HJ1 := hide hj1
 have HJ2 := hide hj2
 have HJ3 := hide hj3
 have hx2 := hx (m + 2) (by omega)
 rw [hh] at hx2 HJ3
 have HE := hide hest
 have HTOP := hide htop
 have HF := hide hf
 have HG := hide hg
 have HX := hide hx
 have HYC := hide hy
 have HFR := hide hfr
 have HH := hide (And.intro hh (And.intro hlo1 (And.intro hy21 hfm2)))
 have hbw : b < w.heap.size := lt_of_cell hx2
 have i1 : (0 : Int) ≤ (m : Int) + 2 := by omega
 have i2 : (m : Int) + 2 < (m : Int) + 3 := by omega
 have i3 : ((m : Int) + 2).toNat = m + 2 := by omega
 have i4 : IntKind.i64.wrap (m : Int) = (m : Int) := IntWalk.i64_in _ (by omega)
 have i5 : (m : Int) + 2 ≤ (capx : Int) := by omega
 have i6 : (m : Int) ≤ (m : Int) + 2 := by omega
 have i7 : (m : Int) + 2 ≤ (capy : Int) := by omega
 have hhA : (h : Int) < 4294967296 := by omega
 have j1 : ¬ capx = m := by omega
 have j2 : ¬ capy = m := by omega
 have j3 : IntKind.u64.wrap (h : Int) = (h : Int) := IntWalk.u64_in _ (by omega)
 clear hlo hy2 hlo1 hy21 hest hq0 hj1 hj2 hj3 hf hg hx hy hfr hfm hfm1 hfm2 hgm hgm1 htop hlt
 have e3 : ((m + 3 : Nat) : Int) = (m : Int) + 3 := by omega
 have e2 : ((m + 2 : Nat) : Int) = (m : Int) + 2 := by omega
 go_enter Tryz.func157, Tryz.ntmps157
 go_wp2_with fail
 have K0 : w.drew.cell? ⟨b, off + (m + 2), none⟩ = some (.int .u32 (h : Int)) := hx2
 have hb0 : Below w.heap.size w w.drew := (Below.refl _ w).drew
 go_region_held3 (fun w' => w'.cell? ⟨b, off + (m + 2), none⟩ = some (.int .u32 (h : Int)))
  (first | with_reducible exact K0 | with_reducible exact K1 | with_reducible exact K2 | with_reducible exact K3 | go_keep)
  (first
    | (go_at_call 108; (with_reducible refine (HJ1.out _ (by assumption)).mono ?_); rintro e w3 ⟨rfl, hb3⟩; have B3 := hb0.trans (hb3.mono hb0.size); have K1 : w3.cell? ⟨b, off + (m + 2), none⟩ = some (.int .u32 (h : Int)) := (B3.cell (p := ⟨b, off + (m + 2), none⟩) hbw).trans hx2)
    | (go_at_call 108; (with_reducible refine (HJ2.out _ (by assumption)).mono ?_); rintro e w4 ⟨rfl, hb4⟩; have B4 := B3.trans (hb4.mono B3.size); have K2 : w4.cell? ⟨b, off + (m + 2), none⟩ = some (.int .u32 (h : Int)) := (B4.cell (p := ⟨b, off + (m + 2), none⟩) hbw).trans hx2)
    | (go_at_call 180; (with_reducible refine (HJ3.out _).mono ?_); rintro e w5 ⟨rr, rfl, hb5⟩; have B5 := B4.trans (hb5.mono B4.size); have K3 : w5.cell? ⟨b, off + (m + 2), none⟩ = some (.int .u32 (h : Int)) := (B5.cell (p := ⟨b, off + (m + 2), none⟩) hbw).trans hx2))
 clear K0 K1 K2 K3
 go_wp2_with fail
 obtain ⟨c, hc⟩ : ∃ c, min q0 4294967295 = c := ⟨_, rfl⟩
 have hcI : min (q0 : Int) 4294967295 = (c : Int) := by omega
 have hest : valF f (m + 3) / valF g (m + 2) ≤ min q0 4294967295 ∧ min q0 4294967295 ≤ valF f (m + 3) / valF g (m + 2) + 1 := HE
 have hc32 : c < 4294967296 := by omega
 rw [hc] at hest
 rw [hcI]
 clear hcI hc
 obtain ⟨X, hXX⟩ : ∃ X, valF f (m + 3) = X := ⟨_, rfl⟩
 obtain ⟨Y, hYY⟩ : ∃ Y, valF g (m + 2) = Y := ⟨_, rfl⟩
 obtain ⟨Q, hQ⟩ : ∃ Q, X / Y = Q := ⟨_, rfl⟩
 rw [hXX, hYY, hQ] at hest
 have hXl : X < bp (m + 3) := by rw [← hXX]; exact valF_lt HF.out
 have hYl : Y < bp (m + 3) := by rw [← hYY]; exact Nat.lt_of_lt_of_le (valF_lt HG.out) (bp_le (by omega))
 have hdm := Nat.div_add_mod X Y
 rw [hQ, Nat.mul_comm] at hdm
 have HM := hide (And.intro hest (And.intro hXl (And.intro hYl (And.intro hdm (And.intro hXX (And.intro hYY (And.intro hQ hc32)))))))
 have x5 := HX.out.below B5 (.inl (Nat.le_refl _))
 have y5 := HYC.out.below B5 (.inl (Nat.le_refl _))
 have z5 := HFR.out.below B5 hbw
 have t5 : Touch b off (off + (m + 3)) w w5 := Touch.of_below B5 (Nat.le_refl _) hbw
 have hdec := decrease_any b off (m + 3) capx (m + 2) capy (some ⟨by', oy, none⟩) f g c hc32 (by omega) (by omega) HF.out HG.out w5 x5 (.inr ⟨by', oy, rfl, y5⟩) (fun _ ad e => by cases e; exact hyb) z5
 have HD := hide hdec
 have Y5 := hide y5
 have Z5 := hide z5
 clear hdec hest hXl hYl hdm hXX hYY hQ x5 y5 z5 hc32
 refine HD.out.mono ?_
 rintro e w6 ⟨f2, r, t, rfl, ht, hr, hf2, hv2, hc2, ht2⟩
 obtain ⟨hest, hXl, hYl, hdm, hXX, hYY, hQ, hc32⟩ := HM.out
 rw [hXX, hYY] at hv2
 have hf2l := valF_lt hf2
 have T6 := t5.trans ht2
 rcases Nat.lt_or_ge X (c * Y) with hover | hexact
 · -- one too many
   have hcQ : c = Q + 1 := by
    rcases Nat.lt_or_ge Q c with h | h
    · omega
    · exfalso
      have : c * Y ≤ Q * Y := Nat.mul_le_mul_right Y h
      omega
   have hr0 : t = true := by
    rcases ht with h | h
    · exact h.1
    · exfalso
      rw [h.2, Nat.zero_mul, Nat.add_zero] at hv2
      have : c * Y ≤ X := by omega
      omega
   subst hr0
   have hc1 : 1 ≤ (c : Int) := by omega
   have hcw : IntKind.u64.wrap ((c : Int) - 1) = (Q : Int) := by rw [show (c : Int) - 1 = (Q : Int) from by omega]; exact IntWalk.u64_in _ (by omega)
   have hQ32 : IntKind.u32.wrap (Q : Int) = (Q : Int) := IntWalk.u32_in _ (by omega)
   have y6 := Y5.out.touch ht2 (.inl hyb)
   have z6 := Z5.out.touch ht2 (Nat.lt_of_lt_of_le hbw B5.size)
   have hinc := increase_any b off (m + 3) capx (m + 2) capy (some ⟨by', oy, none⟩) f2 g (by omega) (by omega) hcx hf2 HG.out w6 hc2 (.inr ⟨by', oy, rfl, y6⟩) (fun _ ad e => by cases e; exact hyb) z6
   have HI := hide hinc
   have HC := hide (And.intro hcQ (And.intro hf2l (And.intro hv2 hover)))
   clear hinc y6 z6 hest hXl hYl hdm hXX hYY hQ hc32 hcQ hf2l hv2 hover ht hr hf2 hc2 HH
   go_wp2_with fail
   refine HI.out.mono ?_
   rintro e w7 ⟨f3, rfl, hf3, hv3, hc3, ht3⟩
   go_wp2
   go_ret
   obtain ⟨-, -, hYl, hdm, hXX, hYY, hQ, -⟩ := HM.out
   obtain ⟨hcQ, hf2l, hv2, hover⟩ := HC.out
   rw [hYY] at hv3
   have h3 := Nat.mod_add_div (valF f2 (m + 3) + Y) (bp (m + 3))
   have hv3l : valF f3 (m + 3) < bp (m + 3) := valF_lt hf3
   rw [← hv3, Nat.mul_comm (bp (m + 3))] at h3
   have hcq1 : (c - 1) * Y = Q * Y := by rw [hcQ, Nat.add_sub_cancel]
   obtain ⟨-, hres⟩ := sub_over (X := X) (Y := Y) hv2 hf2l hv3l hYl hover (by rw [hcq1]; omega) h3
   rw [hcq1] at hres
   exact ⟨f3, by rw [hXX, hYY, hQ]; rfl, hf3, by rw [hXX, hYY, hres]; omega, hc3, T6.trans ht3⟩
 · have hcQ : c = Q := by
    rcases Nat.lt_or_ge Q c with h | h
    · exfalso
      have hc2 : c = Q + 1 := by omega
      rw [hc2, Nat.add_mul] at hexact
      have hYpos : 0 < Y := by
       rcases Nat.eq_zero_or_pos Y with e | e
       · exfalso
         have : valF g (m + 2) = 0 := by rw [hYY, e]
         rw [e, Nat.div_zero] at hQ
         have h9 := HTOP.out
         rw [valF_succ] at this
         have : bp (m + 1) ≤ g (m + 1) * bp (m + 1) := Nat.le_mul_of_pos_left _ (by omega)
         have := bp_pos (m + 1)
         omega
       · exact e
      have := Nat.mod_lt X hYpos
      omega
    · omega
   subst hcQ
   obtain ⟨hr0, hres⟩ := sub_exact hv2 hf2l hexact
   have ht0 : t = false := by
    rcases ht with h | h
    · omega
    · exact h.1
   subst ht0
   have hQ32 : IntKind.u32.wrap (c : Int) = (c : Int) := IntWalk.u32_in _ (by omega)
   have HC := hide (And.intro hres (And.intro hdm (And.intro hQ (And.intro hXX hYY))))
   clear hest hXl hYl hdm hXX hYY hQ hc32 hf2l hv2 hexact ht hr hres hr0 HH
   go_wp2
   go_ret
   obtain ⟨hres, hdm, hQ, hXX, hYY⟩ := HC.out
   exact ⟨f2, by rw [hXX, hYY, hQ]; rfl, hf2, by rw [hXX, hYY, hres]; omega, hc2, T6⟩
end Go.Proofs.YtgenaicmjddjcaaGreatDoor

/- num's leading and abs. -/
namespace Go.Proofs.YtgenaicmjddjcaaGreatDoor
open Go.RowKit Go.Shelf

theorem or_lt {u c : Nat} (hu : u < 18446744073709551616) (hc : c < 18446744073709551616) : u ||| c < 18446744073709551616 :=
 Nat.or_lt_two_pow (n := 64) hu hc
set_option maxHeartbeats 400000 in
theorem abs_any (z : Int) (n : Nat) (hz : max z (-z) = (n : Int)) (hn : n < 9223372036854775808) (w : World) : Calls Tryz.prog 160 #[.int .i64 z] w fun e w' => e = .returned (.int .i64 (n : Int)) ∧ w' = w := by
 have hw : IntKind.i64.wrap (-z) = -z := IntWalk.i64_in _ (by omega)
 have HN := hide hn
 clear hn
 go_enter Tryz.func160, Tryz.ntmps160
 go_wp2
 all_goals
  go_ret
  exact ⟨congrArg (fun t : Int => Ending.returned (Value.int .i64 t)) (by omega), rfl⟩

set_option maxRecDepth 100000 in
set_option maxHeartbeats 4000000 in
theorem leading_any (b off m cap s : Nat) (f : Nat → Nat) (hs : s ≤ 31) (hm : m ≤ 1099511627000) (hcap : m + 3 ≤ cap) (hf : ∀ j, j < m + 3 → f j < 4294967296) (hhi : valF (fun j => f (m + 1 + j)) 2 * 2 ^ s < 18446744073709551616) (w : World) (hx : Cells w b off (m + 3) f) :
 Calls Tryz.prog 159 #[.slice (some ⟨b, off, none⟩) ((m + 3 : Nat)) cap, .int .i64 (s : Int)] w fun e w' => e = .returned (.int .i64 ((valF f (m + 3) / (bp m * 2 ^ (34 - s)) : Nat) : Int)) ∧ Below w.heap.size w w' := by
 have hlead := lead_val (f := f) (m := m) (s := s) (by omega) (fun j hj => hf j (by omega))
 obtain ⟨K, hK⟩ : ∃ K, valF f (m + 3) / (bp m * 2 ^ (34 - s)) = K := ⟨_, rfl⟩
 rw [hK] at hlead ⊢
 have hl := hf m (by omega)
 have hj1 := fun w' (hd : Below w.heap.size w w') => join_any (some ⟨b, off + (m + 1), none⟩) 2 (cap - (m + 1)) (fun j => f (m + 1 + j)) (Nat.le_refl _) (fun j hj => hf (m + 1 + j) (by omega)) w' (.inr ⟨b, off + (m + 1), rfl, (hx.below hd (.inl (Nat.le_refl _))).shift (k := m + 1) (n := 2) (by omega)⟩)
 obtain ⟨H, hH⟩ : ∃ H, valF (fun j => f (m + 1 + j)) 2 = H := ⟨_, rfl⟩
 rw [hH] at hj1 hlead hhi
 have hxm := hx m (by omega)
 obtain ⟨l, hll⟩ : ∃ l, f m = l := ⟨_, rfl⟩
 rw [hll] at hlead hl hxm
 have hlu : l * 2 ^ s < 18446744073709551616 := by
  have h1 : 2 ^ s ≤ 2 ^ 31 := Nat.pow_le_pow_right (by decide) hs
  have h2 : l * 2 ^ s ≤ 4294967295 * 2 ^ 31 := Nat.mul_le_mul (by omega) h1
  omega
 have hcl : l * 2 ^ s / 4294967296 < 2 ^ s := by
  rw [Nat.div_lt_iff_lt_mul (by decide), Nat.mul_comm]
  exact Nat.mul_lt_mul_of_pos_left hl (pow_pos' s)
 have hor := or_parts (e := H * 2 ^ s) (b := l * 2 ^ s / 4294967296) (s := s) (Nat.mul_mod_left _ _) hcl
 obtain ⟨u, hu⟩ : ∃ u, H * 2 ^ s = u := ⟨_, rfl⟩
 obtain ⟨v, hv⟩ : ∃ v, l * 2 ^ s = v := ⟨_, rfl⟩
 rw [hu, hv] at hlead hor
 rw [hu] at hhi
 rw [hv] at hlu hcl
 obtain ⟨c, hc⟩ : ∃ c, v / 4294967296 = c := ⟨_, rfl⟩
 rw [hc] at hlead hor hcl
 have hcl2 : c < 4294967296 := by omega
 have hov : u + c < 18446744073709551616 := by
  have := or_lt (u := u) (c := c) hhi (by omega)
  rw [hor] at this; exact this
 have Y1 : IntKind.u64.wrap ((H : Int) * 2 ^ s) = (u : Int) := by
  rw [show (H : Int) * 2 ^ s = (u : Int) from by rw [← hu]; simp]; exact IntWalk.u64_in _ (by omega)
 have Y2 : IntKind.u64.wrap ((l : Int) * 2 ^ s) = (v : Int) := by
  rw [show (l : Int) * 2 ^ s = (v : Int) from by rw [← hv]; simp]; exact IntWalk.u64_in _ (by omega)
 have Y3 : (v : Int) / 4294967296 = (c : Int) := by omega
 have Y4 : bits BinOp.or IntKind.u64 (u : Int) (c : Int) = ((u + c : Nat) : Int) := by rw [bits_or_u64_nat u c hhi (by omega), hor]
 obtain ⟨t, ht⟩ : ∃ t, u + c = t := ⟨_, rfl⟩
 rw [ht] at Y4 hlead hov
 have Y5 : (t : Int) / 4 = (K : Int) := by omega
 have Y6 : IntKind.i64.wrap (K : Int) = (K : Int) := IntWalk.i64_in _ (by omega)
 have Y7 : IntKind.u64.wrap (l : Int) = (l : Int) := IntWalk.u64_in _ (by omega)
 have HJ1 := hide hj1
 have hbw : b < w.heap.size := lt_of_cell hxm
 have i1 : (0 : Int) ≤ (m : Int) + 1 := by omega
 have i2 : (m : Int) < (m : Int) + 3 := by omega
 have i3 : ((m : Int) + 1).toNat = m + 1 := by omega
 have i4 : IntKind.i64.wrap (m : Int) = (m : Int) := IntWalk.i64_in _ (by omega)
 have i5 : IntKind.i64.wrap ((m : Int) + 1) = (m : Int) + 1 := IntWalk.i64_in _ (by omega)
 have i6 : (m : Int) + 1 ≤ (m : Int) + 3 := by omega
 have i7 : (m : Int) + 3 ≤ (cap : Int) := by omega
 have j1 : ¬ cap = m + 1 := by omega
 have i8 : IntKind.i64.wrap ((m : Int) + 3 - 2) = (m : Int) + 1 := by rw [show (m : Int) + 3 - 2 = (m : Int) + 1 from by omega]; exact IntWalk.i64_in _ (by omega)
 have e3 : ((m + 3 : Nat) : Int) = (m : Int) + 3 := by omega
 clear hlead hj1 hK hl hH hll hlu hcl hor hu hv hc hcl2 hov ht hhi hf hx
 go_enter Tryz.func159, Tryz.ntmps159
 go_wp2_with fail
 have K0 : w.drew.cell? ⟨b, off + m, none⟩ = some (.int .u32 (l : Int)) := hxm
 have hb0 : Below w.heap.size w w.drew := (Below.refl _ w).drew
 go_region_held3 (fun w' => w'.cell? ⟨b, off + m, none⟩ = some (.int .u32 (l : Int)))
  (first | with_reducible exact K0 | with_reducible exact K1 | go_keep)
  (first
    | (go_at_call 108; (with_reducible refine (HJ1.out _ (by assumption)).mono ?_); rintro e w3 ⟨rfl, hb3⟩; have B3 := hb0.trans (hb3.mono hb0.size); have K1 : w3.cell? ⟨b, off + m, none⟩ = some (.int .u32 (l : Int)) := (B3.cell (p := ⟨b, off + m, none⟩) hbw).trans hxm))
 go_wp2
 go_ret
 exact ⟨rfl, B3⟩
end Go.Proofs.YtgenaicmjddjcaaGreatDoor

