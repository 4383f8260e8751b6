/- Several texts in one. -/
import Derived.Test.YtgenaicmjddjcaaGreatDoorPNumC
import Derived.Laws.AppendOwn
import Derived.OrdersHeld
import Derived.Deep.RegionHeld3
import Derived.Test.YtgenaicmjddjcaaGreatDoorPNumD
import Derived.Test.YtgenaicmjddjcaaGreatDoorPNumB
/- The reference's trim and signed. -/
namespace Go.Proofs.YtgenaicmjddjcaaGreatDoor
open Go.RowKit Go.Shelf

theorem valF_drop {f : Nat → Nat} {k L : Nat} (hk : k ≤ L) (h : ∀ j, k ≤ j → j < L → f j = 0) : valF f L = valF f k := by
 obtain ⟨m, rfl⟩ : ∃ m, L = k + m := ⟨L - k, by omega⟩
 rw [valF_add, valF_zeros (f := fun j => f (k + j)) fun j hj => h (k + j) (by omega) (by omega), Nat.mul_zero, Nat.add_zero]

set_option maxRecDepth 100000 in
set_option maxHeartbeats 1000000 in
theorem rtrim_any (a : Option Addr) (L cap : Nat) (f : Nat → Nat) (hL : L ≤ 1099511627776) (hcap : L ≤ cap) (hf : ∀ j, j < L → f j < 4294967296) (w : World) (hd : Dig w a L f) :
 Calls Tryz.prog 62 #[.slice a L cap] w fun e w' => ∃ (a' : Option Addr) (cap' : Nat), e = .returned (.slice a' (dlen (valF f L)) cap') ∧ (a' = a ∨ dlen (valF f L) = 0) ∧ dlen (valF f L) ≤ cap' ∧ w' = w := by
 go_enter Tryz.func62, Tryz.ntmps62
 go_wp2
 go_loopw [3] (fun i wr => ∃ k : Nat, k ≤ L ∧ i = .int .i64 (k : Int) ∧ (∀ j, k ≤ j → j < L → f j = 0) ∧ wr = w) (fun i _ => (intOf i).toNat)
 case atStart => exact ⟨L, Nat.le_refl _, rfl, fun j h1 h2 => by omega, rfl⟩
 case round =>
  obtain ⟨k, hk, rfl, hz, hwr⟩ := hrel
  rw [hwr]
  clear hwr
  by_cases h0 : k = 0
  · subst h0
    have HZ := hide hz
    clear hz
    go_wp2
    go_ret
    have e : dlen (valF f L) = 0 := by rw [valF_drop (Nat.zero_le _) HZ.out, valF_zero, dlen_zero]
    exact ⟨a, cap, by rw [e]; rfl, .inl rfl, by omega, rfl⟩
  · obtain ⟨b, off, rfl, hc⟩ := hd.at (by omega)
    have hx := hc (k - 1) (by omega)
    have hcast : (k : Int) - 1 = ((k - 1 : Nat) : Int) := by omega
    have HZ := hide hz
    by_cases hzero : f (k - 1) = 0
    · have hx' : w.cell? ⟨b, off + (k - 1), none⟩ = some (.int .u32 0) := by rw [hx, hzero]; rfl
      have HZ0 := hide hzero
      clear hz hx hc hzero
      go_wp2
      exact ⟨⟨k - 1, by omega, rfl, fun j h1 h2 => by
       by_cases hj : j = k - 1
       · rw [hj]; exact HZ0.out
       · exact HZ.out j (by omega) h2, trivial⟩, by simp [intOf]; omega⟩
    · have hb : (((f (k - 1) : Nat) : Int) == 0) = false := by simp; omega
      have HZ0 := hide hzero
      have HF := hide hf
      clear hz hc hzero hf
      go_wp2
      go_ret
      have e : dlen (valF f L) = k := by rw [valF_drop hk HZ.out]; exact dlen_valF (fun i hi => HF.out i (by omega)) (.inr HZ0.out)
      exact ⟨_, cap, by rw [e]; rfl, .inl rfl, by omega, rfl⟩

theorem below_alloc' (w : World) (o : Obj) : Below w.heap.size w (w.alloc o) := (Below.refl _ w).alloc (Nat.le_refl _) _
theorem owns_digs {w : World} {base : Nat} {e : TypeId} {gv : Value} {k : Nat} {f : Nat → Nat} (h : w.ownsRow base e 1 gv k (digVals f k)) (hk : 0 < k) : ∃ g c, gv = .slice (some ⟨g, 0, none⟩) k c ∧ base ≤ g ∧ k ≤ c ∧ Cells w g 0 k f := by
 rcases h.2 with ⟨_, h0⟩ | ⟨g, cap, cur, rfl, hb, hob, hc, _⟩
 · omega
 · refine ⟨g, cap, rfl, hb, hc, fun j hj => ?_⟩
   have := h.cells (g := g) rfl j (.int .u32 ((f j : Nat) : Int)) (digVals_get f hj)
   rw [← this]; congr 1; unfold Addr.add; split <;> simp_all

set_option maxRecDepth 100000 in
set_option maxHeartbeats 2000000 in
theorem rsigned_any (neg : Bool) (a : Option Addr) (L cap : Nat) (f : Nat → Nat) (hL : L ≤ 1099511627776) (hcap : L ≤ cap) (hf : ∀ j, j < L → f j < 4294967296) (w : World) (hd : Dig w a L f) (hfit : dlen (valF f L) ≤ 64) :
 Calls Tryz.prog 60 #[.bool neg, .slice a L cap] w (NumPost w (signed neg (valF f L))) := by
 obtain ⟨i0, hi, hz0, hz1, hz2⟩ := info_parts info_u32
 have HI := hide hi
 have HZ := hide (And.intro hz0 (And.intro hz1 hz2))
 have HF := hide hf
 have bC : Box2 (w.alloc (Obj.cells #[.bool false, .slice none 0 0] 25)) w.heap.size (.bool false) (.slice none 0 0) := Box2.new _ _ _ _
 have hB0 : Below w.heap.size w (w.alloc (Obj.cells #[.bool false, .slice none 0 0] 25)) := (Below.refl _ w).alloc (Nat.le_refl _) _
 clear hi hz0 hz1 hz2 hf
 go_enter Tryz.func60, Tryz.ntmps60
 go_wp2_with fail
 obtain ⟨W0, hW0⟩ : ∃ W0, w.alloc (Obj.cells #[.bool false, .slice none 0 0] 25) = W0 := ⟨_, rfl⟩
 rw [hW0] at bC hB0 ⊢
 clear hW0
 have hd0 := hd.below hB0
 refine (rtrim_any a L cap f hL hcap HF.out W0 hd0).mono ?_
 rintro e w1 ⟨a1, c1, rfl, ha1, hc1, rfl⟩
 obtain ⟨V, hV⟩ : ∃ V, valF f L = V := ⟨_, rfl⟩
 rw [hV] at ha1 hc1 hfit
 have HV := hide hV
 obtain ⟨n, hn⟩ : ∃ n, dlen V = n := ⟨_, rfl⟩
 rw [hV, hn]
 rw [hn] at ha1 hc1 hfit
 have HN := hide hn
 clear hV hn
 by_cases h0 : n = 0
 · subst h0
   have hV0 : V = 0 := dlen_eq_zero.1 HN.out
   have HV0 := hide hV0
   clear hV0
   have bC0 := bC
   obtain ⟨c0, c1', z0, z1⟩ := bC
   have kC := bC0.set (.bool false) (.slice none 0 0)
   have kB := below_set2 hB0 (B := w.heap.size) (Nat.le_refl _) (.bool false) (.slice none 0 0)
   obtain ⟨q0, q1, -, -⟩ := kC
   have Q := hide (And.intro q0 q1)
   clear q0 q1
   go_wp2
   obtain ⟨q0, q1⟩ := Q.out
   refine bodyPost_ret (v := .tuple #[.agg #[.bool false, .slice none 0 0], .bool true]) (by simp [results, Tryz.results60, go_sem, q0, q1]) rfl ⟨_, _, _, _, rfl, ?_, .inl rfl, kB⟩
   rw [HV.out, HV0.out]
   exact ⟨by simp [signed], ⟨by simp [signed, dlen_zero], .inl rfl⟩⟩
 · obtain rfl : a1 = a := by rcases ha1 with h | h; exact h; exact absurd h h0
   have hnL : n ≤ L := by rw [← HN.out, ← HV.out]; exact dlen_le_iff.2 (valF_lt HF.out)
   obtain ⟨b, off, rfl, hc⟩ := (hd0.mono hnL).at (by omega)
   have hnb : ((n : Int) == 0) = false := by simp; omega
   have HC := hide hc
   have bC0 := bC
   have hbw := bC.lt
   obtain ⟨c0, c1', z0, z1⟩ := bC
   clear hc hd0 hd ha1
   go_wp2_with (at_builtin; refine wpList_append_own _ rfl _ _ 23 rfl w1.heap.size 68 i0 (.int .u32 0) 1 4 Tryz.underlying23 HI.out HZ.out.1 HZ.out.2.1 HZ.out.2.2 rfl (by decide) (.slice (some ⟨w1.heap.size, 0, none⟩) 0 0) 0 [] rfl (World.ownsRow_made w1 #[] 0 (Nat.le_refl _) (by unfold maxLen; omega) rfl) ⟨b, off, none⟩ n c1 (digVals f n) rfl (by rw [digVals_length]; omega) ?c1 (digVals_one f n) ?c3 ?c4 ?c5 ?_)
   case c1 =>
    intro j u hj
    have hjn : j < n := by have := (List.getElem?_eq_some_iff.1 hj).1; rw [digVals_length] at this; exact this
    rw [digVals_get f hjn] at hj
    cases hj
    have := (HC.out.below (below_alloc' w1 (Obj.cells #[] 68)) (.inr (by have := HC.out.lt (by omega); exact this))) j hjn
    rw [← this]; congr 1; unfold Addr.add; split <;> simp_all
   case c3 => unfold maxLen; omega
   case c4 => omega
   case c5 => simp
   intro v' w2 hown hgrow _
   obtain ⟨g, c, rfl, hg, hgc, hcg⟩ := owns_digs hown (by omega)
   have hbk : w2.heap[w.heap.size]? = w1.heap[w.heap.size]? := by
    rw [hgrow.block w.heap.size (by rw [World.size_alloc]; omega) (fun e => by have e' : w.heap.size = w1.heap.size := Option.some.inj e; omega), Below.heap_alloc w1 _ _ hbw]
   have bC2 : Box2 w2 w.heap.size (.bool false) (.slice none 0 0) := ⟨by rw [cell_of_block_eq hbk]; exact bC0.c0, by rw [cell_of_block_eq hbk]; exact bC0.c1, by rw [frozen_of_block_eq hbk]; exact bC0.z0, by rw [frozen_of_block_eq hbk]; exact bC0.z1⟩
   have hB2 : Below w.heap.size w w2 := (hB0.alloc hB0.size _).grown hgrow (by rw [World.size_alloc]; omega) (fun k e => by have e' : w1.heap.size = k := Option.some.inj e; omega)
   have hfn : ∀ j, j < n → f j < 4294967296 := fun j hj => HF.out j (by omega)
   have hVn : valF f n = V := by
    rw [← HV.out]
    refine (valF_drop hnL fun j h1 h2 => ?_).symm
    have h3 := dgt_valF HF.out h2
    rw [HV.out] at h3
    rw [← h3]; unfold dgt
    rw [Nat.div_eq_of_lt (Nat.lt_of_lt_of_le (lt_bp_dlen V) (bp_le (by rw [HN.out]; exact h1)))]
   have hI : IsD w2 (some ⟨g, 0, none⟩) n V := by
    refine ⟨HN.out.symm, .inr ⟨g, 0, rfl, hcg.congr fun j hj => ?_⟩⟩
    rw [← hVn, dgt_valF hfn hj]
   have hV0 : V ≠ 0 := fun e => h0 (by rw [← HN.out, e, dlen_zero])
   have hN2 : IsN w2 neg (some ⟨g, 0, none⟩) n (signed neg V) := IsN.mk' hI (fun _ => hV0)
   obtain ⟨hbx, hN, hBB⟩ := num_store (cap := c) bC2 (Nat.le_refl _) hB2 hN2 (.inr fun ad e => by cases e; show g ≠ _; omega)
   have Q := hide (And.intro hbx (And.intro hN hBB))
   obtain ⟨r0, r1, y0, y1⟩ := bC2
   clear hbx hN hBB hI hN2 hVn hfn hcg hown hgrow hnb c0 c1' z0 z1
   go_wp2
   obtain ⟨⟨q0, q1, -, -⟩, hN, hBB⟩ := Q.out
   refine bodyPost_ret (v := .tuple #[.agg #[.bool neg, .slice (some ⟨g, 0, none⟩) n c], .bool true]) (by simp [results, Tryz.results60, go_sem, q0, q1]) rfl ⟨_, _, _, _, rfl, ?_, .inr fun ad e => by cases e; show _ ≤ g; omega, hBB⟩
   rw [HV.out]; exact hN
end Go.Proofs.YtgenaicmjddjcaaGreatDoor

/- The reference's Made. -/
namespace Go.Proofs.YtgenaicmjddjcaaGreatDoor
open Go.RowKit Go.Shelf

def Ints (w : World) (a : Option Addr) (L : Nat) (g : Nat → Int) : Prop := L = 0 ∨ ∃ b off, a = some ⟨b, off, none⟩ ∧ ∀ j, j < L → w.cell? ⟨b, off + j, none⟩ = some (.int .i64 (g j))
theorem Ints.below {w w' : World} {a : Option Addr} {L : Nat} {g : Nat → Int} (h : Ints w a L g) (t : Below w.heap.size w w') : Ints w' a L g := by
 rcases h with h | ⟨b, off, e, hc⟩
 · exact .inl h
 · exact .inr ⟨b, off, e, fun j hj => (t.cell (p := ⟨b, off + j, none⟩) (lt_of_cell (hc j hj))).trans (hc j hj)⟩
theorem digVals_succ (f : Nat → Nat) (k : Nat) : digVals f (k + 1) = digVals f k ++ [.int .u32 ((f k : Nat) : Int)] := by simp [digVals, List.range_succ]

end Go.Proofs.YtgenaicmjddjcaaGreatDoor

/- A region that makes several Nums and stores each in a variable of its own, in whatever order its operations come up. -/
namespace Go.Proofs.YtgenaicmjddjcaaGreatDoor
open Go.RowKit Go.Shelf

section
variable {P : Program} {ops : Array Oper} {Q : Exit → Act → World → Prop} {md : Region.Mode} {S : World → Prop}
theorem ready_nil_of_full {l : Array Bool} (hs : l.size = ops.size) (h : l.toList.count false = 0) : Region.ready md ops l = [] := by
 rw [List.eq_nil_iff_forall_not_mem]
 intro i hi
 obtain ⟨h0, o, ho, -⟩ := mem_ready.1 hi
 have hlt : i < l.size := by rw [hs]; exact (Array.getElem?_eq_some_iff.1 ho).1
 have : l[i] = false := by simpa [hlt] using h0
 have hm : false ∈ l.toList := by rw [← this]; simp
 rw [List.count_eq_zero] at h
 exact h hm
theorem wpAnyH_inv {I : Array Bool → Act → World → Prop} (hsz : ∀ l a w, I l a w → l.size = ops.size) (hS : ∀ l a w, I l a w → S w)
 (hstep : ∀ l a w, I l a w → ∀ i ∈ Region.ready md ops l, wpOp P ops Q i (I (l.setIfInBounds i true)) a w)
 (hend : ∀ l a w, I l a w → Region.ready md ops l = [] → Q .normal a w) :
 ∀ (fuel : Nat) (l : Array Bool) (a : Act) (w : World), l.toList.count false ≤ fuel → I l a w → wpAnyH P md ops Q S fuel l a w
 | 0, l, a, w, hf, hI => by
   have := ready_nil_of_full (md := md) (hsz l a w hI) (by omega : l.toList.count false = 0)
   exact ⟨this, hend l a w hI this⟩
 | fuel + 1, l, a, w, hf, hI => ⟨hend l a w hI, fun i hi => wpOp_mono (fun a' w' h' => ⟨hS _ _ _ h', wpAnyH_inv hsz hS hstep hend fuel _ a' w' (by
    obtain ⟨h0, o, ho, -⟩ := mem_ready.1 hi
    have hlt : i < l.size := by rw [hsz l a w hI]; exact (Array.getElem?_eq_some_iff.1 ho).1
    have h1 : l[i] = false := by simpa [hlt] using h0
    have h2 : 0 < l.toList.count false := List.count_pos_iff.2 (by rw [← h1]; simp)
    rw [Array.toList_setIfInBounds, List.count_set (by simpa using hlt)]
    have h3 : l.toList[i]'(by simpa using hlt) = false := by simpa using h1
    rw [h3, if_pos (by decide), if_neg (by decide)]; omega) h'⟩) (hstep l a w hI i hi)⟩
theorem take_at {i : Nat} (d : Tmp) {oi : Oper} {v : Value} {fuel : Nat} {listed : Array Bool} {a : Act} {w : World} (hi : ops[i]? = some oi) (hd : oi.dst = some d)
 (hs : Region.noSelect ops = true) (hf : Region.free md ops listed i = true) (hr : (Region.ready md ops listed).contains i = true)
 (hQ : ∀ c a w, Q (.panic c) (a.put oi.dst v) w → Q (.panic c) a w) (hy : YieldsIf P ops S oi v a) (hS : S w)
 (h : wpAnyH P md ops Q S fuel (listed.setIfInBounds i true) (a.put (some d) v) w) : wpAnyH P md ops Q S (fuel + 1) listed a w :=
 wpAnyH_take hi hs hf hr hQ hy hS (by rw [hd]; exact h)
theorem tk (i : Nat) (v : Value) (d : Tmp) {oi : Oper} {fuel : Nat} {listed : Array Bool} {a : Act} {w : World} (hi : ops[i]? = some oi) (hd : oi.dst = some d)
 (h : wpAnyH P md ops Q S fuel (listed.setIfInBounds i true) (a.put (some d) v) w) (hy : YieldsIf P ops S oi v a := by exact Or.inl ⟨by rfl, fun w' hSw => by go_simp⟩)
 (hs : Region.noSelect ops = true := by kernel_rfl) (hf : Region.free md ops listed i = true := by kernel_rfl) (hr : (Region.ready md ops listed).contains i = true := by kernel_rfl)
 (hQ : ∀ c a w, Q (.panic c) (a.put oi.dst v) w → Q (.panic c) a w := by exact fun _ _ _ h => h) (hS : S w := by assumption) : wpAnyH P md ops Q S (fuel + 1) listed a w :=
 wpAnyH_take hi hs hf hr hQ hy hS (by rw [hd]; exact h)
theorem wpOp_call {i : Nat} {o : Oper} {a : Act} {w : World} {K : Act → World → Prop} {f : FuncId} {args : Array Value} (d : Tmp) (hi : ops[i]? = some o) (hd : o.dst = some d) (hw : Region.wanted o (yielded ops a.tmps) = true)
 (he : (execOp a.eval o).run P w = .ok (.enter f args) w) (h : Calls P f args w fun e w' => ∃ v, e = .returned v ∧ K (a.put (some d) v) w') : wpOp P ops Q i K a w := by
 unfold wpOp; simp only [hi]
 rw [if_pos hw]
 refine .inl ?_
 unfold Oper.wp
 rw [he]
 simp only [Oper.upon]
 refine h.mono ?_
 rintro e w' ⟨v, rfl, hK⟩
 rw [hd]; exact hK
theorem wpOp_run {i : Nat} {o : Oper} {a : Act} {w : World} {K : Act → World → Prop} (hi : ops[i]? = some o) (h : if Region.wanted o (yielded ops a.tmps) then o.wp P a w K Q else K (a.put o.dst undef) w) : wpOp P ops Q i K a w := by
 unfold wpOp; simp only [hi]
 split
 · rename_i hw; rw [if_pos hw] at h; exact .inl h
 · rename_i hw; rw [if_neg hw] at h; exact h
end

def upd {α : Type} (f : Nat → α) (k : Nat) (v : α) : Nat → α := fun j => if j = k then v else f j
theorem upd_same {α : Type} (f : Nat → α) (k : Nat) (v : α) : upd f k v k = v := if_pos rfl
theorem upd_ne {α : Type} (f : Nat → α) {k j : Nat} (v : α) (h : j ≠ k) : upd f k v j = f j := if_neg h
theorem upd_eq {α : Type} (f : Nat → α) {k j : Nat} (v : α) (h : j = k) : upd f k v j = v := if_pos h

structure Fan (K : Nat) (w0 : World) (la lc ls : Nat → Bool) (U V : Nat → Value) (B : Nat → Nat) (s : Nat → Bool) (a : Nat → Option Addr) (n c : Nat → Nat) (z : Nat → Int) (w : World) : Prop where
 below : Below w0.heap.size w0 w
 var : ∀ k, k < K → la k = true → U k = .pointer (some ⟨B k, 0, none⟩) ∧ w0.heap.size ≤ B k
 box0 : ∀ k, k < K → la k = true → ls k = false → Box2 w (B k) (.bool false) (.slice none 0 0)
 box1 : ∀ k, k < K → la k = true → ls k = true → Box2 w (B k) (.bool (s k)) (.slice (a k) (n k) (c k))
 apart : ∀ j k, j < K → k < K → j ≠ k → la j = true → la k = true → B j ≠ B k
 num : ∀ k, k < K → lc k = true → V k = .agg #[.bool (s k), .slice (a k) (n k) (c k)] ∧ IsN w (s k) (a k) (n k) (z k) ∧ n k ≤ 6 ∧ (n k = 0 ∨ Fresh w0 (a k))
 off : ∀ j k, j < K → k < K → lc j = true → la k = true → n j = 0 ∨ ∀ ad, a j = some ad → ad.block ≠ B k
 ord : ∀ k, k < K → ls k = true → la k = true ∧ lc k = true
theorem Fan.box {K : Nat} {w0 w : World} {la lc ls : Nat → Bool} {U V : Nat → Value} {B : Nat → Nat} {s : Nat → Bool} {a : Nat → Option Addr} {n c : Nat → Nat} {z : Nat → Int} (h : Fan K w0 la lc ls U V B s a n c z w) {k : Nat} (hk : k < K) (ha : la k = true) : ∃ v0 v1, Box2 w (B k) v0 v1 := by
 cases hs : ls k with
 | false => exact ⟨_, _, h.box0 k hk ha hs⟩
 | true => exact ⟨_, _, h.box1 k hk ha hs⟩
theorem Fan.lt {K : Nat} {w0 w : World} {la lc ls : Nat → Bool} {U V : Nat → Value} {B : Nat → Nat} {s : Nat → Bool} {a : Nat → Option Addr} {n c : Nat → Nat} {z : Nat → Int} (h : Fan K w0 la lc ls U V B s a n c z w) {k : Nat} (hk : k < K) (ha : la k = true) : B k < w.heap.size := by
 obtain ⟨_, _, hb⟩ := h.box hk ha
 exact hb.lt
theorem IsN.old {w : World} {s : Bool} {a : Option Addr} {n : Nat} {z : Int} (h : IsN w s a n z) {g : Nat} (hg : w.heap.size ≤ g) : n = 0 ∨ ∀ ad, a = some ad → ad.block ≠ g := by
 by_cases h0 : n = 0
 · exact .inl h0
 · exact .inr (h.dig.dig.old hg (by omega))
theorem Fan.start (K : Nat) (w0 : World) (U V : Nat → Value) (B : Nat → Nat) (s : Nat → Bool) (a : Nat → Option Addr) (n c : Nat → Nat) (z : Nat → Int) {la lc ls : Nat → Bool} (ha : ∀ k, k < K → la k = false) (hc : ∀ k, k < K → lc k = false) (hs : ∀ k, k < K → ls k = false) : Fan K w0 la lc ls U V B s a n c z w0 where
 below := Below.refl _ _
 var k hk h := by rw [ha k hk] at h; cases h
 box0 k hk h := by rw [ha k hk] at h; cases h
 box1 k hk h := by rw [ha k hk] at h; cases h
 apart j k hj hk _ h := by rw [ha j hj] at h; cases h
 num k hk h := by rw [hc k hk] at h; cases h
 off j k hj hk h := by rw [hc j hj] at h; cases h
 ord k hk h := by rw [hs k hk] at h; cases h
theorem Fan.congr {K : Nat} {w0 w : World} {la lc ls la' lc' ls' : Nat → Bool} {U V : Nat → Value} {B : Nat → Nat} {s : Nat → Bool} {a : Nat → Option Addr} {n c : Nat → Nat} {z : Nat → Int} (h : Fan K w0 la lc ls U V B s a n c z w)
 (ea : ∀ k, k < K → la' k = la k) (ec : ∀ k, k < K → lc' k = lc k) (es : ∀ k, k < K → ls' k = ls k) : Fan K w0 la' lc' ls' U V B s a n c z w where
 below := h.below
 var k hk h' := h.var k hk (by rw [← ea k hk]; exact h')
 box0 k hk h' h'' := h.box0 k hk (by rw [← ea k hk]; exact h') (by rw [← es k hk]; exact h'')
 box1 k hk h' h'' := h.box1 k hk (by rw [← ea k hk]; exact h') (by rw [← es k hk]; exact h'')
 apart j k hj hk hne h1 h2 := h.apart j k hj hk hne (by rw [← ea j hj]; exact h1) (by rw [← ea k hk]; exact h2)
 num k hk h' := h.num k hk (by rw [← ec k hk]; exact h')
 off j k hj hk h1 h2 := h.off j k hj hk (by rw [← ec j hj]; exact h1) (by rw [← ea k hk]; exact h2)
 ord k hk h' := by rw [ea k hk, ec k hk]; exact h.ord k hk (by rw [← es k hk]; exact h')
theorem Fan.alloc {K : Nat} {w0 w : World} {la lc ls : Nat → Bool} {U V : Nat → Value} {B : Nat → Nat} {s : Nat → Bool} {a : Nat → Option Addr} {n c : Nat → Nat} {z : Nat → Int} (h : Fan K w0 la lc ls U V B s a n c z w) {k : Nat} (hk : k < K) (hla : la k = false) (t : TypeId) :
 Fan K w0 (upd la k true) lc ls (upd U k (.pointer (some ⟨w.heap.size, 0, none⟩))) V (upd B k w.heap.size) s a n c z (w.alloc (Obj.cells #[.bool false, .slice none 0 0] t)) := by
 have hg := below_alloc' w (Obj.cells #[.bool false, .slice none 0 0] t)
 have hls : ls k = false := by
  cases hs : ls k with
  | false => rfl
  | true => rw [(h.ord k hk hs).1] at hla; cases hla
 have hold : ∀ j, j ≠ k → upd la k true j = true → la j = true := fun j hj e => by rwa [upd_ne _ _ hj] at e
 refine { below := h.below.trans (hg.mono h.below.size), var := fun j hj e => ?_, box0 := fun j hj e e' => ?_, box1 := fun j hj e e' => ?_, apart := fun i j hi hj hne e1 e2 => ?_, num := fun j hj e => ?_, off := fun i j hi hj e1 e2 => ?_, ord := fun j hj e => ?_ }
 · by_cases ej : j = k
   · subst ej; rw [upd_same, upd_same]; exact ⟨rfl, h.below.size⟩
   · rw [upd_ne _ _ ej, upd_ne _ _ ej]; exact h.var j hj (hold j ej e)
 · by_cases ej : j = k
   · subst ej; rw [upd_same]; exact Box2.new _ _ _ _
   · rw [upd_ne _ _ ej]; have := h.box0 j hj (hold j ej e) e'; exact this.below hg this.lt
 · by_cases ej : j = k
   · subst ej; rw [hls] at e'; cases e'
   · rw [upd_ne _ _ ej]; have := h.box1 j hj (hold j ej e) e'; exact this.below hg this.lt
 · by_cases ei : i = k
   · subst ei
     rw [upd_same, upd_ne _ _ (Ne.symm hne)]
     have := h.lt hj (hold j (Ne.symm hne) e2); omega
   · rw [upd_ne _ _ ei]
     by_cases ej : j = k
     · subst ej; rw [upd_same]; have := h.lt hi (hold i ei e1); omega
     · rw [upd_ne _ _ ej]; exact h.apart i j hi hj hne (hold i ei e1) (hold j ej e2)
 · obtain ⟨h1, h2, h3, h4⟩ := h.num j hj e
   exact ⟨h1, h2.below hg, h3, h4⟩
 · by_cases ej : j = k
   · subst ej; rw [upd_same]; exact (h.num i hi e1).2.1.old (Nat.le_refl _)
   · rw [upd_ne _ _ ej]; exact h.off i j hi hj e1 (hold j ej e2)
 · obtain ⟨h1, h2⟩ := h.ord j hj e
   refine ⟨?_, h2⟩
   by_cases ej : j = k
   · rw [upd_eq _ _ ej]
   · rw [upd_ne _ _ ej]; exact h1
theorem Fan.call {K : Nat} {w0 w w' : World} {la lc ls : Nat → Bool} {U V : Nat → Value} {B : Nat → Nat} {s : Nat → Bool} {a : Nat → Option Addr} {n c : Nat → Nat} {z : Nat → Int} (h : Fan K w0 la lc ls U V B s a n c z w) {k : Nat} (hk : k < K) (hlc : lc k = false)
 {s' : Bool} {a' : Option Addr} {n' c' : Nat} {z' : Int} (hN : IsN w' s' a' n' z') (h6 : n' ≤ 6) (hf : n' = 0 ∨ Fresh w a') (hg : Below w.heap.size w w') :
 Fan K w0 la (upd lc k true) ls U (upd V k (.agg #[.bool s', .slice a' n' c'])) B (upd s k s') (upd a k a') (upd n k n') (upd c k c') (upd z k z') w' := by
 have hls : ls k = false := by
  cases hs : ls k with
  | false => rfl
  | true => rw [(h.ord k hk hs).2] at hlc; cases hlc
 have hold : ∀ j, j ≠ k → upd lc k true j = true → lc j = true := fun j hj e => by rwa [upd_ne _ _ hj] at e
 refine { below := h.below.trans (hg.mono h.below.size), var := h.var, box0 := fun j hj e e' => ?_, box1 := fun j hj e e' => ?_, apart := h.apart, num := fun j hj e => ?_, off := fun i j hi hj e1 e2 => ?_, ord := fun j hj e => ?_ }
 · have := h.box0 j hj e e'; exact this.below hg this.lt
 · have ej : j ≠ k := fun ej => by subst ej; rw [hls] at e'; cases e'
   rw [upd_ne _ _ ej, upd_ne _ _ ej, upd_ne _ _ ej, upd_ne _ _ ej]
   have := h.box1 j hj e e'; exact this.below hg this.lt
 · by_cases ej : j = k
   · subst ej
     rw [upd_same, upd_same, upd_same, upd_same, upd_same, upd_same]
     exact ⟨rfl, hN, h6, hf.imp id fun hf ad e => Nat.le_trans h.below.size (hf ad e)⟩
   · rw [upd_ne _ _ ej, upd_ne _ _ ej, upd_ne _ _ ej, upd_ne _ _ ej, upd_ne _ _ ej, upd_ne _ _ ej]
     obtain ⟨h1, h2, h3, h4⟩ := h.num j hj (hold j ej e)
     exact ⟨h1, h2.below hg, h3, h4⟩
 · by_cases ei : i = k
   · subst ei
     rw [upd_same, upd_same]
     have := h.lt hj e2
     exact hf.imp id fun hf ad e => by have := hf ad e; omega
   · rw [upd_ne _ _ ei, upd_ne _ _ ei]; exact h.off i j hi hj (hold i ei e1) e2
 · obtain ⟨h1, h2⟩ := h.ord j hj e
   refine ⟨h1, ?_⟩
   by_cases ej : j = k
   · rw [upd_eq _ _ ej]
   · rw [upd_ne _ _ ej]; exact h2
theorem Fan.store {K : Nat} {w0 w : World} {la lc ls : Nat → Bool} {U V : Nat → Value} {B : Nat → Nat} {s : Nat → Bool} {a : Nat → Option Addr} {n c : Nat → Nat} {z : Nat → Int} (h : Fan K w0 la lc ls U V B s a n c z w) {k : Nat} (hk : k < K) (hla : la k = true) (hlc : lc k = true) :
 Fan K w0 la lc (upd ls k true) U V B s a n c z ((w.setCell ⟨B k, 0, none⟩ (.bool (s k))).setCell ⟨B k, 1, none⟩ (.slice (a k) (n k) (c k))) := by
 obtain ⟨v0, v1, hb⟩ := h.box hk hla
 have hold : ∀ j, j ≠ k → upd ls k true j = ls j := fun j hj => upd_ne _ _ hj
 refine { below := below_set2 h.below (h.var k hk hla).2 _ _, var := h.var, box0 := fun j hj e e' => ?_, box1 := fun j hj e e' => ?_, apart := h.apart, num := fun j hj e => ?_, off := h.off, ord := fun j hj e => ?_ }
 · have ej : j ≠ k := fun ej => by subst ej; rw [upd_same] at e'; cases e'
   rw [hold j ej] at e'
   exact (h.box0 j hj e e').other _ _ (h.apart j k hj hk ej e hla)
 · by_cases ej : j = k
   · subst ej; exact hb.set _ _
   · rw [hold j ej] at e'
     exact (h.box1 j hj e e').other _ _ (h.apart j k hj hk ej e hla)
 · obtain ⟨h1, h2, h3, h4⟩ := h.num j hj e
   exact ⟨h1, h2.set2 hb _ _ (h.off j k hj hk e hla), h3, h4⟩
 · by_cases ej : j = k
   · subst ej; exact ⟨hla, hlc⟩
   · rw [hold j ej] at e; exact h.ord j hj e

theorem getD_set_same {l : Array Bool} {i : Nat} (h : l.getD i true = false) (d : Bool) : (l.setIfInBounds i true).getD i d = true := by
 have hlt : i < l.size := by
  rcases Nat.lt_or_ge i l.size with h' | h'
  · exact h'
  · simp [Array.getElem?_eq_none h'] at h
 simp [hlt]
theorem getD_flip {l : Array Bool} {i : Nat} (hi : i < l.size) (d e : Bool) : l.getD i d = l.getD i e := by simp [hi]

end Go.Proofs.YtgenaicmjddjcaaGreatDoor

/- Small laws of right Nums: equal ones are the same, absolute values, bounds of sums and products, order. -/
namespace Go.Proofs.YtgenaicmjddjcaaGreatDoor
open Go.RowKit Go.Shelf

theorem num_zero {w : World} {s : Bool} {a : Option Addr} {z : Int} (h : IsN w s a 0 z) : z = 0 := by
 have := h.dig.len.symm
 rw [dlen_eq_zero] at this; omega
theorem fit_of {z : Int} {k : Nat} (h : z.natAbs < bp k) (hk : k ≤ 64) : dlen z.natAbs ≤ 64 := Nat.le_trans (dlen_le_iff.2 h) hk
theorem add_lt {x y : Int} {k : Nat} (hx : x.natAbs < bp k) (hy : y.natAbs < bp k) : (x + y).natAbs < bp (k + 1) := by
 rw [bp_succ]; have := bp_pos k; omega
theorem mul_lt {x y : Int} {i j : Nat} (hx : x.natAbs < bp i) (hy : y.natAbs < bp j) : (x * y).natAbs < bp (i + j) := by
 rw [Int.natAbs_mul, bp_add]
 exact Nat.lt_of_le_of_lt (Nat.mul_le_mul_left _ (Nat.le_of_lt hy)) ((Nat.mul_lt_mul_right (bp_pos j)).2 hx)
theorem lt_mono {z : Int} {i j : Nat} (h : z.natAbs < bp i) (hj : i ≤ j) : z.natAbs < bp j := Nat.lt_of_lt_of_le h (bp_le hj)
theorem cmpZ_add (x y c : Int) : cmpZ (x + c) (y + c) = cmpZ x y := by unfold cmpZ; simp only [Int.add_lt_add_iff_right, Int.add_left_inj]
end Go.Proofs.YtgenaicmjddjcaaGreatDoor

