/- Div and Gcd of any Nums, right or not: num's and the reference's. -/
import Derived.Test.YtikepnocefdmnaaGreatDoorRdF
import Derived.Test.YtikepnocefdmnaaGreatDoorPGcd
import Derived.Test.YtikepnocefdmnaaGreatDoorPDivL
import Derived.Test.YtikepnocefdmnaaGreatDoorPAd
namespace Go.Proofs.YtikepnocefdmnaaGreatDoor
open Go.RowKit Go.Shelf

/-- no quotient -/
def NoDiv (w : World) (e : Ending) (w' : World) : Prop := e = .returned (.tuple #[.agg #[.bool false, .slice none 0 0], .agg #[.bool false, .slice none 0 0], .bool false]) ∧ Below w.heap.size w w'
/-- what Div hands back: quotient, rest and whether there is one -/
def DivOut (w : World) (Q R : Int) (ok : Bool) (e : Ending) (w' : World) : Prop :=
 ∃ (s1 : Bool) (a1 : Option Addr) (n1 c1 : Nat) (s2 : Bool) (a2 : Option Addr) (n2 c2 : Nat), e = .returned (.tuple #[.agg #[.bool s1, .slice a1 n1 c1], .agg #[.bool s2, .slice a2 n2 c2], .bool ok]) ∧ IsN w' s1 a1 n1 Q ∧ IsN w' s2 a2 n2 R ∧ n1 ≤ 64 ∧ n2 ≤ 64 ∧ Below w.heap.size w w'
theorem NoDiv.div {w w' : World} {e : Ending} (h : NoDiv w e w') : DivOut w 0 0 false e w' :=
 ⟨_, _, _, _, _, _, _, _, h.1, zero_num _, zero_num _, by decide, by decide, h.2⟩
theorem divs_unique {a b q r : Int} (e : a = q * b + r) (h0 : 0 ≤ r) (h1 : r < b.natAbs) (hb : b ≠ 0) : q = a / b ∧ r = a % b := by
 have e' : r + b * q = a := by rw [Int.mul_comm b q]; omega
 rcases Int.lt_or_gt_of_ne hb with h | h
 · have := (Int.ediv_emod_unique' (a := a) (r := r) (q := q) h).2 ⟨e', h0, by omega⟩
   exact ⟨this.1.symm, this.2.symm⟩
 · have := (Int.ediv_emod_unique (a := a) (r := r) (q := q) h).2 ⟨e', h0, by omega⟩
   exact ⟨this.1.symm, this.2.symm⟩
theorem DivsPost.div {w w' : World} {za zb : Int} {e : Ending} (h : DivsPost w za zb e w') (hb : zb ≠ 0) : DivOut w (za / zb) (za % zb) true e w' := by
 obtain ⟨q, r, s1, a1, n1, c1, s2, a2, n2, c2, rfl, hq, h0, h1, N1, N2, -, -, k1, k2, hk⟩ := h
 obtain ⟨rfl, rfl⟩ := divs_unique hq h0 h1 hb
 exact ⟨s1, a1, n1, c1, s2, a2, n2, c2, rfl, N1, N2, k1, k2, hk⟩

set_option maxRecDepth 100000 in
set_option maxHeartbeats 2000000 in
theorem rdiv_no_a (sa sb : Bool) (aa ab : Option Addr) (na nb ca cb : Nat) (w : World) (ha : Arg w sa aa na none) :
 Calls Tryz.prog 76 #[.agg #[.bool sa, .slice aa na ca], .agg #[.bool sb, .slice ab nb cb]] w (NoDiv w) := by
 go_enter Tryz.func76, Tryz.ntmps76
 go_wp2_with fail
 obtain ⟨W0, hW0⟩ : ∃ W0, (((w.alloc (Obj.cells #[.bool sa, .slice aa na ca] 25)).alloc (Obj.cells #[.bool sb, .slice ab nb cb] 25)).alloc (Obj.cells #[.bool false, .slice none 0 0] 25)).alloc (Obj.cells #[.bool false, .slice none 0 0] 25) = W0 := ⟨_, rfl⟩
 obtain ⟨bA, bB, bC, bD, hB⟩ := four_boxes w _ _ _ _ _ hW0
 rw [hW0]
 clear hW0
 refine (rright_arg sa aa na ca none _ (ha.below hB)).mono ?_
 rintro e w1 ⟨rfl, hk⟩
 have hB := hB.trans (hk.mono hB.size)
 have bA := bA.below hk bA.lt
 have bB := bB.below hk bB.lt
 have bC := bC.below hk bC.lt
 have bD := bD.below hk bD.lt
 clear hk
 have kD := bD.other (.bool false) (.slice none 0 0) (C := w.heap.size + 1 + 1 + 1) (B := w.heap.size + 1 + 1) (by omega)
 obtain ⟨q0, q1, -, -⟩ := (bC.set (.bool false) (.slice none 0 0)).other (.bool false) (.slice none 0 0) (C := w.heap.size + 1 + 1) (B := w.heap.size + 1 + 1 + 1) (by omega)
 obtain ⟨r0, r1, -, -⟩ := kD.set (.bool false) (.slice none 0 0)
 have kB := below_set2 (below_set2 hB (B := w.heap.size + 1 + 1) (by omega) (.bool false) (.slice none 0 0)) (B := w.heap.size + 1 + 1 + 1) (by omega) (.bool false) (.slice none 0 0)
 have Q := hide (And.intro q0 (And.intro q1 (And.intro r0 r1)))
 clear q0 q1 r0 r1 kD
 obtain ⟨b0, b1, -, -⟩ := bB
 obtain ⟨c0, c1, cf0, cf1⟩ := bC
 obtain ⟨d0, d1, df0, df1⟩ := bD
 go_wp2
 obtain ⟨q0, q1, r0, r1⟩ := Q.out
 exact bodyPost_ret (v := .tuple #[.agg #[.bool false, .slice none 0 0], .agg #[.bool false, .slice none 0 0], .bool false]) (by simp [results, Tryz.results76, go_sem, q0, q1, r0, r1]) rfl ⟨rfl, kB⟩

set_option maxRecDepth 100000 in
set_option maxHeartbeats 2000000 in
theorem rdiv_no_b (sa sb : Bool) (aa ab : Option Addr) (na nb ca cb : Nat) (z : Int) (w : World) (ha : Arg w sa aa na (some z)) (hb : Arg w sb ab nb none) :
 Calls Tryz.prog 76 #[.agg #[.bool sa, .slice aa na ca], .agg #[.bool sb, .slice ab nb cb]] w (NoDiv w) := by
 go_enter Tryz.func76, Tryz.ntmps76
 go_wp2_with fail
 obtain ⟨W0, hW0⟩ : ∃ W0, (((w.alloc (Obj.cells #[.bool sa, .slice aa na ca] 25)).alloc (Obj.cells #[.bool sb, .slice ab nb cb] 25)).alloc (Obj.cells #[.bool false, .slice none 0 0] 25)).alloc (Obj.cells #[.bool false, .slice none 0 0] 25) = W0 := ⟨_, rfl⟩
 obtain ⟨bA, bB, bC, bD, hB⟩ := four_boxes w _ _ _ _ _ hW0
 rw [hW0]
 clear hW0
 refine (rright_arg sa aa na ca (some z) _ (ha.below hB)).mono ?_
 rintro e w1 ⟨rfl, hk⟩
 have hB := hB.trans (hk.mono hB.size)
 have bA := bA.below hk bA.lt
 have bB := bB.below hk bB.lt
 have bC := bC.below hk bC.lt
 have bD := bD.below hk bD.lt
 clear hk
 obtain ⟨b0, b1, -, -⟩ := id bB
 go_wp2_with fail
 clear b0 b1
 refine (rright_arg sb ab nb cb none _ (hb.below hB)).mono ?_
 rintro e w2 ⟨rfl, hk⟩
 have hB := hB.trans (hk.mono hB.size)
 have bA := bA.below hk bA.lt
 have bB := bB.below hk bB.lt
 have bC := bC.below hk bC.lt
 have bD := bD.below hk bD.lt
 clear hk
 have kD := bD.other (.bool false) (.slice none 0 0) (C := w.heap.size + 1 + 1 + 1) (B := w.heap.size + 1 + 1) (by omega)
 obtain ⟨q0, q1, -, -⟩ := (bC.set (.bool false) (.slice none 0 0)).other (.bool false) (.slice none 0 0) (C := w.heap.size + 1 + 1) (B := w.heap.size + 1 + 1 + 1) (by omega)
 obtain ⟨r0, r1, -, -⟩ := kD.set (.bool false) (.slice none 0 0)
 have kB := below_set2 (below_set2 hB (B := w.heap.size + 1 + 1) (by omega) (.bool false) (.slice none 0 0)) (B := w.heap.size + 1 + 1 + 1) (by omega) (.bool false) (.slice none 0 0)
 have Q := hide (And.intro q0 (And.intro q1 (And.intro r0 r1)))
 clear q0 q1 r0 r1 kD
 obtain ⟨b0, b1, -, -⟩ := bB
 obtain ⟨c0, c1, cf0, cf1⟩ := bC
 obtain ⟨d0, d1, df0, df1⟩ := bD
 go_wp2
 obtain ⟨q0, q1, r0, r1⟩ := Q.out
 exact bodyPost_ret (v := .tuple #[.agg #[.bool false, .slice none 0 0], .agg #[.bool false, .slice none 0 0], .bool false]) (by simp [results, Tryz.results76, go_sem, q0, q1, r0, r1]) rfl ⟨rfl, kB⟩

set_option maxRecDepth 100000 in
set_option maxHeartbeats 2000000 in
theorem rdiv_zero (sa sb : Bool) (aa ab : Option Addr) (na ca cb : Nat) (za zb : Int) (w : World) (ha : Arg w sa aa na (some za)) (hb : Arg w sb ab 0 (some zb)) :
 Calls Tryz.prog 76 #[.agg #[.bool sa, .slice aa na ca], .agg #[.bool sb, .slice ab 0 cb]] w (NoDiv w) := by
 go_enter Tryz.func76, Tryz.ntmps76
 go_wp2_with fail
 obtain ⟨W0, hW0⟩ : ∃ W0, (((w.alloc (Obj.cells #[.bool sa, .slice aa na ca] 25)).alloc (Obj.cells #[.bool sb, .slice ab 0 cb] 25)).alloc (Obj.cells #[.bool false, .slice none 0 0] 25)).alloc (Obj.cells #[.bool false, .slice none 0 0] 25) = W0 := ⟨_, rfl⟩
 obtain ⟨bA, bB, bC, bD, hB⟩ := four_boxes w _ _ _ _ _ hW0
 rw [hW0]
 clear hW0
 refine (rright_arg sa aa na ca (some za) _ (ha.below hB)).mono ?_
 rintro e w1 ⟨rfl, hk⟩
 have hB := hB.trans (hk.mono hB.size)
 have bA := bA.below hk bA.lt
 have bB := bB.below hk bB.lt
 have bC := bC.below hk bC.lt
 have bD := bD.below hk bD.lt
 clear hk
 obtain ⟨b0, b1, -, -⟩ := id bB
 go_wp2_with fail
 clear b0 b1
 refine (rright_arg sb ab 0 cb (some zb) _ (hb.below hB)).mono ?_
 rintro e w2 ⟨rfl, hk⟩
 have hB := hB.trans (hk.mono hB.size)
 have bA := bA.below hk bA.lt
 have bB := bB.below hk bB.lt
 have bC := bC.below hk bC.lt
 have bD := bD.below hk bD.lt
 clear hk
 have kD := bD.other (.bool false) (.slice none 0 0) (C := w.heap.size + 1 + 1 + 1) (B := w.heap.size + 1 + 1) (by omega)
 obtain ⟨q0, q1, -, -⟩ := (bC.set (.bool false) (.slice none 0 0)).other (.bool false) (.slice none 0 0) (C := w.heap.size + 1 + 1) (B := w.heap.size + 1 + 1 + 1) (by omega)
 obtain ⟨r0, r1, -, -⟩ := kD.set (.bool false) (.slice none 0 0)
 have kB := below_set2 (below_set2 hB (B := w.heap.size + 1 + 1) (by omega) (.bool false) (.slice none 0 0)) (B := w.heap.size + 1 + 1 + 1) (by omega) (.bool false) (.slice none 0 0)
 have Q := hide (And.intro q0 (And.intro q1 (And.intro r0 r1)))
 clear q0 q1 r0 r1 kD
 obtain ⟨b0, b1, -, -⟩ := bB
 obtain ⟨c0, c1, cf0, cf1⟩ := bC
 obtain ⟨d0, d1, df0, df1⟩ := bD
 go_wp2
 obtain ⟨q0, q1, r0, r1⟩ := Q.out
 exact bodyPost_ret (v := .tuple #[.agg #[.bool false, .slice none 0 0], .agg #[.bool false, .slice none 0 0], .bool false]) (by simp [results, Tryz.results76, go_sem, q0, q1, r0, r1]) rfl ⟨rfl, kB⟩

/-- quotient, rest and whether there is one -/
def qO : Option Int → Option Int → Int
 | some a, some b => a / b
 | _, _ => 0
def rO : Option Int → Option Int → Int
 | some a, some b => if b = 0 then 0 else a % b
 | _, _ => 0
def kO : Option Int → Option Int → Bool
 | some _, some b => decide (b ≠ 0)
 | _, _ => false
theorem some_b (a : Int) {b : Int} (h : b ≠ 0) : qO (some a) (some b) = a / b ∧ rO (some a) (some b) = a % b ∧ kO (some a) (some b) = true := ⟨rfl, if_neg h, decide_eq_true h⟩
theorem some_0 (a : Int) : qO (some a) (some 0) = 0 ∧ rO (some a) (some 0) = 0 ∧ kO (some a) (some 0) = false := ⟨Int.ediv_zero a, rfl, rfl⟩
theorem num_ne {w : World} {s : Bool} {a : Option Addr} {n : Nat} {z : Int} (h : IsN w s a n z) (hn : 0 < n) : z ≠ 0 := fun e => by
 have := h.dig.len
 rw [e] at this
 have h0 : dlen (0 : Int).natAbs = 0 := dlen_zero
 omega
theorem gcd_fit {wa wb : World} {sa sb : Bool} {aa ab : Option Addr} {na nb : Nat} {za zb : Int} (ha : IsN wa sa aa na za) (hb : IsN wb sb ab nb zb) (hna : na ≤ 64) (hnb : nb ≤ 64) : dlen ((Int.gcd za zb : Nat) : Int).natAbs ≤ 64 := by
 rw [Int.natAbs_natCast]
 unfold Int.gcd
 rcases Nat.eq_zero_or_pos za.natAbs with h | h
 · rw [h, Nat.gcd_zero_left, ← hb.dig.len]; exact hnb
 · exact Nat.le_trans (dlen_mono (Nat.le_of_dvd h (Nat.gcd_dvd_left _ _))) (by rw [← ha.dig.len]; exact hna)

theorem rdiv_arg (sa sb : Bool) (aa ab : Option Addr) (na nb ca cb : Nat) (oa ob : Option Int) (hca : na ≤ ca) (w : World) (ha : Arg w sa aa na oa) (hb : Arg w sb ab nb ob) :
 Calls Tryz.prog 76 #[.agg #[.bool sa, .slice aa na ca], .agg #[.bool sb, .slice ab nb cb]] w (DivOut w (qO oa ob) (rO oa ob) (kO oa ob)) := by
 cases oa with
 | none => exact (rdiv_no_a sa sb aa ab na nb ca cb w ha).mono fun e w' h => h.div
 | some za =>
   cases ob with
   | none => exact (rdiv_no_b sa sb aa ab na nb ca cb za w ha hb).mono fun e w' h => h.div
   | some zb =>
     rcases Nat.eq_zero_or_pos nb with h | h
     · subst h
       have hz : zb = 0 := num_zero hb.1
       subst hz
       obtain ⟨e1, e2, e3⟩ := some_0 za
       rw [e1, e2, e3]
       have hb0 := hb.1
       exact (rdiv_zero sa sb aa ab na ca cb za 0 w ha hb).mono fun e w' h => NoDiv.div h
     · obtain ⟨e1, e2, e3⟩ := some_b za (num_ne hb.1 h)
       rw [e1, e2, e3]
       exact (rdiv_num sa sb aa ab na nb ca cb za zb ha.2 hb.2 hca w ha.1 hb.1 h).mono fun e w' hp => hp.div (num_ne hb.1 h)
end Go.Proofs.YtikepnocefdmnaaGreatDoor
