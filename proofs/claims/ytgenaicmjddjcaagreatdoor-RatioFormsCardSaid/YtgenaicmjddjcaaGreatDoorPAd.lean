/- Several texts in one. -/
import Derived.Test.YtgenaicmjddjcaaGreatDoorPRf
import Derived.Test.YtgenaicmjddjcaaGreatDoorPNumC
/- num's Right, Add, Mul, Sub, Int and Cmp of any Nums. -/
namespace Go.Proofs.YtgenaicmjddjcaaGreatDoor
open Go.RowKit Go.Shelf

theorem right_arg (s : Bool) (a : Option Addr) (n c : Nat) (o : Option Int) (w : World) (h : Arg w s a n o) :
 Calls Tryz.prog 63 #[.agg #[.bool s, .slice a n c]] w fun e w' => e = .returned (.bool o.isSome) ∧ Below w.heap.size w w' := by
 cases o with
 | some z => exact right_yes s a n c z h.2 w h.1
 | none =>
   obtain ⟨f, h1, h2, h3⟩ := h
   refine (right_any s a n c f h2 w h1).mono ?_
   rintro e w' ⟨rfl, hb⟩
   exact ⟨by rw [h3]; rfl, hb⟩
theorem no_store {w w4 : World} {B : Nat} {u0 u1 : Value} (hb : Box2 w4 B u0 u1) (hB : w.heap.size ≤ B) (h4 : Below w.heap.size w w4) :
 Box2 ((w4.setCell ⟨B, 0, none⟩ (.bool false)).setCell ⟨B, 1, none⟩ (.slice none 0 0)) B (.bool false) (.slice none 0 0) ∧ Below w.heap.size w ((w4.setCell ⟨B, 0, none⟩ (.bool false)).setCell ⟨B, 1, none⟩ (.slice none 0 0)) :=
 ⟨hb.set _ _, below_set2 h4 hB _ _⟩

set_option maxRecDepth 100000 in
set_option maxHeartbeats 2000000 in
theorem add_no_a (sa sb : Bool) (aa ab : Option Addr) (na nb ca cb : Nat) (w : World) (ha : Arg w sa aa na none) :
 Calls Tryz.prog 102 #[.agg #[.bool sa, .slice aa na ca], .agg #[.bool sb, .slice ab nb cb]] w (NoPost w) := by
 go_enter Tryz.func102, Tryz.ntmps102
 go_wp2_with fail
 obtain ⟨W0, hW0⟩ : ∃ W0, ((w.alloc (Obj.cells #[.bool sa, .slice aa na ca] 25)).alloc (Obj.cells #[.bool sb, .slice ab nb cb] 25)).alloc (Obj.cells #[.bool false, .slice none 0 0] 25) = W0 := ⟨_, rfl⟩
 have bB : Box2 W0 (w.heap.size + 1) (.bool sb) (.slice ab nb cb) := by first | exact box3b hW0 | exact box2b hW0
 have bC : Box2 W0 (w.heap.size + 1 + 1) (.bool false) (.slice none 0 0) := box3c hW0
 have hsz : W0.heap.size = w.heap.size + 3 := by rw [← hW0]; simp
 have hB0 : Below w.heap.size w W0 := by rw [← hW0]; exact (((Below.refl _ w).alloc (Nat.le_refl _) _).alloc (by simp) _).alloc (by simp; omega) _
 rw [hW0]
 clear hW0
 refine (right_arg sa aa na ca none _ (ha.below hB0)).mono ?_
 rintro e w1 ⟨rfl, hb1⟩
 have hB1 : Below w.heap.size w w1 := hB0.trans (hb1.mono (by omega))
 have bC1 := bC.below hb1 (by omega)
 have K := hide (no_store bC1 (by omega) hB1)
 obtain ⟨r0, r1, z0, z1⟩ := bC1
 go_wp2
 obtain ⟨⟨q0, q1, -, -⟩, hBB⟩ := K.out
 exact bodyPost_ret (v := .tuple #[.agg #[.bool false, .slice none 0 0], .bool false]) (by simp [results, Tryz.results102, go_sem, q0, q1]) rfl ⟨rfl, hBB⟩

set_option maxRecDepth 100000 in
set_option maxHeartbeats 2000000 in
theorem add_no_b (sa sb : Bool) (aa ab : Option Addr) (na nb ca cb : Nat) (z : Int) (w : World) (ha : Arg w sa aa na (some z)) (hb : Arg w sb ab nb none) :
 Calls Tryz.prog 102 #[.agg #[.bool sa, .slice aa na ca], .agg #[.bool sb, .slice ab nb cb]] w (NoPost w) := by
 go_enter Tryz.func102, Tryz.ntmps102
 go_wp2_with fail
 obtain ⟨W0, hW0⟩ : ∃ W0, ((w.alloc (Obj.cells #[.bool sa, .slice aa na ca] 25)).alloc (Obj.cells #[.bool sb, .slice ab nb cb] 25)).alloc (Obj.cells #[.bool false, .slice none 0 0] 25) = W0 := ⟨_, rfl⟩
 have bB : Box2 W0 (w.heap.size + 1) (.bool sb) (.slice ab nb cb) := by first | exact box3b hW0 | exact box2b hW0
 have bC : Box2 W0 (w.heap.size + 1 + 1) (.bool false) (.slice none 0 0) := box3c hW0
 have hsz : W0.heap.size = w.heap.size + 3 := by rw [← hW0]; simp
 have hB0 : Below w.heap.size w W0 := by rw [← hW0]; exact (((Below.refl _ w).alloc (Nat.le_refl _) _).alloc (by simp) _).alloc (by simp; omega) _
 rw [hW0]
 clear hW0
 refine (right_arg sa aa na ca (some z) _ (ha.below hB0)).mono ?_
 rintro e w1 ⟨rfl, hb1⟩
 have hB1 : Below w.heap.size w w1 := hB0.trans (hb1.mono (by omega))
 have bB1 := bB.below hb1 (by omega)
 have bC1 := bC.below hb1 (by omega)
 obtain ⟨b0, b1, -, -⟩ := bB1
 go_wp2_with fail
 refine (right_arg sb ab nb cb none _ (hb.below hB1)).mono ?_
 rintro e w2 ⟨rfl, hb2⟩
 have hB2 : Below w.heap.size w w2 := hB1.trans (hb2.mono hB1.size)
 have bC2 := bC1.below hb2 (by have := hb1.size; omega)
 clear b0 b1
 have K := hide (no_store bC2 (by omega) hB2)
 obtain ⟨r0, r1, z0, z1⟩ := bC2
 go_wp2
 obtain ⟨⟨q0, q1, -, -⟩, hBB⟩ := K.out
 exact bodyPost_ret (v := .tuple #[.agg #[.bool false, .slice none 0 0], .bool false]) (by simp [results, Tryz.results102, go_sem, q0, q1]) rfl ⟨rfl, hBB⟩

set_option maxRecDepth 100000 in
set_option maxHeartbeats 2000000 in
theorem mul_no_a (sa sb : Bool) (aa ab : Option Addr) (na nb ca cb : Nat) (w : World) (ha : Arg w sa aa na none) :
 Calls Tryz.prog 52 #[.agg #[.bool sa, .slice aa na ca], .agg #[.bool sb, .slice ab nb cb]] w (NoPost w) := by
 go_enter Tryz.func52, Tryz.ntmps52
 go_wp2_with fail
 obtain ⟨W0, hW0⟩ : ∃ W0, ((w.alloc (Obj.cells #[.bool sa, .slice aa na ca] 25)).alloc (Obj.cells #[.bool sb, .slice ab nb cb] 25)).alloc (Obj.cells #[.bool false, .slice none 0 0] 25) = W0 := ⟨_, rfl⟩
 have bB : Box2 W0 (w.heap.size + 1) (.bool sb) (.slice ab nb cb) := by first | exact box3b hW0 | exact box2b hW0
 have bC : Box2 W0 (w.heap.size + 1 + 1) (.bool false) (.slice none 0 0) := box3c hW0
 have hsz : W0.heap.size = w.heap.size + 3 := by rw [← hW0]; simp
 have hB0 : Below w.heap.size w W0 := by rw [← hW0]; exact (((Below.refl _ w).alloc (Nat.le_refl _) _).alloc (by simp) _).alloc (by simp; omega) _
 rw [hW0]
 clear hW0
 refine (right_arg sa aa na ca none _ (ha.below hB0)).mono ?_
 rintro e w1 ⟨rfl, hb1⟩
 have hB1 : Below w.heap.size w w1 := hB0.trans (hb1.mono (by omega))
 have bC1 := bC.below hb1 (by omega)
 have K := hide (no_store bC1 (by omega) hB1)
 obtain ⟨r0, r1, z0, z1⟩ := bC1
 go_wp2
 obtain ⟨⟨q0, q1, -, -⟩, hBB⟩ := K.out
 exact bodyPost_ret (v := .tuple #[.agg #[.bool false, .slice none 0 0], .bool false]) (by simp [results, Tryz.results52, go_sem, q0, q1]) rfl ⟨rfl, hBB⟩

set_option maxRecDepth 100000 in
set_option maxHeartbeats 2000000 in
theorem mul_no_b (sa sb : Bool) (aa ab : Option Addr) (na nb ca cb : Nat) (z : Int) (w : World) (ha : Arg w sa aa na (some z)) (hb : Arg w sb ab nb none) :
 Calls Tryz.prog 52 #[.agg #[.bool sa, .slice aa na ca], .agg #[.bool sb, .slice ab nb cb]] w (NoPost w) := by
 go_enter Tryz.func52, Tryz.ntmps52
 go_wp2_with fail
 obtain ⟨W0, hW0⟩ : ∃ W0, ((w.alloc (Obj.cells #[.bool sa, .slice aa na ca] 25)).alloc (Obj.cells #[.bool sb, .slice ab nb cb] 25)).alloc (Obj.cells #[.bool false, .slice none 0 0] 25) = W0 := ⟨_, rfl⟩
 have bB : Box2 W0 (w.heap.size + 1) (.bool sb) (.slice ab nb cb) := by first | exact box3b hW0 | exact box2b hW0
 have bC : Box2 W0 (w.heap.size + 1 + 1) (.bool false) (.slice none 0 0) := box3c hW0
 have hsz : W0.heap.size = w.heap.size + 3 := by rw [← hW0]; simp
 have hB0 : Below w.heap.size w W0 := by rw [← hW0]; exact (((Below.refl _ w).alloc (Nat.le_refl _) _).alloc (by simp) _).alloc (by simp; omega) _
 rw [hW0]
 clear hW0
 refine (right_arg sa aa na ca (some z) _ (ha.below hB0)).mono ?_
 rintro e w1 ⟨rfl, hb1⟩
 have hB1 : Below w.heap.size w w1 := hB0.trans (hb1.mono (by omega))
 have bB1 := bB.below hb1 (by omega)
 have bC1 := bC.below hb1 (by omega)
 obtain ⟨b0, b1, -, -⟩ := bB1
 go_wp2_with fail
 refine (right_arg sb ab nb cb none _ (hb.below hB1)).mono ?_
 rintro e w2 ⟨rfl, hb2⟩
 have hB2 : Below w.heap.size w w2 := hB1.trans (hb2.mono hB1.size)
 have bC2 := bC1.below hb2 (by have := hb1.size; omega)
 clear b0 b1
 have K := hide (no_store bC2 (by omega) hB2)
 obtain ⟨r0, r1, z0, z1⟩ := bC2
 go_wp2
 obtain ⟨⟨q0, q1, -, -⟩, hBB⟩ := K.out
 exact bodyPost_ret (v := .tuple #[.agg #[.bool false, .slice none 0 0], .bool false]) (by simp [results, Tryz.results52, go_sem, q0, q1]) rfl ⟨rfl, hBB⟩

theorem number_over (neg : Bool) (a : Option Addr) (n cap v : Nat) (hcap : n ≤ cap) (hfit : 64 < n) (hn : n ≤ 1099511627776) (w : World) (hd : IsD w a n v) :
 Calls Tryz.prog 73 #[.bool neg, .slice a n cap] w fun e w' => e = .returned (.tuple #[.agg #[.bool false, .slice none 0 0], .bool false]) ∧ Below w.heap.size w w' := by
 have hv : valF (dgt v) n = v := by rw [hd.len, valF_dlen]
 exact number_unfit neg a n cap (dgt v) hn hcap (fun _ _ => dgt_lt _ _) w hd.dig (by rw [hv, ← hd.len]; exact hfit)
theorem len_sum {x y na nb : Nat} (ha : na = dlen x) (hb : nb = dlen y) (hna : na ≤ 64) (hnb : nb ≤ 64) : dlen (x + y) ≤ 1099511627776 := by
 refine Nat.le_trans ((dlen_le_iff (k := 65)).2 ?_) (by decide)
 have h1 : x < bp 64 := dlen_le_iff.1 (by omega)
 have h2 : y < bp 64 := dlen_le_iff.1 (by omega)
 rw [bp_succ]; omega
theorem len_mul {x y na nb : Nat} (ha : na = dlen x) (hb : nb = dlen y) (hna : na ≤ 64) (hnb : nb ≤ 64) : dlen (x * y) ≤ 1099511627776 := by
 refine Nat.le_trans ((dlen_le_iff (k := 64 + 64)).2 ?_) (by decide)
 have h1 : x < bp 64 := dlen_le_iff.1 (by omega)
 have h2 : y < bp 64 := dlen_le_iff.1 (by omega)
 rw [bp_add]
 exact Nat.lt_of_le_of_lt (Nat.mul_le_mul_left _ (Nat.le_of_lt h2)) ((Nat.mul_lt_mul_right (bp_pos _)).2 h1)

set_option maxRecDepth 100000 in
set_option maxHeartbeats 2000000 in
theorem add_over (s : Bool) (aa ab : Option Addr) (na nb ca cb : Nat) (za zb : Int) (hna : na ≤ 64) (hnb : nb ≤ 64) (w : World) (ha : IsN w s aa na za) (hb : IsN w s ab nb zb) (hfit : ¬ dlen (za + zb).natAbs ≤ 64) :
 Calls Tryz.prog 102 #[.agg #[.bool s, .slice aa na ca], .agg #[.bool s, .slice ab nb cb]] w (NoPost w) := by
 have hz : signed s (za.natAbs + zb.natAbs) = za + zb ∧ (za + zb).natAbs = za.natAbs + zb.natAbs := by
  have h1 := ha.sign
  have h2 := hb.sign
  unfold signed
  cases s
  · have : ¬ za < 0 := by intro h; simp [h] at h1
    have : ¬ zb < 0 := by intro h; simp [h] at h2
    simp; omega
  · have : za < 0 := by simpa using h1.symm
    have : zb < 0 := by simpa using h2.symm
    simp; omega
 have HZ := hide hz
 clear hz
 have HL := hide (len_sum ha.dig.len hb.dig.len hna hnb)
 go_enter Tryz.func102, Tryz.ntmps102
 go_wp2_with fail
 obtain ⟨W0, hW0⟩ : ∃ W0, ((w.alloc (Obj.cells #[.bool s, .slice aa na ca] 25)).alloc (Obj.cells #[.bool s, .slice ab nb cb] 25)).alloc (Obj.cells #[.bool false, .slice none 0 0] 25) = W0 := ⟨_, rfl⟩
 have bA : Box2 W0 w.heap.size (.bool s) (.slice aa na ca) := by rw [← hW0]; exact ((Box2.new w _ _ _).alloc _).alloc _
 have bB : Box2 W0 (w.heap.size + 1) (.bool s) (.slice ab nb cb) := by first | exact box3b hW0 | exact box2b hW0
 have bC : Box2 W0 (w.heap.size + 1 + 1) (.bool false) (.slice none 0 0) := box3c hW0
 have hsz : W0.heap.size = w.heap.size + 3 := by rw [← hW0]; simp
 have hB0 : Below w.heap.size w W0 := by rw [← hW0]; exact (((Below.refl _ w).alloc (Nat.le_refl _) _).alloc (by simp) _).alloc (by simp; omega) _
 rw [hW0]
 clear hW0
 refine (right_yes s aa na ca za hna _ (ha.below hB0)).mono ?_
 rintro e w1 ⟨rfl, hb1⟩
 have hB1 : Below w.heap.size w w1 := hB0.trans (hb1.mono (by omega))
 have bA1 := bA.below hb1 (by omega)
 have bB1 := bB.below hb1 (by omega)
 have bC1 := bC.below hb1 (by omega)
 obtain ⟨b0, b1, -, -⟩ := bB1
 go_wp2_with fail
 refine (right_yes s ab nb cb zb hnb _ (hb.below hB1)).mono ?_
 rintro e w2 ⟨rfl, hb2⟩
 have hB2 : Below w.heap.size w w2 := hB1.trans (hb2.mono hB1.size)
 have bA2 := bA1.below hb2 (by have := hb1.size; omega)
 have bB2 := bB.below (hb1.trans (hb2.mono hb1.size)) (by omega)
 have bC2 := bC1.below hb2 (by have := hb1.size; omega)
 clear b0 b1
 have bC2k := bC2
 have bA2k := bA2
 have bB2k := bB2
 obtain ⟨a0, a1, -, -⟩ := bA2
 obtain ⟨b0, b1, -, -⟩ := bB2
 obtain ⟨r0, r1, z0, z1⟩ := bC2
 go_wp2_with fail
 have hA2 : IsD w2.drew aa na za.natAbs := (ha.dig.below hB2).below (Below.drew (Below.refl _ _))
 have hB2' : IsD w2.drew ab nb zb.natAbs := (hb.dig.below hB2).below (Below.drew (Below.refl _ _))
 have hlt2 : w.heap.size + 1 + 1 < w2.heap.size := lt_of_cell r0
 go_region_held3 (fun w' => w'.cell? ⟨w.heap.size, 0, none⟩ = some (.bool s) ∧ w'.cell? ⟨w.heap.size, 1, none⟩ = some (.slice aa na ca) ∧ w'.cell? ⟨w.heap.size + 1, 1, none⟩ = some (.slice ab nb cb))
  (first | exact ⟨a0, a1, b1⟩ | exact ⟨a0', a1', b1'⟩ | exact ⟨a0'', a1'', b1''⟩ | (refine ⟨?_, ?_, ?_⟩ <;> (rw [World.cell?_setCell_far _ _ _ _ (by first | omega | (simp; done) | (simp; omega)), World.cell?_setCell_far _ _ _ _ (by first | omega | (simp; done) | (simp; omega))]; assumption)) | go_keep)
  (first
    | (go_at_call 105; refine (plus_any aa ab _ _ na nb ca cb (by omega) (by omega) _ hA2 hB2').mono ?_; rintro e w3 ⟨a3, n3, cap3, rfl, hd3, hcap3, hfr3, hb3⟩; have a0' := (hb3.cell (p := ⟨w.heap.size, 0, none⟩) (by simp; omega)).trans a0; have a1' := (hb3.cell (p := ⟨w.heap.size, 1, none⟩) (by simp; omega)).trans a1; have b1' := (hb3.cell (p := ⟨w.heap.size + 1, 1, none⟩) (by simp; omega)).trans b1; have bC3 := (bC2k.below (Below.drew (Below.refl _ _)) bC2k.lt : Box2 w2.drew _ _ _).below hb3 bC2k.lt)
    | (go_at_call 73; refine (number_over s a3 n3 cap3 _ hcap3 (by rw [hd3.len, ← HZ.out.2]; omega) (by rw [hd3.len]; exact HL.out) _ hd3).mono ?_; rintro e w4 ⟨rfl, hb4⟩; have a0'' := (hb4.cell (p := ⟨w.heap.size, 0, none⟩) (lt_of_cell a0')).trans a0'; have a1'' := (hb4.cell (p := ⟨w.heap.size, 1, none⟩) (lt_of_cell a1')).trans a1'; have b1'' := (hb4.cell (p := ⟨w.heap.size + 1, 1, none⟩) (lt_of_cell b1')).trans b1'; obtain ⟨r0'', r1'', z0'', z1''⟩ := bC3.below hb4 bC3.lt))
 have hBw4 : Below w.heap.size w w4 := (hB2.drew.trans (hb3.mono hB2.size)).trans (hb4.mono (Nat.le_trans hB2.size hb3.size))
 obtain ⟨hbx, hBB⟩ := no_store (bC3.below hb4 bC3.lt) (by omega) hBw4
 obtain ⟨q0, q1, -, -⟩ := hbx
 clear a0 a1 b0 b1 a0' a1' b1' a0'' a1'' b1'' r0 r1 z0 z1 r0'' r1'' z0'' z1''
 go_wp2
 exact bodyPost_ret (v := .tuple #[.agg #[.bool false, .slice none 0 0], .bool false]) (by simp [results, Tryz.results102, go_sem, q0, q1]) rfl ⟨rfl, hBB⟩

set_option maxRecDepth 100000 in
set_option maxHeartbeats 2000000 in
theorem mul_over (sa sb : Bool) (aa ab : Option Addr) (na nb ca cb : Nat) (za zb : Int) (hna : na ≤ 64) (hnb : nb ≤ 64) (w : World) (ha : IsN w sa aa na za) (hb : IsN w sb ab nb zb) (hfit : ¬ dlen (za * zb).natAbs ≤ 64) :
 Calls Tryz.prog 52 #[.agg #[.bool sa, .slice aa na ca], .agg #[.bool sb, .slice ab nb cb]] w (NoPost w) := by
 have hz : signed (sa != sb) (za.natAbs * zb.natAbs) = za * zb ∧ (za * zb).natAbs = za.natAbs * zb.natAbs := by
  refine ⟨?_, Int.natAbs_mul za zb⟩
  have h1 := ha.sign
  have h2 := hb.sign
  have e1 : za = signed sa za.natAbs := by unfold signed; rw [h1]; by_cases h : za < 0 <;> simp [h] <;> omega
  have e2 : zb = signed sb zb.natAbs := by unfold signed; rw [h2]; by_cases h : zb < 0 <;> simp [h] <;> omega
  generalize za.natAbs = x at e1 ⊢
  generalize zb.natAbs = y at e2 ⊢
  rw [e1, e2]
  unfold signed
  cases sa <;> cases sb <;> simp [Int.mul_neg, Int.neg_mul]
 have HZ := hide hz
 clear hz
 have HL := hide (len_mul ha.dig.len hb.dig.len hna hnb)
 go_enter Tryz.func52, Tryz.ntmps52
 go_wp2_with fail
 obtain ⟨W0, hW0⟩ : ∃ W0, ((w.alloc (Obj.cells #[.bool sa, .slice aa na ca] 25)).alloc (Obj.cells #[.bool sb, .slice ab nb cb] 25)).alloc (Obj.cells #[.bool false, .slice none 0 0] 25) = W0 := ⟨_, rfl⟩
 have bA : Box2 W0 w.heap.size (.bool sa) (.slice aa na ca) := by rw [← hW0]; exact ((Box2.new w _ _ _).alloc _).alloc _
 have bB : Box2 W0 (w.heap.size + 1) (.bool sb) (.slice ab nb cb) := by first | exact box3b hW0 | exact box2b hW0
 have bC : Box2 W0 (w.heap.size + 1 + 1) (.bool false) (.slice none 0 0) := box3c hW0
 have hsz : W0.heap.size = w.heap.size + 3 := by rw [← hW0]; simp
 have hB0 : Below w.heap.size w W0 := by rw [← hW0]; exact (((Below.refl _ w).alloc (Nat.le_refl _) _).alloc (by simp) _).alloc (by simp; omega) _
 rw [hW0]
 clear hW0
 refine (right_yes sa aa na ca za hna _ (ha.below hB0)).mono ?_
 rintro e w1 ⟨rfl, hb1⟩
 have hB1 : Below w.heap.size w w1 := hB0.trans (hb1.mono (by omega))
 have bA1 := bA.below hb1 (by omega)
 have bB1 := bB.below hb1 (by omega)
 have bC1 := bC.below hb1 (by omega)
 obtain ⟨b0, b1, -, -⟩ := bB1
 go_wp2_with fail
 refine (right_yes sb ab nb cb zb hnb _ (hb.below hB1)).mono ?_
 rintro e w2 ⟨rfl, hb2⟩
 have hB2 : Below w.heap.size w w2 := hB1.trans (hb2.mono hB1.size)
 have bA2 := bA1.below hb2 (by have := hb1.size; omega)
 have bB2 := bB.below (hb1.trans (hb2.mono hb1.size)) (by omega)
 have bC2 := bC1.below hb2 (by have := hb1.size; omega)
 clear b0 b1
 have bC2k := bC2
 have bA2k := bA2
 have bB2k := bB2
 obtain ⟨a0, a1, -, -⟩ := bA2
 obtain ⟨b0, b1, -, -⟩ := bB2
 obtain ⟨r0, r1, z0, z1⟩ := bC2
 go_wp2_with fail
 have hA2 : IsD w2.drew aa na za.natAbs := (ha.dig.below hB2).below (Below.drew (Below.refl _ _))
 have hB2' : IsD w2.drew ab nb zb.natAbs := (hb.dig.below hB2).below (Below.drew (Below.refl _ _))
 have hlt2 : w.heap.size + 1 + 1 < w2.heap.size := lt_of_cell r0
 go_region_held3 (fun w' => w'.cell? ⟨w.heap.size, 0, none⟩ = some (.bool sa) ∧ w'.cell? ⟨w.heap.size, 1, none⟩ = some (.slice aa na ca) ∧ w'.cell? ⟨w.heap.size + 1, 0, none⟩ = some (.bool sb) ∧ w'.cell? ⟨w.heap.size + 1, 1, none⟩ = some (.slice ab nb cb))
  (first | exact ⟨a0, a1, b0, b1⟩ | exact ⟨a0', a1', b0', b1'⟩ | exact ⟨a0'', a1'', b0'', b1''⟩ | (refine ⟨?_, ?_, ?_, ?_⟩ <;> (rw [World.cell?_setCell_far _ _ _ _ (by first | omega | (simp; done) | (simp; omega)), World.cell?_setCell_far _ _ _ _ (by first | omega | (simp; done) | (simp; omega))]; assumption)) | go_keep)
  (first
    | (go_at_call 101; refine (times_any aa ab _ _ na nb ca cb (by omega) (by omega) _ hA2 hB2').mono ?_; rintro e w3 ⟨a3, n3, cap3, rfl, hd3, hcap3, hfr3, hb3⟩; have a0' := (hb3.cell (p := ⟨w.heap.size, 0, none⟩) (by simp; omega)).trans a0; have a1' := (hb3.cell (p := ⟨w.heap.size, 1, none⟩) (by simp; omega)).trans a1; have b1' := (hb3.cell (p := ⟨w.heap.size + 1, 1, none⟩) (by simp; omega)).trans b1; have b0' := (hb3.cell (p := ⟨w.heap.size + 1, 0, none⟩) (by simp; omega)).trans b0; have bC3 := (bC2k.below (Below.drew (Below.refl _ _)) bC2k.lt : Box2 w2.drew _ _ _).below hb3 bC2k.lt)
    | (go_at_call 73; refine (number_over (sa != sb) a3 n3 cap3 _ hcap3 (by rw [hd3.len, ← HZ.out.2]; omega) (by rw [hd3.len]; exact HL.out) _ hd3).mono ?_; rintro e w4 ⟨rfl, hb4⟩; have a0'' := (hb4.cell (p := ⟨w.heap.size, 0, none⟩) (lt_of_cell a0')).trans a0'; have a1'' := (hb4.cell (p := ⟨w.heap.size, 1, none⟩) (lt_of_cell a1')).trans a1'; have b1'' := (hb4.cell (p := ⟨w.heap.size + 1, 1, none⟩) (lt_of_cell b1')).trans b1'; have b0'' := (hb4.cell (p := ⟨w.heap.size + 1, 0, none⟩) (lt_of_cell b0')).trans b0'; obtain ⟨r0'', r1'', z0'', z1''⟩ := bC3.below hb4 bC3.lt))
 have hBw4 : Below w.heap.size w w4 := (hB2.drew.trans (hb3.mono hB2.size)).trans (hb4.mono (Nat.le_trans hB2.size hb3.size))
 obtain ⟨hbx, hBB⟩ := no_store (bC3.below hb4 bC3.lt) (by omega) hBw4
 obtain ⟨q0, q1, -, -⟩ := hbx
 clear a0 a1 b0 b1 a0' a1' b0' b1' a0'' a1'' b0'' b1'' r0 r1 z0 z1 r0'' r1'' z0'' z1''
 go_wp2
 exact bodyPost_ret (v := .tuple #[.agg #[.bool false, .slice none 0 0], .bool false]) (by simp [results, Tryz.results52, go_sem, q0, q1]) rfl ⟨rfl, hBB⟩


theorem diff_fits {sa sb : Bool} {za zb : Int} (hs : sa ≠ sb) (h1 : sa = decide (za < 0)) (h2 : sb = decide (zb < 0)) (ha : dlen za.natAbs ≤ 64) (hb : dlen zb.natAbs ≤ 64) : dlen (za + zb).natAbs ≤ 64 := by
 rw [dlen_le_iff] at *
 have : (za < 0 ∧ ¬ zb < 0) ∨ (¬ za < 0 ∧ zb < 0) := by
  by_cases x : za < 0 <;> by_cases y : zb < 0 <;> simp_all
 omega
theorem add_arg (sa sb : Bool) (aa ab : Option Addr) (na nb ca cb : Nat) (x y : Option Int) (w : World) (ha : Arg w sa aa na x) (hb : Arg w sb ab nb y) :
 Calls Tryz.prog 102 #[.agg #[.bool sa, .slice aa na ca], .agg #[.bool sb, .slice ab nb cb]] w (OptPost w (addO x y)) := by
 cases x with
 | none => exact (add_no_a sa sb aa ab na nb ca cb w ha).mono fun e w' h => h.opt rfl
 | some z =>
   cases y with
   | none => exact (add_no_b sa sb aa ab na nb ca cb z w ha hb).mono fun e w' h => h.opt rfl
   | some v =>
     show Calls _ _ _ _ (OptPost w (fitO (z + v)))
     by_cases hf : dlen (z + v).natAbs ≤ 64
     · rw [fitO_some hf]
       exact (add_any sa sb aa ab na nb ca cb z v ha.2 hb.2 w ha.1 hb.1 hf).mono fun e w' h => h.opt hf
     · rw [fitO_none hf]
       have hs : sa = sb := Classical.byContradiction fun hs => hf (diff_fits hs ha.1.sign hb.1.sign (by rw [← ha.1.dig.len]; exact ha.2) (by rw [← hb.1.dig.len]; exact hb.2))
       subst hs
       exact (add_over sa aa ab na nb ca cb z v ha.2 hb.2 w ha.1 hb.1 hf).mono fun e w' h => h.opt rfl
theorem mul_arg (sa sb : Bool) (aa ab : Option Addr) (na nb ca cb : Nat) (x y : Option Int) (w : World) (ha : Arg w sa aa na x) (hb : Arg w sb ab nb y) :
 Calls Tryz.prog 52 #[.agg #[.bool sa, .slice aa na ca], .agg #[.bool sb, .slice ab nb cb]] w (OptPost w (mulO x y)) := by
 cases x with
 | none => exact (mul_no_a sa sb aa ab na nb ca cb w ha).mono fun e w' h => h.opt rfl
 | some z =>
   cases y with
   | none => exact (mul_no_b sa sb aa ab na nb ca cb z w ha hb).mono fun e w' h => h.opt rfl
   | some v =>
     show Calls _ _ _ _ (OptPost w (fitO (z * v)))
     by_cases hf : dlen (z * v).natAbs ≤ 64
     · rw [fitO_some hf]
       exact (mul_any sa sb aa ab na nb ca cb z v ha.2 hb.2 w ha.1 hb.1 hf).mono fun e w' h => h.opt hf
     · rw [fitO_none hf]
       exact (mul_over sa sb aa ab na nb ca cb z v ha.2 hb.2 w ha.1 hb.1 hf).mono fun e w' h => h.opt rfl
end Go.Proofs.YtgenaicmjddjcaaGreatDoor

/- num's Sub, Int and Cmp of any Nums. -/
namespace Go.Proofs.YtgenaicmjddjcaaGreatDoor
open Go.RowKit Go.Shelf

theorem subO_eq (x : Option Int) (v : Int) : subO x (some v) = addO x (some (-v)) := by
 cases x with
 | none => rfl
 | some z => show fitO _ = fitO _; rw [Int.sub_eq_add_neg]

def IntPost (w : World) (o : Option Int) (e : Ending) (w' : World) : Prop := e = .returned (.tuple #[.int .i64 (o.getD 0), .bool o.isSome]) ∧ Below w.heap.size w w'

set_option maxRecDepth 100000 in
set_option maxHeartbeats 2000000 in
theorem int_no (s : Bool) (a : Option Addr) (n c : Nat) (w : World) (ha : Arg w s a n none) :
 Calls Tryz.prog 59 #[.agg #[.bool s, .slice a n c]] w (IntPost w none) := by
 have HB0 := hide (below_alloc' w (Obj.cells #[.bool s, .slice a n c] 25))
 go_enter Tryz.func59, Tryz.ntmps59
 go_wp2_with fail
 refine (right_arg s a n c none _ (ha.below HB0.out)).mono ?_
 rintro e w1 ⟨rfl, hb⟩
 have hB1 := HB0.out.trans (hb.mono HB0.out.size)
 go_wp2
 go_ret2
 exact ⟨rfl, hB1⟩
theorem int_arg (s : Bool) (a : Option Addr) (n c : Nat) (x : Option Int) (w : World) (ha : Arg w s a n x) :
 Calls Tryz.prog 59 #[.agg #[.bool s, .slice a n c]] w (IntPost w (intO x)) := by
 cases x with
 | none => exact int_no s a n c w ha
 | some z =>
   by_cases hz : -9223372036854775808 ≤ z ∧ z ≤ 9223372036854775807
   · rw [show intO (some z) = some z from if_pos hz]; exact int_fit s a n c z hz.1 hz.2 w ha.1
   · rw [show intO (some z) = none from if_neg hz]; exact int_unfit s a n c z ha.2 (by omega) w ha.1

end Go.Proofs.YtgenaicmjddjcaaGreatDoor

