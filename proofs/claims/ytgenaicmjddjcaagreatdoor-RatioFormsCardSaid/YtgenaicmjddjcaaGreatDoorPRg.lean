/- Several texts in one. -/
import Derived.Test.YtgenaicmjddjcaaGreatDoorPRf
import Derived.Test.YtgenaicmjddjcaaGreatDoorPAd
import Derived.Test.YtgenaicmjddjcaaGreatDoorRdE
/- The reference's signed, whether it fits or not; its Add and Mul of any Nums. -/
namespace Go.Proofs.YtgenaicmjddjcaaGreatDoor
open Go.RowKit Go.Shelf

set_option maxRecDepth 100000 in
set_option maxHeartbeats 2000000 in
theorem rsigned_no (neg : Bool) (a : Option Addr) (L cap : Nat) (f : Nat → Nat) (hL : L ≤ 1099511627776) (hcap : L ≤ cap) (hf : ∀ j, j < L → f j < 4294967296) (w : World) (hd : Dig w a L f) (hun : ¬ dlen (valF f L) ≤ 64) :
 Calls Tryz.prog 60 #[.bool neg, .slice a L cap] w (NoPost w) := by
 have HF := hide hf
 have bC : Box2 (w.alloc (Obj.cells #[.bool false, .slice none 0 0] 25)) w.heap.size (.bool false) (.slice none 0 0) := Box2.new _ _ _ _
 have hB0 : Below w.heap.size w (w.alloc (Obj.cells #[.bool false, .slice none 0 0] 25)) := (Below.refl _ w).alloc (Nat.le_refl _) _
 clear hf
 go_enter Tryz.func60, Tryz.ntmps60
 go_wp2_with fail
 obtain ⟨W0, hW0⟩ : ∃ W0, w.alloc (Obj.cells #[.bool false, .slice none 0 0] 25) = W0 := ⟨_, rfl⟩
 rw [hW0] at bC hB0 ⊢
 clear hW0
 refine (rtrim_any a L cap f hL hcap HF.out W0 (hd.below hB0)).mono ?_
 rintro e w1 ⟨a1, c1, rfl, ha1, hc1, rfl⟩
 obtain ⟨n, hn⟩ : ∃ n, dlen (valF f L) = n := ⟨_, rfl⟩
 rw [hn] at ha1 hc1 hun ⊢
 clear hn ha1
 have hun' : (64 : Int) < n := by omega
 have K := hide (no_store bC (by omega) hB0)
 obtain ⟨r0, r1, z0, z1⟩ := bC
 go_wp2
 obtain ⟨⟨q0, q1, -, -⟩, hBB⟩ := K.out
 exact bodyPost_ret (v := .tuple #[.agg #[.bool false, .slice none 0 0], .bool false]) (by simp [results, Tryz.results60, go_sem, q0, q1]) rfl ⟨rfl, hBB⟩
def OptPostC (w : World) (o : Option Int) (e : Ending) (w' : World) : Prop :=
 ∃ (s : Bool) (a : Option Addr) (n c : Nat), e = .returned (.tuple #[.agg #[.bool s, .slice a n c], .bool o.isSome]) ∧ IsN w' s a n (o.getD 0) ∧ n ≤ 64 ∧ (n = 0 ∨ Fresh w a) ∧ Below w.heap.size w w' ∧ n ≤ c
theorem OptPostC.opt {w w' : World} {e : Ending} {o : Option Int} (h : OptPostC w o e w') : OptPost w o e w' := by
 obtain ⟨s, a, n, c, h1, h2, h3, h4, h5, -⟩ := h
 exact ⟨s, a, n, c, h1, h2, h3, h4, h5⟩
theorem NoPost.optC {w w' : World} {e : Ending} {o : Option Int} (h : NoPost w e w') (ho : o = none) : OptPostC w o e w' := by
 subst ho
 exact ⟨false, none, 0, 0, h.1, zero_num _, by omega, .inl rfl, h.2, Nat.le_refl _⟩
theorem CapPost.optC {w w' : World} {e : Ending} {z : Int} (h : CapPost w z e w') (hz : dlen z.natAbs ≤ 64) : OptPostC w (some z) e w' := by
 obtain ⟨s, a, n, c, rfl, hN, hf, hb, hc⟩ := h
 exact ⟨s, a, n, c, rfl, hN, by rw [hN.dig.len]; exact hz, hf, hb, hc⟩
theorem OptPostC.cap {w w' : World} {e : Ending} {z : Int} (h : OptPostC w (some z) e w') : CapPost w z e w' := by
 obtain ⟨s, a, n, c, h1, h2, -, h4, h5, h6⟩ := h
 exact ⟨s, a, n, c, h1, h2, h4, h5, h6⟩
theorem rsigned_optC (neg : Bool) (a : Option Addr) (L cap : Nat) (f : Nat → Nat) (hL : L ≤ 1099511627776) (hcap : L ≤ cap) (hf : ∀ j, j < L → f j < 4294967296) (w : World) (hd : Dig w a L f) :
 Calls Tryz.prog 60 #[.bool neg, .slice a L cap] w (OptPostC w (fitO (signed neg (valF f L)))) := by
 by_cases h : dlen (valF f L) ≤ 64
 · have h' : dlen (signed neg (valF f L)).natAbs ≤ 64 := by rw [signed_abs]; exact h
   rw [fitO_some h']
   exact (rsigned_cap neg a L cap f hL hcap hf w hd h).mono fun e w' hp => hp.optC h'
 · rw [fitO_none (by rw [signed_abs]; exact h)]
   exact (rsigned_no neg a L cap f hL hcap hf w hd h).mono fun e w' hp => hp.optC rfl
theorem rsigned_numC (neg : Bool) (a : Option Addr) (n cap v : Nat) (hcap : n ≤ cap) (hn : n ≤ 1099511627776) (w : World) (hd : IsD w a n v) {O : Option Int} (HO : Hid (fitO (signed neg v) = O)) :
 Calls Tryz.prog 60 #[.bool neg, .slice a n cap] w (OptPostC w O) := by
 have := rsigned_optC neg a n cap (dgt v) hn hcap (fun _ _ => dgt_lt _ _) w hd.dig
 rw [hd.len, valF_dlen, ← hd.len, HO.out] at this
 exact this
theorem len_le_of {x y na nb m : Nat} (ha : na = dlen x) (hb : nb = dlen y) (hna : na ≤ 64) (hnb : nb ≤ 64) (h : m = dlen (x + y) ∨ m = dlen (x * y) ∨ m = dlen (x - y) ∨ m = dlen (y - x)) : m ≤ 1099511627776 := by
 rcases h with rfl | rfl | rfl | rfl
 · exact len_sum ha hb hna hnb
 · exact len_mul ha hb hna hnb
 · have := dlen_mono (Nat.sub_le x y); omega
 · have := dlen_mono (Nat.sub_le y x); omega

set_option maxRecDepth 100000 in
set_option maxHeartbeats 2000000 in
theorem radd_no_a (sa sb : Bool) (aa ab : Option Addr) (na nb ca cb : Nat) (w : World) (ha : Arg w sa aa na none) :
 Calls Tryz.prog 96 #[.agg #[.bool sa, .slice aa na ca], .agg #[.bool sb, .slice ab nb cb]] w (NoPost w) := by
 go_enter Tryz.func96, Tryz.ntmps96
 go_wp2_with fail
 obtain ⟨W0, hW0⟩ : ∃ W0, ((w.alloc (Obj.cells #[.bool sa, .slice aa na ca] 25)).alloc (Obj.cells #[.bool sb, .slice ab nb cb] 25)).alloc (Obj.cells #[.bool false, .slice none 0 0] 25) = W0 := ⟨_, rfl⟩
 have bB : Box2 W0 (w.heap.size + 1) (.bool sb) (.slice ab nb cb) := by first | exact box3b hW0 | exact box2b hW0
 have bC : Box2 W0 (w.heap.size + 1 + 1) (.bool false) (.slice none 0 0) := box3c hW0
 have hsz : W0.heap.size = w.heap.size + 3 := by rw [← hW0]; simp
 have hB0 : Below w.heap.size w W0 := by rw [← hW0]; exact (((Below.refl _ w).alloc (Nat.le_refl _) _).alloc (by simp) _).alloc (by simp; omega) _
 rw [hW0]
 clear hW0
 refine (rright_arg sa aa na ca none _ (ha.below hB0)).mono ?_
 rintro e w1 ⟨rfl, hb1⟩
 have hB1 : Below w.heap.size w w1 := hB0.trans (hb1.mono (by omega))
 have bC1 := bC.below hb1 (by omega)
 have K := hide (no_store bC1 (by omega) hB1)
 obtain ⟨r0, r1, z0, z1⟩ := bC1
 go_wp2
 obtain ⟨⟨q0, q1, -, -⟩, hBB⟩ := K.out
 exact bodyPost_ret (v := .tuple #[.agg #[.bool false, .slice none 0 0], .bool false]) (by simp [results, Tryz.results96, go_sem, q0, q1]) rfl ⟨rfl, hBB⟩

set_option maxRecDepth 100000 in
set_option maxHeartbeats 2000000 in
theorem radd_no_b (sa sb : Bool) (aa ab : Option Addr) (na nb ca cb : Nat) (z : Int) (w : World) (ha : Arg w sa aa na (some z)) (hb : Arg w sb ab nb none) :
 Calls Tryz.prog 96 #[.agg #[.bool sa, .slice aa na ca], .agg #[.bool sb, .slice ab nb cb]] w (NoPost w) := by
 go_enter Tryz.func96, Tryz.ntmps96
 go_wp2_with fail
 obtain ⟨W0, hW0⟩ : ∃ W0, ((w.alloc (Obj.cells #[.bool sa, .slice aa na ca] 25)).alloc (Obj.cells #[.bool sb, .slice ab nb cb] 25)).alloc (Obj.cells #[.bool false, .slice none 0 0] 25) = W0 := ⟨_, rfl⟩
 have bB : Box2 W0 (w.heap.size + 1) (.bool sb) (.slice ab nb cb) := by first | exact box3b hW0 | exact box2b hW0
 have bC : Box2 W0 (w.heap.size + 1 + 1) (.bool false) (.slice none 0 0) := box3c hW0
 have hsz : W0.heap.size = w.heap.size + 3 := by rw [← hW0]; simp
 have hB0 : Below w.heap.size w W0 := by rw [← hW0]; exact (((Below.refl _ w).alloc (Nat.le_refl _) _).alloc (by simp) _).alloc (by simp; omega) _
 rw [hW0]
 clear hW0
 refine (rright_arg sa aa na ca (some z) _ (ha.below hB0)).mono ?_
 rintro e w1 ⟨rfl, hb1⟩
 have hB1 : Below w.heap.size w w1 := hB0.trans (hb1.mono (by omega))
 have bB1 := bB.below hb1 (by omega)
 have bC1 := bC.below hb1 (by omega)
 obtain ⟨b0, b1, -, -⟩ := bB1
 go_wp2_with fail
 refine (rright_arg sb ab nb cb none _ (hb.below hB1)).mono ?_
 rintro e w2 ⟨rfl, hb2⟩
 have hB2 : Below w.heap.size w w2 := hB1.trans (hb2.mono hB1.size)
 have bC2 := bC1.below hb2 (by have := hb1.size; omega)
 clear b0 b1
 have K := hide (no_store bC2 (by omega) hB2)
 obtain ⟨r0, r1, z0, z1⟩ := bC2
 go_wp2
 obtain ⟨⟨q0, q1, -, -⟩, hBB⟩ := K.out
 exact bodyPost_ret (v := .tuple #[.agg #[.bool false, .slice none 0 0], .bool false]) (by simp [results, Tryz.results96, go_sem, q0, q1]) rfl ⟨rfl, hBB⟩

set_option maxRecDepth 100000 in
set_option maxHeartbeats 2000000 in
theorem rmul_no_a (sa sb : Bool) (aa ab : Option Addr) (na nb ca cb : Nat) (w : World) (ha : Arg w sa aa na none) :
 Calls Tryz.prog 95 #[.agg #[.bool sa, .slice aa na ca], .agg #[.bool sb, .slice ab nb cb]] w (NoPost w) := by
 go_enter Tryz.func95, Tryz.ntmps95
 go_wp2_with fail
 obtain ⟨W0, hW0⟩ : ∃ W0, ((w.alloc (Obj.cells #[.bool sa, .slice aa na ca] 25)).alloc (Obj.cells #[.bool sb, .slice ab nb cb] 25)).alloc (Obj.cells #[.bool false, .slice none 0 0] 25) = W0 := ⟨_, rfl⟩
 have bB : Box2 W0 (w.heap.size + 1) (.bool sb) (.slice ab nb cb) := by first | exact box3b hW0 | exact box2b hW0
 have bC : Box2 W0 (w.heap.size + 1 + 1) (.bool false) (.slice none 0 0) := box3c hW0
 have hsz : W0.heap.size = w.heap.size + 3 := by rw [← hW0]; simp
 have hB0 : Below w.heap.size w W0 := by rw [← hW0]; exact (((Below.refl _ w).alloc (Nat.le_refl _) _).alloc (by simp) _).alloc (by simp; omega) _
 rw [hW0]
 clear hW0
 refine (rright_arg sa aa na ca none _ (ha.below hB0)).mono ?_
 rintro e w1 ⟨rfl, hb1⟩
 have hB1 : Below w.heap.size w w1 := hB0.trans (hb1.mono (by omega))
 have bC1 := bC.below hb1 (by omega)
 have K := hide (no_store bC1 (by omega) hB1)
 obtain ⟨r0, r1, z0, z1⟩ := bC1
 go_wp2
 obtain ⟨⟨q0, q1, -, -⟩, hBB⟩ := K.out
 exact bodyPost_ret (v := .tuple #[.agg #[.bool false, .slice none 0 0], .bool false]) (by simp [results, Tryz.results95, go_sem, q0, q1]) rfl ⟨rfl, hBB⟩

set_option maxRecDepth 100000 in
set_option maxHeartbeats 2000000 in
theorem rmul_no_b (sa sb : Bool) (aa ab : Option Addr) (na nb ca cb : Nat) (z : Int) (w : World) (ha : Arg w sa aa na (some z)) (hb : Arg w sb ab nb none) :
 Calls Tryz.prog 95 #[.agg #[.bool sa, .slice aa na ca], .agg #[.bool sb, .slice ab nb cb]] w (NoPost w) := by
 go_enter Tryz.func95, Tryz.ntmps95
 go_wp2_with fail
 obtain ⟨W0, hW0⟩ : ∃ W0, ((w.alloc (Obj.cells #[.bool sa, .slice aa na ca] 25)).alloc (Obj.cells #[.bool sb, .slice ab nb cb] 25)).alloc (Obj.cells #[.bool false, .slice none 0 0] 25) = W0 := ⟨_, rfl⟩
 have bB : Box2 W0 (w.heap.size + 1) (.bool sb) (.slice ab nb cb) := by first | exact box3b hW0 | exact box2b hW0
 have bC : Box2 W0 (w.heap.size + 1 + 1) (.bool false) (.slice none 0 0) := box3c hW0
 have hsz : W0.heap.size = w.heap.size + 3 := by rw [← hW0]; simp
 have hB0 : Below w.heap.size w W0 := by rw [← hW0]; exact (((Below.refl _ w).alloc (Nat.le_refl _) _).alloc (by simp) _).alloc (by simp; omega) _
 rw [hW0]
 clear hW0
 refine (rright_arg sa aa na ca (some z) _ (ha.below hB0)).mono ?_
 rintro e w1 ⟨rfl, hb1⟩
 have hB1 : Below w.heap.size w w1 := hB0.trans (hb1.mono (by omega))
 have bB1 := bB.below hb1 (by omega)
 have bC1 := bC.below hb1 (by omega)
 obtain ⟨b0, b1, -, -⟩ := bB1
 go_wp2_with fail
 refine (rright_arg sb ab nb cb none _ (hb.below hB1)).mono ?_
 rintro e w2 ⟨rfl, hb2⟩
 have hB2 : Below w.heap.size w w2 := hB1.trans (hb2.mono hB1.size)
 have bC2 := bC1.below hb2 (by have := hb1.size; omega)
 clear b0 b1
 have K := hide (no_store bC2 (by omega) hB2)
 obtain ⟨r0, r1, z0, z1⟩ := bC2
 go_wp2
 obtain ⟨⟨q0, q1, -, -⟩, hBB⟩ := K.out
 exact bodyPost_ret (v := .tuple #[.agg #[.bool false, .slice none 0 0], .bool false]) (by simp [results, Tryz.results95, go_sem, q0, q1]) rfl ⟨rfl, hBB⟩


set_option maxRecDepth 100000 in
set_option maxHeartbeats 2000000 in
theorem radd_same (sa : Bool) (aa ab : Option Addr) (na nb ca cb : Nat) (za zb : Int) (hna : na ≤ 64) (hnb : nb ≤ 64) (w : World) (ha : IsN w sa aa na za) (hb : IsN w sa ab nb zb) {O : Option Int} (HO : Hid (fitO (signed sa (za.natAbs + zb.natAbs)) = O)) :
 Calls Tryz.prog 96 #[.agg #[.bool sa, .slice aa na ca], .agg #[.bool sa, .slice ab nb cb]] w (OptPostC w O) := by
 have HLA := hide ha.dig.len
 have HLB := hide hb.dig.len
 have HLE : Hid (∀ m, (m = dlen (za.natAbs + zb.natAbs) ∨ m = dlen (za.natAbs * zb.natAbs) ∨ m = dlen (za.natAbs - zb.natAbs) ∨ m = dlen (zb.natAbs - za.natAbs)) → m ≤ 1099511627776) := fun m h => len_le_of ha.dig.len hb.dig.len hna hnb h
 go_enter Tryz.func96, Tryz.ntmps96
 go_wp2_with fail
 obtain ⟨W0, hW0⟩ : ∃ W0, ((w.alloc (Obj.cells #[.bool sa, .slice aa na ca] 25)).alloc (Obj.cells #[.bool sa, .slice ab nb cb] 25)).alloc (Obj.cells #[.bool false, .slice none 0 0] 25) = W0 := ⟨_, rfl⟩
 have bA : Box2 W0 w.heap.size (.bool sa) (.slice aa na ca) := by rw [← hW0]; exact ((Box2.new w _ _ _).alloc _).alloc _
 have bB : Box2 W0 (w.heap.size + 1) (.bool sa) (.slice ab nb cb) := by first | exact box3b hW0 | exact box2b hW0
 have bC : Box2 W0 (w.heap.size + 1 + 1) (.bool false) (.slice none 0 0) := box3c hW0
 have hsz : W0.heap.size = w.heap.size + 3 := by rw [← hW0]; simp
 have hB0 : Below w.heap.size w W0 := by rw [← hW0]; exact (((Below.refl _ w).alloc (Nat.le_refl _) _).alloc (by simp) _).alloc (by simp; omega) _
 rw [hW0]
 clear hW0
 refine (rright_arg sa aa na ca (some za) _ ⟨ha.below hB0, hna⟩).mono ?_
 rintro e w1 ⟨rfl, hb1⟩
 have hB1 : Below w.heap.size w w1 := hB0.trans (hb1.mono (by omega))
 have bA1 := bA.below hb1 (by omega)
 have bB1 := bB.below hb1 (by omega)
 have bC1 := bC.below hb1 (by omega)
 obtain ⟨b0, b1, -, -⟩ := bB1
 go_wp2_with fail
 refine (rright_arg sa ab nb cb (some zb) _ ⟨hb.below hB1, hnb⟩).mono ?_
 rintro e w2 ⟨rfl, hb2⟩
 have hB2 : Below w.heap.size w w2 := hB1.trans (hb2.mono hB1.size)
 have bA2 := bA1.below hb2 (by have := hb1.size; omega)
 have bB2 := bB.below (hb1.trans (hb2.mono hb1.size)) (by omega)
 have bC2 := bC1.below hb2 (by have := hb1.size; omega)
 clear b0 b1
 have bC2k := bC2
 have bA2k := bA2
 have bB2k := bB2
 obtain ⟨a0, a1, -, -⟩ := bA2
 obtain ⟨b0, b1, -, -⟩ := bB2
 obtain ⟨r0, r1, z0, z1⟩ := bC2
 go_wp2_with fail
 have hX : IsD w2.drew aa na za.natAbs := (ha.dig.below hB2).below (Below.drew (Below.refl _ _))
 have hY : IsD w2.drew ab nb zb.natAbs := (hb.dig.below hB2).below (Below.drew (Below.refl _ _))
 have hlt2 : w.heap.size + 1 + 1 < w2.heap.size := lt_of_cell r0
 go_region_held3 (fun w' => w'.cell? ⟨w.heap.size, 0, none⟩ = some (.bool sa) ∧ w'.cell? ⟨w.heap.size, 1, none⟩ = some (.slice aa na ca) ∧ w'.cell? ⟨w.heap.size + 1, 1, none⟩ = some (.slice ab nb cb))
  (first | exact ⟨a0, a1, b1⟩ | exact ⟨a0', a1', b1'⟩ | exact ⟨a0'', a1'', b1''⟩ | (refine ⟨?_, ?_, ?_⟩ <;> (rw [World.cell?_setCell_far _ _ _ _ (by first | omega | (simp; done) | (simp; omega)), World.cell?_setCell_far _ _ _ _ (by first | omega | (simp; done) | (simp; omega))]; assumption)) | go_keep)
  (first
    | (go_at_call 74; refine (rplus_any aa ab _ _ na nb ca cb (by omega) (by omega) _ hX hY).mono ?_; rintro e w4 ⟨a3, n3, cap3, rfl, hd3, hcap3, hfr3, hb4⟩; have a0' := (hb4.cell (p := ⟨w.heap.size, 0, none⟩) (by simp; omega)).trans a0; have a1' := (hb4.cell (p := ⟨w.heap.size, 1, none⟩) (by simp; omega)).trans a1; have b1' := (hb4.cell (p := ⟨w.heap.size + 1, 1, none⟩) (by simp; omega)).trans b1; have bC4 := (bC2k.below (Below.drew (Below.refl _ _)) bC2k.lt : Box2 w2.drew _ _ _).below hb4 bC2k.lt)
    | (go_at_call 60; refine (rsigned_numC sa a3 n3 cap3 _ hcap3 (HLE.out _ (by rw [hd3.len]; simp)) _ hd3 HO).mono ?_; rintro e w5 ⟨s4, a4, n4, cap4, rfl, hn4, h64, hf4, hb5, hl4⟩; have a0'' := (hb5.cell (p := ⟨w.heap.size, 0, none⟩) (lt_of_cell a0')).trans a0'; have a1'' := (hb5.cell (p := ⟨w.heap.size, 1, none⟩) (lt_of_cell a1')).trans a1'; have b1'' := (hb5.cell (p := ⟨w.heap.size + 1, 1, none⟩) (lt_of_cell b1')).trans b1'; obtain ⟨r0'', r1'', z0'', z1''⟩ := bC4.below hb5 bC4.lt))
 have hs4 := hb4.size
 have hBw : Below w.heap.size w w5 := (hB2.drew.trans (hb4.mono hB2.size)).trans (hb5.mono (Nat.le_trans hB2.size hb4.size))
 have hne : n4 = 0 ∨ ∀ ad, a4 = some ad → ad.block ≠ w.heap.size + 1 + 1 := hf4.imp id fun h ad e => by have := h ad e; simp at hs4; omega
 have hfw : n4 = 0 ∨ Fresh w a4 := hf4.imp id fun h ad e => by have := h ad e; simp at hs4; omega
 obtain ⟨hbx, hN, hBB⟩ := num_store (cap := cap4) (bC4.below hb5 bC4.lt) (by omega) hBw hn4 hne
 obtain ⟨q0, q1, -, -⟩ := hbx
 clear a0 a1 b1 a0' a1' b1' a0'' a1'' b1'' r0 r1 z0 z1 r0'' r1'' z0'' z1''
 go_wp2
 exact bodyPost_ret (v := .tuple #[.agg #[.bool s4, .slice a4 n4 cap4], .bool O.isSome]) (by simp [results, Tryz.results96, go_sem, q0, q1]) rfl ⟨_, _, _, _, rfl, hN, h64, hfw, hBB, hl4⟩

set_option maxRecDepth 100000 in
set_option maxHeartbeats 2000000 in
theorem radd_lt (sa sb : Bool) (hs : (sa == sb) = false) (aa ab : Option Addr) (na nb ca cb : Nat) (za zb : Int) (hna : na ≤ 64) (hnb : nb ≤ 64) (hlt : za.natAbs < zb.natAbs) (w : World) (ha : IsN w sa aa na za) (hb : IsN w sb ab nb zb) {O : Option Int} (HO : Hid (fitO (signed sb (zb.natAbs - za.natAbs)) = O)) :
 Calls Tryz.prog 96 #[.agg #[.bool sa, .slice aa na ca], .agg #[.bool sb, .slice ab nb cb]] w (OptPostC w O) := by
 have HLA := hide ha.dig.len
 have HLB := hide hb.dig.len
 have HLE : Hid (∀ m, (m = dlen (za.natAbs + zb.natAbs) ∨ m = dlen (za.natAbs * zb.natAbs) ∨ m = dlen (za.natAbs - zb.natAbs) ∨ m = dlen (zb.natAbs - za.natAbs)) → m ≤ 1099511627776) := fun m h => len_le_of ha.dig.len hb.dig.len hna hnb h
 have hcmp : cmpN za.natAbs zb.natAbs < 0 := by rw [cmpN_lt hlt]; decide
 go_enter Tryz.func96, Tryz.ntmps96
 go_wp2_with fail
 obtain ⟨W0, hW0⟩ : ∃ W0, ((w.alloc (Obj.cells #[.bool sa, .slice aa na ca] 25)).alloc (Obj.cells #[.bool sb, .slice ab nb cb] 25)).alloc (Obj.cells #[.bool false, .slice none 0 0] 25) = W0 := ⟨_, rfl⟩
 have bA : Box2 W0 w.heap.size (.bool sa) (.slice aa na ca) := by rw [← hW0]; exact ((Box2.new w _ _ _).alloc _).alloc _
 have bB : Box2 W0 (w.heap.size + 1) (.bool sb) (.slice ab nb cb) := by first | exact box3b hW0 | exact box2b hW0
 have bC : Box2 W0 (w.heap.size + 1 + 1) (.bool false) (.slice none 0 0) := box3c hW0
 have hsz : W0.heap.size = w.heap.size + 3 := by rw [← hW0]; simp
 have hB0 : Below w.heap.size w W0 := by rw [← hW0]; exact (((Below.refl _ w).alloc (Nat.le_refl _) _).alloc (by simp) _).alloc (by simp; omega) _
 rw [hW0]
 clear hW0
 refine (rright_arg sa aa na ca (some za) _ ⟨ha.below hB0, hna⟩).mono ?_
 rintro e w1 ⟨rfl, hb1⟩
 have hB1 : Below w.heap.size w w1 := hB0.trans (hb1.mono (by omega))
 have bA1 := bA.below hb1 (by omega)
 have bB1 := bB.below hb1 (by omega)
 have bC1 := bC.below hb1 (by omega)
 obtain ⟨b0, b1, -, -⟩ := bB1
 go_wp2_with fail
 refine (rright_arg sb ab nb cb (some zb) _ ⟨hb.below hB1, hnb⟩).mono ?_
 rintro e w2 ⟨rfl, hb2⟩
 have hB2 : Below w.heap.size w w2 := hB1.trans (hb2.mono hB1.size)
 have bA2 := bA1.below hb2 (by have := hb1.size; omega)
 have bB2 := bB.below (hb1.trans (hb2.mono hb1.size)) (by omega)
 have bC2 := bC1.below hb2 (by have := hb1.size; omega)
 clear b0 b1
 have bC2k := bC2
 have bA2k := bA2
 have bB2k := bB2
 obtain ⟨a0, a1, -, -⟩ := bA2
 obtain ⟨b0, b1, -, -⟩ := bB2
 obtain ⟨r0, r1, z0, z1⟩ := bC2
 go_wp2_with fail
 refine (rcompare_any aa ab za.natAbs zb.natAbs na nb ca cb (by omega) w2 (ha.dig.below hB2) (hb.dig.below hB2)).mono ?_
 rintro e w3 ⟨rfl, hb3⟩
 have hB2 : Below w.heap.size w w3 := hB2.trans (hb3.mono hB2.size)
 have bA2 := bA2k.below hb3 bA2k.lt
 have bB2 := bB2k.below hb3 bB2k.lt
 have bC2 := bC2k.below hb3 bC2k.lt
 clear a0 a1 b0 b1 r0 r1 z0 z1 bA2k bB2k bC2k
 have bC2k := bC2
 obtain ⟨a0, a1, -, -⟩ := bA2
 obtain ⟨b0, b1, -, -⟩ := bB2
 obtain ⟨r0, r1, z0, z1⟩ := bC2
 go_wp2_with fail
 have hX : IsD w3.drew ab nb zb.natAbs := (hb.dig.below hB2).below (Below.drew (Below.refl _ _))
 have hY : IsD w3.drew aa na za.natAbs := (ha.dig.below hB2).below (Below.drew (Below.refl _ _))
 have hlt2 : w.heap.size + 1 + 1 < w3.heap.size := lt_of_cell r0
 go_region_held3 (fun w' => w'.cell? ⟨w.heap.size, 1, none⟩ = some (.slice aa na ca) ∧ w'.cell? ⟨w.heap.size + 1, 0, none⟩ = some (.bool sb) ∧ w'.cell? ⟨w.heap.size + 1, 1, none⟩ = some (.slice ab nb cb))
  (first | exact ⟨a1, b0, b1⟩ | exact ⟨a1', b0', b1'⟩ | exact ⟨a1'', b0'', b1''⟩ | (refine ⟨?_, ?_, ?_⟩ <;> (rw [World.cell?_setCell_far _ _ _ _ (by first | omega | (simp; done) | (simp; omega)), World.cell?_setCell_far _ _ _ _ (by first | omega | (simp; done) | (simp; omega))]; assumption)) | go_keep)
  (first
    | (go_at_call 127; refine (rminus_any ab aa _ _ nb na cb ca (by omega) (by omega) _ hX hY (by omega)).mono ?_; rintro e w4 ⟨a3, n3, cap3, rfl, hd3, hcap3, hfr3, hb4⟩; have a1' := (hb4.cell (p := ⟨w.heap.size, 1, none⟩) (by simp; omega)).trans a1; have b0' := (hb4.cell (p := ⟨w.heap.size + 1, 0, none⟩) (by simp; omega)).trans b0; have b1' := (hb4.cell (p := ⟨w.heap.size + 1, 1, none⟩) (by simp; omega)).trans b1; have bC4 := (bC2k.below (Below.drew (Below.refl _ _)) bC2k.lt : Box2 w3.drew _ _ _).below hb4 bC2k.lt)
    | (go_at_call 60; refine (rsigned_numC sb a3 n3 cap3 _ hcap3 (HLE.out _ (by rw [hd3.len]; simp)) _ hd3 HO).mono ?_; rintro e w5 ⟨s4, a4, n4, cap4, rfl, hn4, h64, hf4, hb5, hl4⟩; have a1'' := (hb5.cell (p := ⟨w.heap.size, 1, none⟩) (lt_of_cell a1')).trans a1'; have b0'' := (hb5.cell (p := ⟨w.heap.size + 1, 0, none⟩) (lt_of_cell b0')).trans b0'; have b1'' := (hb5.cell (p := ⟨w.heap.size + 1, 1, none⟩) (lt_of_cell b1')).trans b1'; obtain ⟨r0'', r1'', z0'', z1''⟩ := bC4.below hb5 bC4.lt))
 have hs4 := hb4.size
 have hBw : Below w.heap.size w w5 := (hB2.drew.trans (hb4.mono hB2.size)).trans (hb5.mono (Nat.le_trans hB2.size hb4.size))
 have hne : n4 = 0 ∨ ∀ ad, a4 = some ad → ad.block ≠ w.heap.size + 1 + 1 := hf4.imp id fun h ad e => by have := h ad e; simp at hs4; omega
 have hfw : n4 = 0 ∨ Fresh w a4 := hf4.imp id fun h ad e => by have := h ad e; simp at hs4; omega
 obtain ⟨hbx, hN, hBB⟩ := num_store (cap := cap4) (bC4.below hb5 bC4.lt) (by omega) hBw hn4 hne
 obtain ⟨q0, q1, -, -⟩ := hbx
 clear a1 b0 b1 a1' b0' b1' a1'' b0'' b1'' r0 r1 z0 z1 r0'' r1'' z0'' z1''
 go_wp2
 exact bodyPost_ret (v := .tuple #[.agg #[.bool s4, .slice a4 n4 cap4], .bool O.isSome]) (by simp [results, Tryz.results96, go_sem, q0, q1]) rfl ⟨_, _, _, _, rfl, hN, h64, hfw, hBB, hl4⟩

set_option maxRecDepth 100000 in
set_option maxHeartbeats 2000000 in
theorem radd_ge (sa sb : Bool) (hs : (sa == sb) = false) (aa ab : Option Addr) (na nb ca cb : Nat) (za zb : Int) (hna : na ≤ 64) (hnb : nb ≤ 64) (hge : zb.natAbs ≤ za.natAbs) (w : World) (ha : IsN w sa aa na za) (hb : IsN w sb ab nb zb) {O : Option Int} (HO : Hid (fitO (signed sa (za.natAbs - zb.natAbs)) = O)) :
 Calls Tryz.prog 96 #[.agg #[.bool sa, .slice aa na ca], .agg #[.bool sb, .slice ab nb cb]] w (OptPostC w O) := by
 have HLA := hide ha.dig.len
 have HLB := hide hb.dig.len
 have HLE : Hid (∀ m, (m = dlen (za.natAbs + zb.natAbs) ∨ m = dlen (za.natAbs * zb.natAbs) ∨ m = dlen (za.natAbs - zb.natAbs) ∨ m = dlen (zb.natAbs - za.natAbs)) → m ≤ 1099511627776) := fun m h => len_le_of ha.dig.len hb.dig.len hna hnb h
 have hcmp : ¬ cmpN za.natAbs zb.natAbs < 0 := by
  unfold cmpN
  rw [if_neg (by omega)]
  split <;> decide
 go_enter Tryz.func96, Tryz.ntmps96
 go_wp2_with fail
 obtain ⟨W0, hW0⟩ : ∃ W0, ((w.alloc (Obj.cells #[.bool sa, .slice aa na ca] 25)).alloc (Obj.cells #[.bool sb, .slice ab nb cb] 25)).alloc (Obj.cells #[.bool false, .slice none 0 0] 25) = W0 := ⟨_, rfl⟩
 have bA : Box2 W0 w.heap.size (.bool sa) (.slice aa na ca) := by rw [← hW0]; exact ((Box2.new w _ _ _).alloc _).alloc _
 have bB : Box2 W0 (w.heap.size + 1) (.bool sb) (.slice ab nb cb) := by first | exact box3b hW0 | exact box2b hW0
 have bC : Box2 W0 (w.heap.size + 1 + 1) (.bool false) (.slice none 0 0) := box3c hW0
 have hsz : W0.heap.size = w.heap.size + 3 := by rw [← hW0]; simp
 have hB0 : Below w.heap.size w W0 := by rw [← hW0]; exact (((Below.refl _ w).alloc (Nat.le_refl _) _).alloc (by simp) _).alloc (by simp; omega) _
 rw [hW0]
 clear hW0
 refine (rright_arg sa aa na ca (some za) _ ⟨ha.below hB0, hna⟩).mono ?_
 rintro e w1 ⟨rfl, hb1⟩
 have hB1 : Below w.heap.size w w1 := hB0.trans (hb1.mono (by omega))
 have bA1 := bA.below hb1 (by omega)
 have bB1 := bB.below hb1 (by omega)
 have bC1 := bC.below hb1 (by omega)
 obtain ⟨b0, b1, -, -⟩ := bB1
 go_wp2_with fail
 refine (rright_arg sb ab nb cb (some zb) _ ⟨hb.below hB1, hnb⟩).mono ?_
 rintro e w2 ⟨rfl, hb2⟩
 have hB2 : Below w.heap.size w w2 := hB1.trans (hb2.mono hB1.size)
 have bA2 := bA1.below hb2 (by have := hb1.size; omega)
 have bB2 := bB.below (hb1.trans (hb2.mono hb1.size)) (by omega)
 have bC2 := bC1.below hb2 (by have := hb1.size; omega)
 clear b0 b1
 have bC2k := bC2
 have bA2k := bA2
 have bB2k := bB2
 obtain ⟨a0, a1, -, -⟩ := bA2
 obtain ⟨b0, b1, -, -⟩ := bB2
 obtain ⟨r0, r1, z0, z1⟩ := bC2
 go_wp2_with fail
 refine (rcompare_any aa ab za.natAbs zb.natAbs na nb ca cb (by omega) w2 (ha.dig.below hB2) (hb.dig.below hB2)).mono ?_
 rintro e w3 ⟨rfl, hb3⟩
 have hB2 : Below w.heap.size w w3 := hB2.trans (hb3.mono hB2.size)
 have bA2 := bA2k.below hb3 bA2k.lt
 have bB2 := bB2k.below hb3 bB2k.lt
 have bC2 := bC2k.below hb3 bC2k.lt
 clear a0 a1 b0 b1 r0 r1 z0 z1 bA2k bB2k bC2k
 have bC2k := bC2
 obtain ⟨a0, a1, -, -⟩ := bA2
 obtain ⟨b0, b1, -, -⟩ := bB2
 obtain ⟨r0, r1, z0, z1⟩ := bC2
 go_wp2_with fail
 have hX : IsD w3.drew aa na za.natAbs := (ha.dig.below hB2).below (Below.drew (Below.refl _ _))
 have hY : IsD w3.drew ab nb zb.natAbs := (hb.dig.below hB2).below (Below.drew (Below.refl _ _))
 have hlt2 : w.heap.size + 1 + 1 < w3.heap.size := lt_of_cell r0
 go_region_held3 (fun w' => w'.cell? ⟨w.heap.size, 0, none⟩ = some (.bool sa) ∧ w'.cell? ⟨w.heap.size, 1, none⟩ = some (.slice aa na ca) ∧ w'.cell? ⟨w.heap.size + 1, 1, none⟩ = some (.slice ab nb cb))
  (first | exact ⟨a0, a1, b1⟩ | exact ⟨a0', a1', b1'⟩ | exact ⟨a0'', a1'', b1''⟩ | (refine ⟨?_, ?_, ?_⟩ <;> (rw [World.cell?_setCell_far _ _ _ _ (by first | omega | (simp; done) | (simp; omega)), World.cell?_setCell_far _ _ _ _ (by first | omega | (simp; done) | (simp; omega))]; assumption)) | go_keep)
  (first
    | (go_at_call 127; refine (rminus_any aa ab _ _ na nb ca cb (by omega) (by omega) _ hX hY (by omega)).mono ?_; rintro e w4 ⟨a3, n3, cap3, rfl, hd3, hcap3, hfr3, hb4⟩; have a0' := (hb4.cell (p := ⟨w.heap.size, 0, none⟩) (by simp; omega)).trans a0; have a1' := (hb4.cell (p := ⟨w.heap.size, 1, none⟩) (by simp; omega)).trans a1; have b1' := (hb4.cell (p := ⟨w.heap.size + 1, 1, none⟩) (by simp; omega)).trans b1; have bC4 := (bC2k.below (Below.drew (Below.refl _ _)) bC2k.lt : Box2 w3.drew _ _ _).below hb4 bC2k.lt)
    | (go_at_call 60; refine (rsigned_numC sa a3 n3 cap3 _ hcap3 (HLE.out _ (by rw [hd3.len]; simp)) _ hd3 HO).mono ?_; rintro e w5 ⟨s4, a4, n4, cap4, rfl, hn4, h64, hf4, hb5, hl4⟩; have a0'' := (hb5.cell (p := ⟨w.heap.size, 0, none⟩) (lt_of_cell a0')).trans a0'; have a1'' := (hb5.cell (p := ⟨w.heap.size, 1, none⟩) (lt_of_cell a1')).trans a1'; have b1'' := (hb5.cell (p := ⟨w.heap.size + 1, 1, none⟩) (lt_of_cell b1')).trans b1'; obtain ⟨r0'', r1'', z0'', z1''⟩ := bC4.below hb5 bC4.lt))
 have hs4 := hb4.size
 have hBw : Below w.heap.size w w5 := (hB2.drew.trans (hb4.mono hB2.size)).trans (hb5.mono (Nat.le_trans hB2.size hb4.size))
 have hne : n4 = 0 ∨ ∀ ad, a4 = some ad → ad.block ≠ w.heap.size + 1 + 1 := hf4.imp id fun h ad e => by have := h ad e; simp at hs4; omega
 have hfw : n4 = 0 ∨ Fresh w a4 := hf4.imp id fun h ad e => by have := h ad e; simp at hs4; omega
 obtain ⟨hbx, hN, hBB⟩ := num_store (cap := cap4) (bC4.below hb5 bC4.lt) (by omega) hBw hn4 hne
 obtain ⟨q0, q1, -, -⟩ := hbx
 clear a0 a1 b1 a0' a1' b1' a0'' a1'' b1'' r0 r1 z0 z1 r0'' r1'' z0'' z1''
 go_wp2
 exact bodyPost_ret (v := .tuple #[.agg #[.bool s4, .slice a4 n4 cap4], .bool O.isSome]) (by simp [results, Tryz.results96, go_sem, q0, q1]) rfl ⟨_, _, _, _, rfl, hN, h64, hfw, hBB, hl4⟩

set_option maxRecDepth 100000 in
set_option maxHeartbeats 2000000 in
theorem rmul_num (sa sb : Bool) (aa ab : Option Addr) (na nb ca cb : Nat) (za zb : Int) (hna : na ≤ 64) (hnb : nb ≤ 64) (w : World) (ha : IsN w sa aa na za) (hb : IsN w sb ab nb zb) {O : Option Int} (HO : Hid (fitO (signed (sa != sb) (za.natAbs * zb.natAbs)) = O)) :
 Calls Tryz.prog 95 #[.agg #[.bool sa, .slice aa na ca], .agg #[.bool sb, .slice ab nb cb]] w (OptPostC w O) := by
 have HLA := hide ha.dig.len
 have HLB := hide hb.dig.len
 have HLE : Hid (∀ m, (m = dlen (za.natAbs + zb.natAbs) ∨ m = dlen (za.natAbs * zb.natAbs) ∨ m = dlen (za.natAbs - zb.natAbs) ∨ m = dlen (zb.natAbs - za.natAbs)) → m ≤ 1099511627776) := fun m h => len_le_of ha.dig.len hb.dig.len hna hnb h
 go_enter Tryz.func95, Tryz.ntmps95
 go_wp2_with fail
 obtain ⟨W0, hW0⟩ : ∃ W0, ((w.alloc (Obj.cells #[.bool sa, .slice aa na ca] 25)).alloc (Obj.cells #[.bool sb, .slice ab nb cb] 25)).alloc (Obj.cells #[.bool false, .slice none 0 0] 25) = W0 := ⟨_, rfl⟩
 have bA : Box2 W0 w.heap.size (.bool sa) (.slice aa na ca) := by rw [← hW0]; exact ((Box2.new w _ _ _).alloc _).alloc _
 have bB : Box2 W0 (w.heap.size + 1) (.bool sb) (.slice ab nb cb) := by first | exact box3b hW0 | exact box2b hW0
 have bC : Box2 W0 (w.heap.size + 1 + 1) (.bool false) (.slice none 0 0) := box3c hW0
 have hsz : W0.heap.size = w.heap.size + 3 := by rw [← hW0]; simp
 have hB0 : Below w.heap.size w W0 := by rw [← hW0]; exact (((Below.refl _ w).alloc (Nat.le_refl _) _).alloc (by simp) _).alloc (by simp; omega) _
 rw [hW0]
 clear hW0
 refine (rright_arg sa aa na ca (some za) _ ⟨ha.below hB0, hna⟩).mono ?_
 rintro e w1 ⟨rfl, hb1⟩
 have hB1 : Below w.heap.size w w1 := hB0.trans (hb1.mono (by omega))
 have bA1 := bA.below hb1 (by omega)
 have bB1 := bB.below hb1 (by omega)
 have bC1 := bC.below hb1 (by omega)
 obtain ⟨b0, b1, -, -⟩ := bB1
 go_wp2_with fail
 refine (rright_arg sb ab nb cb (some zb) _ ⟨hb.below hB1, hnb⟩).mono ?_
 rintro e w2 ⟨rfl, hb2⟩
 have hB2 : Below w.heap.size w w2 := hB1.trans (hb2.mono hB1.size)
 have bA2 := bA1.below hb2 (by have := hb1.size; omega)
 have bB2 := bB.below (hb1.trans (hb2.mono hb1.size)) (by omega)
 have bC2 := bC1.below hb2 (by have := hb1.size; omega)
 clear b0 b1
 have bC2k := bC2
 have bA2k := bA2
 have bB2k := bB2
 obtain ⟨a0, a1, -, -⟩ := bA2
 obtain ⟨b0, b1, -, -⟩ := bB2
 obtain ⟨r0, r1, z0, z1⟩ := bC2
 go_wp2_with fail
 have hX : IsD w2.drew aa na za.natAbs := (ha.dig.below hB2).below (Below.drew (Below.refl _ _))
 have hY : IsD w2.drew ab nb zb.natAbs := (hb.dig.below hB2).below (Below.drew (Below.refl _ _))
 have hlt2 : w.heap.size + 1 + 1 < w2.heap.size := lt_of_cell r0
 go_region_held3 (fun w' => w'.cell? ⟨w.heap.size, 0, none⟩ = some (.bool sa) ∧ w'.cell? ⟨w.heap.size, 1, none⟩ = some (.slice aa na ca) ∧ w'.cell? ⟨w.heap.size + 1, 0, none⟩ = some (.bool sb) ∧ w'.cell? ⟨w.heap.size + 1, 1, none⟩ = some (.slice ab nb cb))
  (first | exact ⟨a0, a1, b0, b1⟩ | exact ⟨a0', a1', b0', b1'⟩ | exact ⟨a0'', a1'', b0'', b1''⟩ | (refine ⟨?_, ?_, ?_, ?_⟩ <;> (rw [World.cell?_setCell_far _ _ _ _ (by first | omega | (simp; done) | (simp; omega)), World.cell?_setCell_far _ _ _ _ (by first | omega | (simp; done) | (simp; omega))]; assumption)) | go_keep)
  (first
    | (go_at_call 75; refine (rtimes_any aa ab _ _ na nb ca cb (by omega) (by omega) _ hX hY).mono ?_; rintro e w4 ⟨a3, n3, cap3, rfl, hd3, hcap3, hfr3, hb4⟩; have a0' := (hb4.cell (p := ⟨w.heap.size, 0, none⟩) (by simp; omega)).trans a0; have a1' := (hb4.cell (p := ⟨w.heap.size, 1, none⟩) (by simp; omega)).trans a1; have b0' := (hb4.cell (p := ⟨w.heap.size + 1, 0, none⟩) (by simp; omega)).trans b0; have b1' := (hb4.cell (p := ⟨w.heap.size + 1, 1, none⟩) (by simp; omega)).trans b1; have bC4 := (bC2k.below (Below.drew (Below.refl _ _)) bC2k.lt : Box2 w2.drew _ _ _).below hb4 bC2k.lt)
    | (go_at_call 60; refine (rsigned_numC (sa != sb) a3 n3 cap3 _ hcap3 (HLE.out _ (by rw [hd3.len]; simp)) _ hd3 HO).mono ?_; rintro e w5 ⟨s4, a4, n4, cap4, rfl, hn4, h64, hf4, hb5, hl4⟩; have a0'' := (hb5.cell (p := ⟨w.heap.size, 0, none⟩) (lt_of_cell a0')).trans a0'; have a1'' := (hb5.cell (p := ⟨w.heap.size, 1, none⟩) (lt_of_cell a1')).trans a1'; have b0'' := (hb5.cell (p := ⟨w.heap.size + 1, 0, none⟩) (lt_of_cell b0')).trans b0'; have b1'' := (hb5.cell (p := ⟨w.heap.size + 1, 1, none⟩) (lt_of_cell b1')).trans b1'; obtain ⟨r0'', r1'', z0'', z1''⟩ := bC4.below hb5 bC4.lt))
 have hs4 := hb4.size
 have hBw : Below w.heap.size w w5 := (hB2.drew.trans (hb4.mono hB2.size)).trans (hb5.mono (Nat.le_trans hB2.size hb4.size))
 have hne : n4 = 0 ∨ ∀ ad, a4 = some ad → ad.block ≠ w.heap.size + 1 + 1 := hf4.imp id fun h ad e => by have := h ad e; simp at hs4; omega
 have hfw : n4 = 0 ∨ Fresh w a4 := hf4.imp id fun h ad e => by have := h ad e; simp at hs4; omega
 obtain ⟨hbx, hN, hBB⟩ := num_store (cap := cap4) (bC4.below hb5 bC4.lt) (by omega) hBw hn4 hne
 obtain ⟨q0, q1, -, -⟩ := hbx
 clear a0 a1 b0 b1 a0' a1' b0' b1' a0'' a1'' b0'' b1'' r0 r1 z0 z1 r0'' r1'' z0'' z1''
 go_wp2
 exact bodyPost_ret (v := .tuple #[.agg #[.bool s4, .slice a4 n4 cap4], .bool O.isSome]) (by simp [results, Tryz.results95, go_sem, q0, q1]) rfl ⟨_, _, _, _, rfl, hN, h64, hfw, hBB, hl4⟩

theorem signed_self {w : World} {s : Bool} {a : Option Addr} {n : Nat} {z : Int} (h : IsN w s a n z) : z = signed s z.natAbs := by
 have h1 := h.sign
 unfold signed; rw [h1]; by_cases h : z < 0 <;> simp [h] <;> omega
theorem radd_argC (sa sb : Bool) (aa ab : Option Addr) (na nb ca cb : Nat) (x y : Option Int) (w : World) (ha : Arg w sa aa na x) (hb : Arg w sb ab nb y) :
 Calls Tryz.prog 96 #[.agg #[.bool sa, .slice aa na ca], .agg #[.bool sb, .slice ab nb cb]] w (OptPostC w (addO x y)) := by
 cases x with
 | none => exact (radd_no_a sa sb aa ab na nb ca cb w ha).mono fun e w' h => h.optC rfl
 | some z =>
   cases y with
   | none => exact (radd_no_b sa sb aa ab na nb ca cb z w ha hb).mono fun e w' h => h.optC rfl
   | some v =>
     show Calls _ _ _ _ (OptPostC w (fitO (z + v)))
     have h1 := ha.1.sign
     have h2 := hb.1.sign
     by_cases hs : sa = sb
     · subst hs
       refine radd_same sa aa ab na nb ca cb z v ha.2 hb.2 w ha.1 hb.1 (hide ?_)
       congr 1
       unfold signed
       cases sa
       · have : ¬ z < 0 := by intro h; simp [h] at h1
         have : ¬ v < 0 := by intro h; simp [h] at h2
         simp; omega
       · have : z < 0 := by simpa using h1.symm
         have : v < 0 := by simpa using h2.symm
         simp; omega
     · have hs' : (sa == sb) = false := by simpa using hs
       by_cases hlt : z.natAbs < v.natAbs
       · refine radd_lt sa sb hs' aa ab na nb ca cb z v ha.2 hb.2 hlt w ha.1 hb.1 (hide ?_)
         congr 1
         unfold signed
         cases sa <;> cases sb <;> simp at hs
         · have : ¬ z < 0 := by intro h; simp [h] at h1
           have : v < 0 := by simpa using h2.symm
           simp; omega
         · have : z < 0 := by simpa using h1.symm
           have : ¬ v < 0 := by intro h; simp [h] at h2
           simp; omega
       · refine radd_ge sa sb hs' aa ab na nb ca cb z v ha.2 hb.2 (by omega) w ha.1 hb.1 (hide ?_)
         congr 1
         unfold signed
         cases sa <;> cases sb <;> simp at hs
         · have : ¬ z < 0 := by intro h; simp [h] at h1
           have : v < 0 := by simpa using h2.symm
           simp; omega
         · have : z < 0 := by simpa using h1.symm
           have : ¬ v < 0 := by intro h; simp [h] at h2
           simp; omega
theorem rmul_argC (sa sb : Bool) (aa ab : Option Addr) (na nb ca cb : Nat) (x y : Option Int) (w : World) (ha : Arg w sa aa na x) (hb : Arg w sb ab nb y) :
 Calls Tryz.prog 95 #[.agg #[.bool sa, .slice aa na ca], .agg #[.bool sb, .slice ab nb cb]] w (OptPostC w (mulO x y)) := by
 cases x with
 | none => exact (rmul_no_a sa sb aa ab na nb ca cb w ha).mono fun e w' h => h.optC rfl
 | some z =>
   cases y with
   | none => exact (rmul_no_b sa sb aa ab na nb ca cb z w ha hb).mono fun e w' h => h.optC rfl
   | some v =>
     show Calls _ _ _ _ (OptPostC w (fitO (z * v)))
     refine rmul_num sa sb aa ab na nb ca cb z v ha.2 hb.2 w ha.1 hb.1 (hide ?_)
     congr 1
     have e1 := signed_self ha.1
     have e2 := signed_self hb.1
     generalize z.natAbs = p at e1 ⊢
     generalize v.natAbs = q at e2 ⊢
     rw [e1, e2]
     unfold signed
     cases sa <;> cases sb <;> simp [Int.mul_neg, Int.neg_mul]
end Go.Proofs.YtgenaicmjddjcaaGreatDoor

/- The reference's word, Int and Cmp of any Nums. -/
namespace Go.Proofs.YtgenaicmjddjcaaGreatDoor
open Go.RowKit Go.Shelf

theorem rright_yes (s : Bool) (a : Option Addr) (n cap : Nat) (z : Int) (hn : n ≤ 64) (w : World) (h : IsN w s a n z) :
 Calls Tryz.prog 61 #[.agg #[.bool s, .slice a n cap]] w fun e w' => e = .returned (.bool true) ∧ Below w.heap.size w w' := rright_arg s a n cap (some z) w ⟨h, hn⟩

set_option maxRecDepth 100000 in
set_option maxHeartbeats 2000000 in
theorem rword_any (a : Option Addr) (L cap : Nat) (f : Nat → Nat) (hL : L ≤ 2) (hf : ∀ j, j < L → f j < 4294967296) (w : World) (hd : Dig w a L f) :
 Calls Tryz.prog 123 #[.slice a L cap] w fun e w' => e = .returned (.int .u64 ((valF f L : Nat) : Int)) ∧ Below w.heap.size w w' := by
 go_enter Tryz.func123, Tryz.ntmps123
 go_wp2_with fail
 go_loopw [3, 4] (fun nv i wr => ∃ k : Nat, k ≤ L ∧ i = .int .i64 (k : Int) ∧ nv = .int .u64 ((valF f k : Nat) : Int) ∧ wr = w) (fun _ i _ => L - (intOf i).toNat)
 case atStart => exact ⟨0, Nat.zero_le _, rfl, rfl, rfl⟩
 case round =>
  obtain ⟨k, hk, rfl, rfl, hwr⟩ := hrel
  rw [hwr]
  clear hwr
  by_cases hlt : k < L
  · obtain ⟨b, off, rfl, hc⟩ := hd.at (by omega)
    have hx := hc k hlt
    have hfk := hf k hlt
    have hk' : (k : Int) < L := by omega
    rcases (by omega : k = 0 ∨ k = 1) with rfl | rfl
    · have hx0 : w.cell? ⟨b, off, none⟩ = some (.int .u32 ((f 0 : Nat) : Int)) := hx
      rw [valF_zero, show ((0 : Nat) : Int) = 0 from rfl] at *
      clear hc hx
      go_wp2
      go_roundw
      case rel => exact ⟨1, by omega, rfl, by simp [valF_succ, valF_zero, bp_zero], trivial⟩
      case measure => simp [intOf]; omega
    · have hv : valF f 1 < 4294967296 := by
       have h0 := hf 0 (by omega)
       simpa [valF_succ, valF_zero, bp_zero] using h0
      have e2 : ((valF f 1 : Nat) : Int) + ((f 1 : Nat) : Int) * 4294967296 = ((valF f 2 : Nat) : Int) := by
       rw [valF_succ f 1, bp_one]; omega
      have HE := hide e2
      rw [show ((1 : Nat) : Int) = 1 from rfl] at *
      clear hc e2
      go_wp2
      go_roundw
      case rel => exact ⟨2, by omega, rfl, by rw [← HE.out], trivial⟩
      case measure => simp [intOf]; omega
  · obtain rfl : k = L := by omega
    go_wp2
    go_ret
    exact ⟨rfl, Below.refl _ _⟩

set_option maxRecDepth 100000 in
set_option maxHeartbeats 1000000 in
theorem rint_fit (s : Bool) (a : Option Addr) (n cap : Nat) (z : Int) (h0 : -9223372036854775808 ≤ z) (h1 : z ≤ 9223372036854775807) (w : World) (h : IsN w s a n z) :
 Calls Tryz.prog 84 #[.agg #[.bool s, .slice a n cap]] w fun e w' => e = .returned (.tuple #[.int .i64 z, .bool true]) ∧ Below w.heap.size w w' := by
 have hn2 : n ≤ 2 := by rw [h.dig.len]; exact dlen_le_two (by omega)
 have hb0 : Below w.heap.size w (w.alloc (.cells #[.bool s, .slice a n cap] 25)) := (Below.refl _ w).alloc (Nat.le_refl _) _
 have hv : valF (dgt z.natAbs) n = z.natAbs := by rw [h.dig.len, valF_dlen]
 have HV := hide hv
 have HB0 := hide hb0
 have hn2' : (n : Int) ≤ 2 := by omega
 clear hv hb0
 by_cases hz : z < 0
 · obtain rfl : s = true := by rw [h.sign]; simp [hz]
   go_enter Tryz.func84, Tryz.ntmps84
   go_wp2_with fail
   refine (rright_yes true a n cap z (by omega) _ (h.below HB0.out)).mono ?_
   rintro e w1 ⟨rfl, hb⟩
   have c0 : w1.cell? ⟨w.heap.size, 0, none⟩ = some (.bool true) := (hb.cell (p := ⟨w.heap.size, 0, none⟩) (by simp)).trans (by simp [go_sem])
   have c1 : w1.cell? ⟨w.heap.size, 1, none⟩ = some (.slice a n cap) := (hb.cell (p := ⟨w.heap.size, 1, none⟩) (by simp)).trans (by simp [go_sem])
   have hB1 : Below w.heap.size w w1 := HB0.out.trans (hb.mono (by simp))
   go_wp2_with fail
   refine (rword_any a n cap (dgt z.natAbs) hn2 (fun _ _ => dgt_lt _ _) _ (h.dig.dig.below hB1)).mono ?_
   rintro e w2 ⟨rfl, hb2⟩
   have c0' := (hb2.cell (p := ⟨w.heap.size, 0, none⟩) (lt_of_cell c0)).trans c0
   rw [HV.out]
   go_wp2
   go_ret2
   refine ⟨?_, hB1.trans (hb2.mono hB1.size)⟩
   have hw : wrap64 (IntKind.u64.wrap (-(z.natAbs : Int))) = z := by
    have e : IntKind.u64.wrap (-(z.natAbs : Int)) = (-(z.natAbs : Int)) % 18446744073709551616 := by simp [IntKind.wrap, IntKind.bits, IntKind.signed]
    rw [e]; unfold wrap64; omega
   simp [hw]
 · obtain rfl : s = false := by rw [h.sign]; simp [hz]
   go_enter Tryz.func84, Tryz.ntmps84
   go_wp2_with fail
   refine (rright_yes false a n cap z (by omega) _ (h.below HB0.out)).mono ?_
   rintro e w1 ⟨rfl, hb⟩
   have c0 : w1.cell? ⟨w.heap.size, 0, none⟩ = some (.bool false) := (hb.cell (p := ⟨w.heap.size, 0, none⟩) (by simp)).trans (by simp [go_sem])
   have c1 : w1.cell? ⟨w.heap.size, 1, none⟩ = some (.slice a n cap) := (hb.cell (p := ⟨w.heap.size, 1, none⟩) (by simp)).trans (by simp [go_sem])
   have hB1 : Below w.heap.size w w1 := HB0.out.trans (hb.mono (by simp))
   go_wp2_with fail
   refine (rword_any a n cap (dgt z.natAbs) hn2 (fun _ _ => dgt_lt _ _) _ (h.dig.dig.below hB1)).mono ?_
   rintro e w2 ⟨rfl, hb2⟩
   have c0' := (hb2.cell (p := ⟨w.heap.size, 0, none⟩) (lt_of_cell c0)).trans c0
   rw [HV.out]
   have hlt : ((z.natAbs : Nat) : Int) < 9223372036854775808 := by omega
   go_wp2
   go_ret2
   exact ⟨by simp; omega, hB1.trans (hb2.mono hB1.size)⟩

set_option maxRecDepth 100000 in
set_option maxHeartbeats 1000000 in
theorem rint_unfit (s : Bool) (a : Option Addr) (n cap : Nat) (z : Int) (hn : n ≤ 64) (hz : z < -9223372036854775808 ∨ 9223372036854775807 < z) (w : World) (h : IsN w s a n z) :
 Calls Tryz.prog 84 #[.agg #[.bool s, .slice a n cap]] w fun e w' => e = .returned (.tuple #[.int .i64 0, .bool false]) ∧ Below w.heap.size w w' := by
 have hb0 : Below w.heap.size w (w.alloc (.cells #[.bool s, .slice a n cap] 25)) := (Below.refl _ w).alloc (Nat.le_refl _) _
 have HB0 := hide hb0
 clear hb0
 by_cases hn2 : n ≤ 2
 · have hv : valF (dgt z.natAbs) n = z.natAbs := by rw [h.dig.len, valF_dlen]
   have HV := hide hv
   have hn2' : (n : Int) ≤ 2 := by omega
   have hs := h.sign
   clear hv
   rcases hz with hz | hz
   · obtain rfl : s = true := by rw [hs]; simp; omega
     have hbig : (9223372036854775808 : Int) < (z.natAbs : Int) := by omega
     clear hs
     go_enter Tryz.func84, Tryz.ntmps84
     go_wp2_with fail
     refine (rright_yes true a n cap z (by omega) _ (h.below HB0.out)).mono ?_
     rintro e w1 ⟨rfl, hb⟩
     have c0 : w1.cell? ⟨w.heap.size, 0, none⟩ = some (.bool true) := (hb.cell (p := ⟨w.heap.size, 0, none⟩) (by simp)).trans (by simp [go_sem])
     have c1 : w1.cell? ⟨w.heap.size, 1, none⟩ = some (.slice a n cap) := (hb.cell (p := ⟨w.heap.size, 1, none⟩) (by simp)).trans (by simp [go_sem])
     have hB1 : Below w.heap.size w w1 := HB0.out.trans (hb.mono (by simp))
     go_wp2_with fail
     refine (rword_any a n cap (dgt z.natAbs) hn2 (fun _ _ => dgt_lt _ _) _ (h.dig.dig.below hB1)).mono ?_
     rintro e w2 ⟨rfl, hb2⟩
     have c0' := (hb2.cell (p := ⟨w.heap.size, 0, none⟩) (lt_of_cell c0)).trans c0
     rw [HV.out]
     go_wp2
     go_ret2
     exact ⟨by simp, hB1.trans (hb2.mono hB1.size)⟩
   · obtain rfl : s = false := by rw [hs]; simp; omega
     have hge : (9223372036854775808 : Int) ≤ ((z.natAbs : Nat) : Int) := by omega
     have hnlt : (((z.natAbs : Nat) : Int) < 9223372036854775808) = False := by simp only [eq_iff_iff, iff_false]; omega
     have hbig : (9223372036854775807 : Int) < (z.natAbs : Int) := by omega
     clear hs
     go_enter Tryz.func84, Tryz.ntmps84
     go_wp2_with fail
     refine (rright_yes false a n cap z (by omega) _ (h.below HB0.out)).mono ?_
     rintro e w1 ⟨rfl, hb⟩
     have c0 : w1.cell? ⟨w.heap.size, 0, none⟩ = some (.bool false) := (hb.cell (p := ⟨w.heap.size, 0, none⟩) (by simp)).trans (by simp [go_sem])
     have c1 : w1.cell? ⟨w.heap.size, 1, none⟩ = some (.slice a n cap) := (hb.cell (p := ⟨w.heap.size, 1, none⟩) (by simp)).trans (by simp [go_sem])
     have hB1 : Below w.heap.size w w1 := HB0.out.trans (hb.mono (by simp))
     go_wp2_with fail
     refine (rword_any a n cap (dgt z.natAbs) hn2 (fun _ _ => dgt_lt _ _) _ (h.dig.dig.below hB1)).mono ?_
     rintro e w2 ⟨rfl, hb2⟩
     have c0' := (hb2.cell (p := ⟨w.heap.size, 0, none⟩) (lt_of_cell c0)).trans c0
     rw [HV.out]
     go_wp2
     go_ret2
     exact ⟨by simp, hB1.trans (hb2.mono hB1.size)⟩
 · have hn2' : (2 : Int) < n := by omega
   go_enter Tryz.func84, Tryz.ntmps84
   go_wp2_with fail
   refine (rright_yes s a n cap z (by omega) _ (h.below HB0.out)).mono ?_
   rintro e w1 ⟨rfl, hb⟩
   have c0 : w1.cell? ⟨w.heap.size, 0, none⟩ = some (.bool s) := (hb.cell (p := ⟨w.heap.size, 0, none⟩) (by simp)).trans (by simp [go_sem])
   have c1 : w1.cell? ⟨w.heap.size, 1, none⟩ = some (.slice a n cap) := (hb.cell (p := ⟨w.heap.size, 1, none⟩) (by simp)).trans (by simp [go_sem])
   have hB1 : Below w.heap.size w w1 := HB0.out.trans (hb.mono (by simp))
   go_wp2
   go_ret2
   exact ⟨by simp, hB1⟩

set_option maxRecDepth 100000 in
set_option maxHeartbeats 2000000 in
theorem rint_no (s : Bool) (a : Option Addr) (n c : Nat) (w : World) (ha : Arg w s a n none) :
 Calls Tryz.prog 84 #[.agg #[.bool s, .slice a n c]] w (IntPost w none) := by
 have HB0 := hide (below_alloc' w (Obj.cells #[.bool s, .slice a n c] 25))
 go_enter Tryz.func84, Tryz.ntmps84
 go_wp2_with fail
 refine (rright_arg s a n c none _ (ha.below HB0.out)).mono ?_
 rintro e w1 ⟨rfl, hb⟩
 have hB1 := HB0.out.trans (hb.mono HB0.out.size)
 go_wp2
 go_ret2
 exact ⟨rfl, hB1⟩
theorem rint_arg (s : Bool) (a : Option Addr) (n c : Nat) (x : Option Int) (w : World) (ha : Arg w s a n x) :
 Calls Tryz.prog 84 #[.agg #[.bool s, .slice a n c]] w (IntPost w (intO x)) := by
 cases x with
 | none => exact rint_no s a n c w ha
 | some z =>
   by_cases hz : -9223372036854775808 ≤ z ∧ z ≤ 9223372036854775807
   · rw [show intO (some z) = some z from if_pos hz]; exact rint_fit s a n c z hz.1 hz.2 w ha.1
   · rw [show intO (some z) = none from if_neg hz]; exact rint_unfit s a n c z ha.2 (by omega) w ha.1

set_option maxRecDepth 100000 in
set_option maxHeartbeats 2000000 in
theorem rcmp_any (sa sb : Bool) (aa ab : Option Addr) (na nb ca cb : Nat) (za zb : Int) (hna : na ≤ 64) (hnb : nb ≤ 64) (w : World) (ha : IsN w sa aa na za) (hb : IsN w sb ab nb zb) :
 Calls Tryz.prog 81 #[.agg #[.bool sa, .slice aa na ca], .agg #[.bool sb, .slice ab nb cb]] w fun e w' => e = .returned (.int .i64 (cmpZ za zb)) ∧ Below w.heap.size w w' := by
 have hpost : (sa = true ∧ sb = true ∧ cmpN zb.natAbs za.natAbs = cmpZ za zb) ∨ (sa = true ∧ sb = false ∧ cmpZ za zb = -1) ∨ (sa = false ∧ sb = true ∧ cmpZ za zb = 1) ∨ (sa = false ∧ sb = false ∧ cmpN za.natAbs zb.natAbs = cmpZ za zb) := by
  have h1 := ha.sign
  have h2 := hb.sign
  cases sa <;> cases sb
  · have e1 : ¬ za < 0 := by intro h; simp [h] at h1
    have e2 : ¬ zb < 0 := by intro h; simp [h] at h2
    refine .inr (.inr (.inr ⟨rfl, rfl, ?_⟩)); rw [cmpN_cast]; congr 1 <;> omega
  · have e1 : ¬ za < 0 := by intro h; simp [h] at h1
    have e2 : zb < 0 := by simpa using h2.symm
    refine .inr (.inr (.inl ⟨rfl, rfl, ?_⟩)); unfold cmpZ; rw [if_neg (by omega), if_neg (by omega)]
  · have e1 : za < 0 := by simpa using h1.symm
    have e2 : ¬ zb < 0 := by intro h; simp [h] at h2
    refine .inr (.inl ⟨rfl, rfl, ?_⟩); unfold cmpZ; rw [if_pos (by omega)]
  · have e1 : za < 0 := by simpa using h1.symm
    have e2 : zb < 0 := by simpa using h2.symm
    refine .inl ⟨rfl, rfl, ?_⟩; rw [cmpN_cast, ← cmpZ_neg]; congr 1 <;> omega
 have HLA := hide ha.dig.len
 have HLB := hide hb.dig.len
 go_enter Tryz.func81, Tryz.ntmps81
 go_wp2_with fail
 obtain ⟨W0, hW0⟩ : ∃ W0, (w.alloc (Obj.cells #[.bool sa, .slice aa na ca] 25)).alloc (Obj.cells #[.bool sb, .slice ab nb cb] 25) = W0 := ⟨_, rfl⟩
 have bA : Box2 W0 w.heap.size (.bool sa) (.slice aa na ca) := by rw [← hW0]; exact (Box2.new w _ _ _).alloc _
 have bB : Box2 W0 (w.heap.size + 1) (.bool sb) (.slice ab nb cb) := by first | exact box3b hW0 | exact box2b hW0
 have hsz : W0.heap.size = w.heap.size + 2 := by rw [← hW0]; simp
 have hB0 : Below w.heap.size w W0 := by rw [← hW0]; exact ((Below.refl _ w).alloc (Nat.le_refl _) _).alloc (by simp) _
 rw [hW0]
 clear hW0
 refine (rright_yes sa aa na ca za hna _ (ha.below hB0)).mono ?_
 rintro e w1 ⟨rfl, hb1⟩
 have hB1 : Below w.heap.size w w1 := hB0.trans (hb1.mono (by omega))
 have bA1 := bA.below hb1 (by omega)
 have bB1 := bB.below hb1 (by omega)
 obtain ⟨b0, b1, -, -⟩ := bB1
 go_wp2_with fail
 refine (rright_yes sb ab nb cb zb hnb _ (hb.below hB1)).mono ?_
 rintro e w2 ⟨rfl, hb2⟩
 have hB2 : Below w.heap.size w w2 := hB1.trans (hb2.mono hB1.size)
 have bA2 := bA1.below hb2 (by have := hb1.size; omega)
 have bB2 := bB.below (hb1.trans (hb2.mono hb1.size)) (by omega)
 clear b0 b1
 have bA2k := bA2
 have bB2k := bB2
 obtain ⟨a0, a1, -, -⟩ := bA2
 obtain ⟨b0, b1, -, -⟩ := bB2
 have hda := (ha.dig.below hB2).dig
 have hdb := (hb.dig.below hB2).dig
 have HAB := hide (And.intro hda hdb)
 clear hda hdb
 rcases hpost with ⟨rfl, rfl, hp⟩ | ⟨rfl, rfl, hp⟩ | ⟨rfl, rfl, hp⟩ | ⟨rfl, rfl, hp⟩
 · have HP := hide hp
   clear hp
   go_wp2_with fail
   have hcall := rcompare_any ab aa zb.natAbs za.natAbs nb na cb ca (by omega) w2 ⟨HLB.out, HAB.out.2⟩ ⟨HLA.out, HAB.out.1⟩
   refine hcall.mono ?_
   rintro e w3 ⟨rfl, hb3⟩
   rw [HP.out]
   clear hcall
   go_wp2
   go_ret
   exact ⟨rfl, hB2.trans (hb3.mono hB2.size)⟩
 · have HP := hide hp
   clear hp
   go_wp2
   go_ret
   exact ⟨by rw [HP.out]; rfl, hB2⟩
 · have HP := hide hp
   clear hp
   go_wp2
   go_ret
   exact ⟨by rw [HP.out]; rfl, hB2⟩
 · have HP := hide hp
   clear hp
   go_wp2_with fail
   have hcall := rcompare_any aa ab za.natAbs zb.natAbs na nb ca cb (by omega) w2 ⟨HLA.out, HAB.out.1⟩ ⟨HLB.out, HAB.out.2⟩
   refine hcall.mono ?_
   rintro e w3 ⟨rfl, hb3⟩
   rw [HP.out]
   clear hcall
   go_wp2
   go_ret
   exact ⟨rfl, hB2.trans (hb3.mono hB2.size)⟩
end Go.Proofs.YtgenaicmjddjcaaGreatDoor

/- The reference's negated and Sub of any Nums. -/
namespace Go.Proofs.YtgenaicmjddjcaaGreatDoor
open Go.RowKit Go.Shelf

set_option maxRecDepth 100000 in
set_option maxHeartbeats 1000000 in
theorem rneg_any (s : Bool) (a : Option Addr) (n c : Nat) (w : World) :
 Calls Tryz.prog 147 #[.agg #[.bool s, .slice a n c]] w fun e w' => e = .returned (.agg #[.bool (flipB s n), .slice a n c]) ∧ Below w.heap.size w w' := by
 have hB0 := below_alloc' w (Obj.cells #[.bool s, .slice a n c] 25)
 have HB := hide hB0
 clear hB0
 rcases Nat.eq_zero_or_pos n with rfl | hpos
 · cases s
   · go_enter Tryz.func147, Tryz.ntmps147
     go_wp2
     refine bodyPost_ret (v := .agg #[.bool (flipB false 0), .slice a 0 c]) (by simp [results, Tryz.results147, go_sem, flipB]) rfl ⟨rfl, HB.out.trans ((below_alloc' _ _).mono (by simp))⟩
   · go_enter Tryz.func147, Tryz.ntmps147
     go_wp2
     refine bodyPost_ret (v := .agg #[.bool (flipB true 0), .slice a 0 c]) (by simp [results, Tryz.results147, go_sem, flipB]) rfl ⟨rfl, HB.out.trans ((below_alloc' _ _).mono (by simp))⟩
 · have hp : (0 : Int) < n := by omega
   rw [show flipB s n = !s by simp [flipB, hpos]]
   cases s
   · go_enter Tryz.func147, Tryz.ntmps147
     go_wp2
     refine bodyPost_ret (v := .agg #[.bool (!false), .slice a n c]) (by simp [results, Tryz.results147, go_sem]) rfl ⟨rfl, HB.out.trans ((below_alloc' _ _).mono (by simp))⟩
   · go_enter Tryz.func147, Tryz.ntmps147
     go_wp2
     refine bodyPost_ret (v := .agg #[.bool (!true), .slice a n c]) (by simp [results, Tryz.results147, go_sem]) rfl ⟨rfl, HB.out.trans ((below_alloc' _ _).mono (by simp))⟩
theorem radd_hid (sa sb : Bool) (aa ab : Option Addr) (na nb ca cb : Nat) (x y : Option Int) {O : Option Int} (HO : Hid (addO x y = O)) (w : World) (ha : Arg w sa aa na x) (hb : Arg w sb ab nb y) :
 Calls Tryz.prog 96 #[.agg #[.bool sa, .slice aa na ca], .agg #[.bool sb, .slice ab nb cb]] w (OptPostC w O) := by
 have := radd_argC sa sb aa ab na nb ca cb x y w ha hb
 rw [HO.out] at this; exact this

set_option maxRecDepth 100000 in
set_option maxHeartbeats 2000000 in
theorem rsub_no (sa sb : Bool) (aa ab : Option Addr) (na nb ca cb : Nat) (w : World) (hb : Arg w sb ab nb none) :
 Calls Tryz.prog 124 #[.agg #[.bool sa, .slice aa na ca], .agg #[.bool sb, .slice ab nb cb]] w (NoPost w) := by
 go_enter Tryz.func124, Tryz.ntmps124
 go_wp2_with fail
 obtain ⟨W0, hW0⟩ : ∃ W0, ((w.alloc (Obj.cells #[.bool sa, .slice aa na ca] 25)).alloc (Obj.cells #[.bool sb, .slice ab nb cb] 25)).alloc (Obj.cells #[.bool false, .slice none 0 0] 25) = W0 := ⟨_, rfl⟩
 have bC : Box2 W0 (w.heap.size + 1 + 1) (.bool false) (.slice none 0 0) := box3c hW0
 have hsz : W0.heap.size = w.heap.size + 3 := by rw [← hW0]; simp
 have hB0 : Below w.heap.size w W0 := by rw [← hW0]; exact (((Below.refl _ w).alloc (Nat.le_refl _) _).alloc (by simp) _).alloc (by simp; omega) _
 rw [hW0]
 clear hW0
 refine (rright_arg sb ab nb cb none _ (hb.below hB0)).mono ?_
 rintro e w1 ⟨rfl, hb1⟩
 have hB1 : Below w.heap.size w w1 := hB0.trans (hb1.mono (by omega))
 have bC1 := bC.below hb1 (by omega)
 have K := hide (no_store bC1 (by omega) hB1)
 obtain ⟨r0, r1, z0, z1⟩ := bC1
 go_wp2
 obtain ⟨⟨q0, q1, -, -⟩, hBB⟩ := K.out
 exact bodyPost_ret (v := .tuple #[.agg #[.bool false, .slice none 0 0], .bool false]) (by simp [results, Tryz.results124, go_sem, q0, q1]) rfl ⟨rfl, hBB⟩


set_option maxRecDepth 100000 in
set_option maxHeartbeats 2000000 in
theorem rsub_right (sa sb : Bool) (aa ab : Option Addr) (na nb ca cb : Nat) (x O : Option Int) (zb : Int) (hnb : nb ≤ 64) (w : World) (ha : Arg w sa aa na x) (hb : IsN w sb ab nb zb) (HO : Hid (addO x (some (-zb)) = O)) :
 Calls Tryz.prog 124 #[.agg #[.bool sa, .slice aa na ca], .agg #[.bool sb, .slice ab nb cb]] w (OptPostC w O) := by
 go_enter Tryz.func124, Tryz.ntmps124
 go_wp2_with fail
 obtain ⟨W0, hW0⟩ : ∃ W0, ((w.alloc (Obj.cells #[.bool sa, .slice aa na ca] 25)).alloc (Obj.cells #[.bool sb, .slice ab nb cb] 25)).alloc (Obj.cells #[.bool false, .slice none 0 0] 25) = W0 := ⟨_, rfl⟩
 have bA : Box2 W0 w.heap.size (.bool sa) (.slice aa na ca) := by rw [← hW0]; exact ((Box2.new w _ _ _).alloc _).alloc _
 have bB : Box2 W0 (w.heap.size + 1) (.bool sb) (.slice ab nb cb) := by first | exact box3b hW0 | exact box2b hW0
 have bC : Box2 W0 (w.heap.size + 1 + 1) (.bool false) (.slice none 0 0) := box3c hW0
 have hsz : W0.heap.size = w.heap.size + 3 := by rw [← hW0]; simp
 have hB0 : Below w.heap.size w W0 := by rw [← hW0]; exact (((Below.refl _ w).alloc (Nat.le_refl _) _).alloc (by simp) _).alloc (by simp; omega) _
 rw [hW0]
 clear hW0
 refine (rright_arg sb ab nb cb (some zb) _ ⟨hb.below hB0, hnb⟩).mono ?_
 rintro e w2 ⟨rfl, hb1⟩
 have hB2 : Below w.heap.size w w2 := hB0.trans (hb1.mono (by omega))
 have bA2 := bA.below hb1 (by omega)
 have bB2 := bB.below hb1 (by omega)
 have bC2k := bC.below hb1 (by omega)
 have bC2 := bC2k
 obtain ⟨a0, a1, -, -⟩ := bA2
 obtain ⟨b0, b1, -, -⟩ := bB2
 obtain ⟨r0, r1, z0, z1⟩ := bC2
 go_wp2_with fail
 have hlt2 : w.heap.size + 1 + 1 < w2.heap.size := lt_of_cell r0
 go_region_held3 (fun w' => w'.cell? ⟨w.heap.size, 0, none⟩ = some (.bool sa) ∧ w'.cell? ⟨w.heap.size, 1, none⟩ = some (.slice aa na ca) ∧ w'.cell? ⟨w.heap.size + 1, 0, none⟩ = some (.bool sb) ∧ w'.cell? ⟨w.heap.size + 1, 1, none⟩ = some (.slice ab nb cb))
  (first | exact ⟨a0, a1, b0, b1⟩ | exact ⟨a0', a1', b0', b1'⟩ | exact ⟨a0'', a1'', b0'', b1''⟩ | (refine ⟨?_, ?_, ?_, ?_⟩ <;> (rw [World.cell?_setCell_far _ _ _ _ (by first | omega | (simp; done) | (simp; omega)), World.cell?_setCell_far _ _ _ _ (by first | omega | (simp; done) | (simp; omega))]; assumption)) | go_keep)
  (first
    | (go_at_call 147; refine (rneg_any sb ab nb cb _).mono ?_; rintro e w4 ⟨rfl, hb4⟩; have a0' := (hb4.cell (p := ⟨w.heap.size, 0, none⟩) (by simp; omega)).trans a0; have a1' := (hb4.cell (p := ⟨w.heap.size, 1, none⟩) (by simp; omega)).trans a1; have b0' := (hb4.cell (p := ⟨w.heap.size + 1, 0, none⟩) (by simp; omega)).trans b0; have b1' := (hb4.cell (p := ⟨w.heap.size + 1, 1, none⟩) (by simp; omega)).trans b1; have bC4 := (bC2k.below (Below.drew (Below.refl _ _)) bC2k.lt : Box2 w2.drew _ _ _).below hb4 bC2k.lt; have hB4 : Below w.heap.size w w4 := hB2.drew.trans (hb4.mono hB2.size))
    | (go_at_call 96; refine (radd_hid sa (flipB sb nb) aa ab na nb ca cb x (some (-zb)) HO _ (ha.below hB4) ⟨(hb.below hB4).neg, hnb⟩).mono ?_; rintro e w5 ⟨s4, a4, n4, cap4, rfl, hn4, h64, hf4, hb5, hl4⟩; have a0'' := (hb5.cell (p := ⟨w.heap.size, 0, none⟩) (lt_of_cell a0')).trans a0'; have a1'' := (hb5.cell (p := ⟨w.heap.size, 1, none⟩) (lt_of_cell a1')).trans a1'; have b0'' := (hb5.cell (p := ⟨w.heap.size + 1, 0, none⟩) (lt_of_cell b0')).trans b0'; have b1'' := (hb5.cell (p := ⟨w.heap.size + 1, 1, none⟩) (lt_of_cell b1')).trans b1'; obtain ⟨r0'', r1'', z0'', z1''⟩ := bC4.below hb5 bC4.lt))
 have hs4 := hb4.size
 have hBw : Below w.heap.size w w5 := hB4.trans (hb5.mono hB4.size)
 have hne : n4 = 0 ∨ ∀ ad, a4 = some ad → ad.block ≠ w.heap.size + 1 + 1 := hf4.imp id fun h ad e => by have := h ad e; simp at hs4; omega
 have hfw : n4 = 0 ∨ Fresh w a4 := hf4.imp id fun h ad e => by have := h ad e; simp at hs4; omega
 obtain ⟨hbx, hN, hBB⟩ := num_store (cap := cap4) (bC4.below hb5 bC4.lt) (by omega) hBw hn4 hne
 obtain ⟨q0, q1, -, -⟩ := hbx
 clear a0 a1 b0 b1 a0' a1' b0' b1' a0'' a1'' b0'' b1'' r0 r1 z0 z1 r0'' r1'' z0'' z1''
 go_wp2
 exact bodyPost_ret (v := .tuple #[.agg #[.bool s4, .slice a4 n4 cap4], .bool O.isSome]) (by simp [results, Tryz.results124, go_sem, q0, q1]) rfl ⟨_, _, _, _, rfl, hN, h64, hfw, hBB, hl4⟩
theorem rsub_argC (sa sb : Bool) (aa ab : Option Addr) (na nb ca cb : Nat) (x y : Option Int) (w : World) (ha : Arg w sa aa na x) (hb : Arg w sb ab nb y) :
 Calls Tryz.prog 124 #[.agg #[.bool sa, .slice aa na ca], .agg #[.bool sb, .slice ab nb cb]] w (OptPostC w (subO x y)) := by
 cases y with
 | none => exact (rsub_no sa sb aa ab na nb ca cb w hb).mono fun e w' h => h.optC (subO_none x)
 | some v => rw [subO_eq]; exact rsub_right sa sb aa ab na nb ca cb x _ v hb.2 w ha hb.1 (hide rfl)
end Go.Proofs.YtgenaicmjddjcaaGreatDoor
