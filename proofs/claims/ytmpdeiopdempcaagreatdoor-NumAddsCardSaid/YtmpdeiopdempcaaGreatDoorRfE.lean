/- The reference's signed, whether it fits or not; its Add and Mul of any Nums. -/
import Derived.Test.YtmpdeiopdempcaaGreatDoorRfC
import Derived.Test.YtmpdeiopdempcaaGreatDoorAdM
namespace Go.Proofs.YtmpdeiopdempcaaGreatDoor
open Go.RowKit Go.Shelf

set_option maxRecDepth 100000 in
set_option maxHeartbeats 2000000 in
theorem rsigned_no (neg : Bool) (a : Option Addr) (L cap : Nat) (f : Nat → Nat) (hL : L ≤ 1099511627776) (hcap : L ≤ cap) (hf : ∀ j, j < L → f j < 4294967296) (w : World) (hd : Dig w a L f) (hun : ¬ dlen (valF f L) ≤ 64) :
    Calls Tryz.prog 32 #[.bool neg, .slice a L cap] w (NoPost w) := by
  have HF := hide hf
  have bC : Box2 (w.alloc (Obj.cells #[Value.bool false, Value.slice none 0 0] 27)) w.heap.size (.bool false) (.slice none 0 0) := Box2.new _ _ _ _
  have hB0 : Below w.heap.size w (w.alloc (Obj.cells #[Value.bool false, Value.slice none 0 0] 27)) := (Below.refl _ w).alloc (Nat.le_refl _) _
  clear hf
  go_enter Tryz.func32, Tryz.ntmps32
  go_wp2_with fail
  obtain ⟨W0, hW0⟩ : ∃ W0, w.alloc (Obj.cells #[Value.bool false, Value.slice none 0 0] 27) = W0 := ⟨_, rfl⟩
  rw [hW0] at bC hB0 ⊢
  clear hW0
  refine (rtrim_any a L cap f hL hcap HF.out W0 (hd.below hB0)).mono ?_
  rintro e w1 ⟨a1, c1, rfl, ha1, hc1, rfl⟩
  obtain ⟨n, hn⟩ : ∃ n, dlen (valF f L) = n := ⟨_, rfl⟩
  rw [hn] at ha1 hc1 hun ⊢
  clear hn ha1
  have hun' : (64 : Int) < n := by omega
  have K := hide (no_store bC (by omega) hB0)
  obtain ⟨r0, r1, z0, z1⟩ := bC
  go_wp2
  obtain ⟨⟨q0, q1, -, -⟩, hBB⟩ := K.out
  exact bodyPost_ret (v := .tuple #[.agg #[.bool false, .slice none 0 0], .bool false]) (by simp [results, Tryz.results32, go_sem, q0, q1]) rfl ⟨rfl, hBB⟩
theorem rsigned_opt (neg : Bool) (a : Option Addr) (L cap : Nat) (f : Nat → Nat) (hL : L ≤ 1099511627776) (hcap : L ≤ cap) (hf : ∀ j, j < L → f j < 4294967296) (w : World) (hd : Dig w a L f) :
    Calls Tryz.prog 32 #[.bool neg, .slice a L cap] w (OptPost w (fitO (signed neg (valF f L)))) := by
  by_cases h : dlen (valF f L) ≤ 64
  · have h' : dlen (signed neg (valF f L)).natAbs ≤ 64 := by rw [signed_abs]; exact h
    rw [fitO_some h']
    exact (rsigned_any neg a L cap f hL hcap hf w hd h).mono fun e w' hp => hp.opt h'
  · rw [fitO_none (by rw [signed_abs]; exact h)]
    exact (rsigned_no neg a L cap f hL hcap hf w hd h).mono fun e w' hp => hp.opt rfl
theorem rsigned_num (neg : Bool) (a : Option Addr) (n cap v : Nat) (hcap : n ≤ cap) (hn : n ≤ 1099511627776) (w : World) (hd : IsD w a n v) {O : Option Int} (HO : Hid (fitO (signed neg v) = O)) :
    Calls Tryz.prog 32 #[.bool neg, .slice a n cap] w (OptPost w O) := by
  have := rsigned_opt neg a n cap (dgt v) hn hcap (fun _ _ => dgt_lt _ _) w hd.dig
  rw [hd.len, valF_dlen, ← hd.len, HO.out] at this
  exact this
theorem len_le_of {x y na nb m : Nat} (ha : na = dlen x) (hb : nb = dlen y) (hna : na ≤ 64) (hnb : nb ≤ 64) (h : m = dlen (x + y) ∨ m = dlen (x * y) ∨ m = dlen (x - y) ∨ m = dlen (y - x)) : m ≤ 1099511627776 := by
  rcases h with rfl | rfl | rfl | rfl
  · exact len_sum ha hb hna hnb
  · exact len_mul ha hb hna hnb
  · have := dlen_mono (Nat.sub_le x y); omega
  · have := dlen_mono (Nat.sub_le y x); omega

set_option maxRecDepth 100000 in
set_option maxHeartbeats 2000000 in
theorem radd_no_a (sa sb : Bool) (aa ab : Option Addr) (na nb ca cb : Nat) (w : World) (ha : Arg w sa aa na none) :
    Calls Tryz.prog 33 #[.agg #[.bool sa, .slice aa na ca], .agg #[.bool sb, .slice ab nb cb]] w (NoPost w) := by
  go_enter Tryz.func33, Tryz.ntmps33
  go_wp2_with fail
  obtain ⟨W0, hW0⟩ : ∃ W0, ((w.alloc (Obj.cells #[Value.bool sa, Value.slice aa na ca] 27)).alloc (Obj.cells #[Value.bool sb, Value.slice ab nb cb] 27)).alloc (Obj.cells #[Value.bool false, Value.slice none 0 0] 27) = W0 := ⟨_, rfl⟩
  have bB : Box2 W0 (w.heap.size + 1) (.bool sb) (.slice ab nb cb) := by
    have := (Box2.new (w.alloc (Obj.cells #[Value.bool sa, Value.slice aa na ca] 27)) (.bool sb) (.slice ab nb cb) 27).alloc (Obj.cells #[Value.bool false, Value.slice none 0 0] 27)
    rw [World.size_alloc] at this; rw [← hW0]; exact this
  have bC : Box2 W0 (w.heap.size + 1 + 1) (.bool false) (.slice none 0 0) := by
    have := Box2.new ((w.alloc (Obj.cells #[Value.bool sa, Value.slice aa na ca] 27)).alloc (Obj.cells #[Value.bool sb, Value.slice ab nb cb] 27)) (.bool false) (.slice none 0 0) 27
    rw [World.size_alloc, World.size_alloc] at this; rw [← hW0]; exact this
  have hsz : W0.heap.size = w.heap.size + 3 := by rw [← hW0]; simp
  have hB0 : Below w.heap.size w W0 := by rw [← hW0]; exact (((Below.refl _ w).alloc (Nat.le_refl _) _).alloc (by simp) _).alloc (by simp; omega) _
  rw [hW0]
  clear hW0
  refine (rright_arg sa aa na ca none _ (ha.below hB0)).mono ?_
  rintro e w1 ⟨rfl, hb1⟩
  have hB1 : Below w.heap.size w w1 := hB0.trans (hb1.mono (by omega))
  have bC1 := bC.below hb1 (by omega)
  have K := hide (no_store bC1 (by omega) hB1)
  obtain ⟨r0, r1, z0, z1⟩ := bC1
  go_wp2
  obtain ⟨⟨q0, q1, -, -⟩, hBB⟩ := K.out
  exact bodyPost_ret (v := .tuple #[.agg #[.bool false, .slice none 0 0], .bool false]) (by simp [results, Tryz.results33, go_sem, q0, q1]) rfl ⟨rfl, hBB⟩

set_option maxRecDepth 100000 in
set_option maxHeartbeats 2000000 in
theorem radd_no_b (sa sb : Bool) (aa ab : Option Addr) (na nb ca cb : Nat) (z : Int) (w : World) (ha : Arg w sa aa na (some z)) (hb : Arg w sb ab nb none) :
    Calls Tryz.prog 33 #[.agg #[.bool sa, .slice aa na ca], .agg #[.bool sb, .slice ab nb cb]] w (NoPost w) := by
  go_enter Tryz.func33, Tryz.ntmps33
  go_wp2_with fail
  obtain ⟨W0, hW0⟩ : ∃ W0, ((w.alloc (Obj.cells #[Value.bool sa, Value.slice aa na ca] 27)).alloc (Obj.cells #[Value.bool sb, Value.slice ab nb cb] 27)).alloc (Obj.cells #[Value.bool false, Value.slice none 0 0] 27) = W0 := ⟨_, rfl⟩
  have bB : Box2 W0 (w.heap.size + 1) (.bool sb) (.slice ab nb cb) := by
    have := (Box2.new (w.alloc (Obj.cells #[Value.bool sa, Value.slice aa na ca] 27)) (.bool sb) (.slice ab nb cb) 27).alloc (Obj.cells #[Value.bool false, Value.slice none 0 0] 27)
    rw [World.size_alloc] at this; rw [← hW0]; exact this
  have bC : Box2 W0 (w.heap.size + 1 + 1) (.bool false) (.slice none 0 0) := by
    have := Box2.new ((w.alloc (Obj.cells #[Value.bool sa, Value.slice aa na ca] 27)).alloc (Obj.cells #[Value.bool sb, Value.slice ab nb cb] 27)) (.bool false) (.slice none 0 0) 27
    rw [World.size_alloc, World.size_alloc] at this; rw [← hW0]; exact this
  have hsz : W0.heap.size = w.heap.size + 3 := by rw [← hW0]; simp
  have hB0 : Below w.heap.size w W0 := by rw [← hW0]; exact (((Below.refl _ w).alloc (Nat.le_refl _) _).alloc (by simp) _).alloc (by simp; omega) _
  rw [hW0]
  clear hW0
  refine (rright_arg sa aa na ca (some z) _ (ha.below hB0)).mono ?_
  rintro e w1 ⟨rfl, hb1⟩
  have hB1 : Below w.heap.size w w1 := hB0.trans (hb1.mono (by omega))
  have bB1 := bB.below hb1 (by omega)
  have bC1 := bC.below hb1 (by omega)
  obtain ⟨b0, b1, -, -⟩ := bB1
  go_wp2_with fail
  refine (rright_arg sb ab nb cb none _ (hb.below hB1)).mono ?_
  rintro e w2 ⟨rfl, hb2⟩
  have hB2 : Below w.heap.size w w2 := hB1.trans (hb2.mono hB1.size)
  have bC2 := bC1.below hb2 (by have := hb1.size; omega)
  clear b0 b1
  have K := hide (no_store bC2 (by omega) hB2)
  obtain ⟨r0, r1, z0, z1⟩ := bC2
  go_wp2
  obtain ⟨⟨q0, q1, -, -⟩, hBB⟩ := K.out
  exact bodyPost_ret (v := .tuple #[.agg #[.bool false, .slice none 0 0], .bool false]) (by simp [results, Tryz.results33, go_sem, q0, q1]) rfl ⟨rfl, hBB⟩

set_option maxRecDepth 100000 in
set_option maxHeartbeats 2000000 in
theorem rmul_no_a (sa sb : Bool) (aa ab : Option Addr) (na nb ca cb : Nat) (w : World) (ha : Arg w sa aa na none) :
    Calls Tryz.prog 35 #[.agg #[.bool sa, .slice aa na ca], .agg #[.bool sb, .slice ab nb cb]] w (NoPost w) := by
  go_enter Tryz.func35, Tryz.ntmps35
  go_wp2_with fail
  obtain ⟨W0, hW0⟩ : ∃ W0, ((w.alloc (Obj.cells #[Value.bool sa, Value.slice aa na ca] 27)).alloc (Obj.cells #[Value.bool sb, Value.slice ab nb cb] 27)).alloc (Obj.cells #[Value.bool false, Value.slice none 0 0] 27) = W0 := ⟨_, rfl⟩
  have bB : Box2 W0 (w.heap.size + 1) (.bool sb) (.slice ab nb cb) := by
    have := (Box2.new (w.alloc (Obj.cells #[Value.bool sa, Value.slice aa na ca] 27)) (.bool sb) (.slice ab nb cb) 27).alloc (Obj.cells #[Value.bool false, Value.slice none 0 0] 27)
    rw [World.size_alloc] at this; rw [← hW0]; exact this
  have bC : Box2 W0 (w.heap.size + 1 + 1) (.bool false) (.slice none 0 0) := by
    have := Box2.new ((w.alloc (Obj.cells #[Value.bool sa, Value.slice aa na ca] 27)).alloc (Obj.cells #[Value.bool sb, Value.slice ab nb cb] 27)) (.bool false) (.slice none 0 0) 27
    rw [World.size_alloc, World.size_alloc] at this; rw [← hW0]; exact this
  have hsz : W0.heap.size = w.heap.size + 3 := by rw [← hW0]; simp
  have hB0 : Below w.heap.size w W0 := by rw [← hW0]; exact (((Below.refl _ w).alloc (Nat.le_refl _) _).alloc (by simp) _).alloc (by simp; omega) _
  rw [hW0]
  clear hW0
  refine (rright_arg sa aa na ca none _ (ha.below hB0)).mono ?_
  rintro e w1 ⟨rfl, hb1⟩
  have hB1 : Below w.heap.size w w1 := hB0.trans (hb1.mono (by omega))
  have bC1 := bC.below hb1 (by omega)
  have K := hide (no_store bC1 (by omega) hB1)
  obtain ⟨r0, r1, z0, z1⟩ := bC1
  go_wp2
  obtain ⟨⟨q0, q1, -, -⟩, hBB⟩ := K.out
  exact bodyPost_ret (v := .tuple #[.agg #[.bool false, .slice none 0 0], .bool false]) (by simp [results, Tryz.results35, go_sem, q0, q1]) rfl ⟨rfl, hBB⟩

set_option maxRecDepth 100000 in
set_option maxHeartbeats 2000000 in
theorem rmul_no_b (sa sb : Bool) (aa ab : Option Addr) (na nb ca cb : Nat) (z : Int) (w : World) (ha : Arg w sa aa na (some z)) (hb : Arg w sb ab nb none) :
    Calls Tryz.prog 35 #[.agg #[.bool sa, .slice aa na ca], .agg #[.bool sb, .slice ab nb cb]] w (NoPost w) := by
  go_enter Tryz.func35, Tryz.ntmps35
  go_wp2_with fail
  obtain ⟨W0, hW0⟩ : ∃ W0, ((w.alloc (Obj.cells #[Value.bool sa, Value.slice aa na ca] 27)).alloc (Obj.cells #[Value.bool sb, Value.slice ab nb cb] 27)).alloc (Obj.cells #[Value.bool false, Value.slice none 0 0] 27) = W0 := ⟨_, rfl⟩
  have bB : Box2 W0 (w.heap.size + 1) (.bool sb) (.slice ab nb cb) := by
    have := (Box2.new (w.alloc (Obj.cells #[Value.bool sa, Value.slice aa na ca] 27)) (.bool sb) (.slice ab nb cb) 27).alloc (Obj.cells #[Value.bool false, Value.slice none 0 0] 27)
    rw [World.size_alloc] at this; rw [← hW0]; exact this
  have bC : Box2 W0 (w.heap.size + 1 + 1) (.bool false) (.slice none 0 0) := by
    have := Box2.new ((w.alloc (Obj.cells #[Value.bool sa, Value.slice aa na ca] 27)).alloc (Obj.cells #[Value.bool sb, Value.slice ab nb cb] 27)) (.bool false) (.slice none 0 0) 27
    rw [World.size_alloc, World.size_alloc] at this; rw [← hW0]; exact this
  have hsz : W0.heap.size = w.heap.size + 3 := by rw [← hW0]; simp
  have hB0 : Below w.heap.size w W0 := by rw [← hW0]; exact (((Below.refl _ w).alloc (Nat.le_refl _) _).alloc (by simp) _).alloc (by simp; omega) _
  rw [hW0]
  clear hW0
  refine (rright_arg sa aa na ca (some z) _ (ha.below hB0)).mono ?_
  rintro e w1 ⟨rfl, hb1⟩
  have hB1 : Below w.heap.size w w1 := hB0.trans (hb1.mono (by omega))
  have bB1 := bB.below hb1 (by omega)
  have bC1 := bC.below hb1 (by omega)
  obtain ⟨b0, b1, -, -⟩ := bB1
  go_wp2_with fail
  refine (rright_arg sb ab nb cb none _ (hb.below hB1)).mono ?_
  rintro e w2 ⟨rfl, hb2⟩
  have hB2 : Below w.heap.size w w2 := hB1.trans (hb2.mono hB1.size)
  have bC2 := bC1.below hb2 (by have := hb1.size; omega)
  clear b0 b1
  have K := hide (no_store bC2 (by omega) hB2)
  obtain ⟨r0, r1, z0, z1⟩ := bC2
  go_wp2
  obtain ⟨⟨q0, q1, -, -⟩, hBB⟩ := K.out
  exact bodyPost_ret (v := .tuple #[.agg #[.bool false, .slice none 0 0], .bool false]) (by simp [results, Tryz.results35, go_sem, q0, q1]) rfl ⟨rfl, hBB⟩


set_option maxRecDepth 100000 in
set_option maxHeartbeats 2000000 in
theorem radd_same (sa : Bool) (aa ab : Option Addr) (na nb ca cb : Nat) (za zb : Int) (hna : na ≤ 64) (hnb : nb ≤ 64) (w : World) (ha : IsN w sa aa na za) (hb : IsN w sa ab nb zb) {O : Option Int} (HO : Hid (fitO (signed sa (za.natAbs + zb.natAbs)) = O)) :
    Calls Tryz.prog 33 #[.agg #[.bool sa, .slice aa na ca], .agg #[.bool sa, .slice ab nb cb]] w (OptPost w O) := by
  have HLA := hide ha.dig.len
  have HLB := hide hb.dig.len
  have HLE : Hid (∀ m, (m = dlen (za.natAbs + zb.natAbs) ∨ m = dlen (za.natAbs * zb.natAbs) ∨ m = dlen (za.natAbs - zb.natAbs) ∨ m = dlen (zb.natAbs - za.natAbs)) → m ≤ 1099511627776) := fun m h => len_le_of ha.dig.len hb.dig.len hna hnb h
  go_enter Tryz.func33, Tryz.ntmps33
  go_wp2_with fail
  obtain ⟨W0, hW0⟩ : ∃ W0, ((w.alloc (Obj.cells #[Value.bool sa, Value.slice aa na ca] 27)).alloc (Obj.cells #[Value.bool sa, Value.slice ab nb cb] 27)).alloc (Obj.cells #[Value.bool false, Value.slice none 0 0] 27) = W0 := ⟨_, rfl⟩
  have bA : Box2 W0 w.heap.size (.bool sa) (.slice aa na ca) := by rw [← hW0]; exact ((Box2.new w _ _ _).alloc _).alloc _
  have bB : Box2 W0 (w.heap.size + 1) (.bool sa) (.slice ab nb cb) := by
    have := (Box2.new (w.alloc (Obj.cells #[Value.bool sa, Value.slice aa na ca] 27)) (.bool sa) (.slice ab nb cb) 27).alloc (Obj.cells #[Value.bool false, Value.slice none 0 0] 27)
    rw [World.size_alloc] at this; rw [← hW0]; exact this
  have bC : Box2 W0 (w.heap.size + 1 + 1) (.bool false) (.slice none 0 0) := by
    have := Box2.new ((w.alloc (Obj.cells #[Value.bool sa, Value.slice aa na ca] 27)).alloc (Obj.cells #[Value.bool sa, Value.slice ab nb cb] 27)) (.bool false) (.slice none 0 0) 27
    rw [World.size_alloc, World.size_alloc] at this; rw [← hW0]; exact this
  have hsz : W0.heap.size = w.heap.size + 3 := by rw [← hW0]; simp
  have hB0 : Below w.heap.size w W0 := by rw [← hW0]; exact (((Below.refl _ w).alloc (Nat.le_refl _) _).alloc (by simp) _).alloc (by simp; omega) _
  rw [hW0]
  clear hW0
  refine (rright_arg sa aa na ca (some za) _ ⟨ha.below hB0, hna⟩).mono ?_
  rintro e w1 ⟨rfl, hb1⟩
  have hB1 : Below w.heap.size w w1 := hB0.trans (hb1.mono (by omega))
  have bA1 := bA.below hb1 (by omega)
  have bB1 := bB.below hb1 (by omega)
  have bC1 := bC.below hb1 (by omega)
  obtain ⟨b0, b1, -, -⟩ := bB1
  go_wp2_with fail
  refine (rright_arg sa ab nb cb (some zb) _ ⟨hb.below hB1, hnb⟩).mono ?_
  rintro e w2 ⟨rfl, hb2⟩
  have hB2 : Below w.heap.size w w2 := hB1.trans (hb2.mono hB1.size)
  have bA2 := bA1.below hb2 (by have := hb1.size; omega)
  have bB2 := bB.below (hb1.trans (hb2.mono hb1.size)) (by omega)
  have bC2 := bC1.below hb2 (by have := hb1.size; omega)
  clear b0 b1
  have bC2k := bC2
  have bA2k := bA2
  have bB2k := bB2
  obtain ⟨a0, a1, -, -⟩ := bA2
  obtain ⟨b0, b1, -, -⟩ := bB2
  obtain ⟨r0, r1, z0, z1⟩ := bC2
  go_wp2_with fail
  have hX : IsD w2.drew aa na za.natAbs := (ha.dig.below hB2).below (Below.drew (Below.refl _ _))
  have hY : IsD w2.drew ab nb zb.natAbs := (hb.dig.below hB2).below (Below.drew (Below.refl _ _))
  have hlt2 : w.heap.size + 1 + 1 < w2.heap.size := lt_of_cell r0
  go_region_held3 (fun w' => w'.cell? ⟨w.heap.size, 0, none⟩ = some (.bool sa) ∧ w'.cell? ⟨w.heap.size, 1, none⟩ = some (.slice aa na ca) ∧ w'.cell? ⟨w.heap.size + 1, 1, none⟩ = some (.slice ab nb cb))
    (first | exact ⟨a0, a1, b1⟩ | exact ⟨a0', a1', b1'⟩ | exact ⟨a0'', a1'', b1''⟩ | (refine ⟨?_, ?_, ?_⟩ <;> (rw [World.cell?_setCell_far _ _ _ _ (by first | omega | (simp; done) | (simp; omega)), World.cell?_setCell_far _ _ _ _ (by first | omega | (simp; done) | (simp; omega))]; assumption)) | go_keep)
    (first
      | (go_at_call 44; refine (rplus_any aa ab _ _ na nb ca cb (by omega) (by omega) _ hX hY).mono ?_; rintro e w4 ⟨a3, n3, cap3, rfl, hd3, hcap3, hfr3, hb4⟩; have a0' := (hb4.cell (p := ⟨w.heap.size, 0, none⟩) (by simp; omega)).trans a0; have a1' := (hb4.cell (p := ⟨w.heap.size, 1, none⟩) (by simp; omega)).trans a1; have b1' := (hb4.cell (p := ⟨w.heap.size + 1, 1, none⟩) (by simp; omega)).trans b1; have bC4 := (bC2k.below (Below.drew (Below.refl _ _)) bC2k.lt : Box2 w2.drew _ _ _).below hb4 bC2k.lt)
      | (go_at_call 32; refine (rsigned_num sa a3 n3 cap3 _ hcap3 (HLE.out _ (by rw [hd3.len]; simp)) _ hd3 HO).mono ?_; rintro e w5 ⟨s4, a4, n4, cap4, rfl, hn4, h64, hf4, hb5⟩; have a0'' := (hb5.cell (p := ⟨w.heap.size, 0, none⟩) (lt_of_cell a0')).trans a0'; have a1'' := (hb5.cell (p := ⟨w.heap.size, 1, none⟩) (lt_of_cell a1')).trans a1'; have b1'' := (hb5.cell (p := ⟨w.heap.size + 1, 1, none⟩) (lt_of_cell b1')).trans b1'; obtain ⟨r0'', r1'', z0'', z1''⟩ := bC4.below hb5 bC4.lt))
  have hs4 := hb4.size
  have hBw : Below w.heap.size w w5 := (hB2.drew.trans (hb4.mono hB2.size)).trans (hb5.mono (Nat.le_trans hB2.size hb4.size))
  have hne : n4 = 0 ∨ ∀ ad, a4 = some ad → ad.block ≠ w.heap.size + 1 + 1 := hf4.imp id fun h ad e => by have := h ad e; simp at hs4; omega
  have hfw : n4 = 0 ∨ Fresh w a4 := hf4.imp id fun h ad e => by have := h ad e; simp at hs4; omega
  obtain ⟨hbx, hN, hBB⟩ := num_store (cap := cap4) (bC4.below hb5 bC4.lt) (by omega) hBw hn4 hne
  obtain ⟨q0, q1, -, -⟩ := hbx
  clear a0 a1 b1 a0' a1' b1' a0'' a1'' b1'' r0 r1 z0 z1 r0'' r1'' z0'' z1''
  go_wp2
  exact bodyPost_ret (v := .tuple #[.agg #[.bool s4, .slice a4 n4 cap4], .bool O.isSome]) (by simp [results, Tryz.results33, go_sem, q0, q1]) rfl ⟨_, _, _, _, rfl, hN, h64, hfw, hBB⟩

set_option maxRecDepth 100000 in
set_option maxHeartbeats 2000000 in
theorem radd_lt (sa sb : Bool) (hs : (sa == sb) = false) (aa ab : Option Addr) (na nb ca cb : Nat) (za zb : Int) (hna : na ≤ 64) (hnb : nb ≤ 64) (hlt : za.natAbs < zb.natAbs) (w : World) (ha : IsN w sa aa na za) (hb : IsN w sb ab nb zb) {O : Option Int} (HO : Hid (fitO (signed sb (zb.natAbs - za.natAbs)) = O)) :
    Calls Tryz.prog 33 #[.agg #[.bool sa, .slice aa na ca], .agg #[.bool sb, .slice ab nb cb]] w (OptPost w O) := by
  have HLA := hide ha.dig.len
  have HLB := hide hb.dig.len
  have HLE : Hid (∀ m, (m = dlen (za.natAbs + zb.natAbs) ∨ m = dlen (za.natAbs * zb.natAbs) ∨ m = dlen (za.natAbs - zb.natAbs) ∨ m = dlen (zb.natAbs - za.natAbs)) → m ≤ 1099511627776) := fun m h => len_le_of ha.dig.len hb.dig.len hna hnb h
  have hcmp : cmpN za.natAbs zb.natAbs < 0 := by rw [cmpN_lt hlt]; decide
  go_enter Tryz.func33, Tryz.ntmps33
  go_wp2_with fail
  obtain ⟨W0, hW0⟩ : ∃ W0, ((w.alloc (Obj.cells #[Value.bool sa, Value.slice aa na ca] 27)).alloc (Obj.cells #[Value.bool sb, Value.slice ab nb cb] 27)).alloc (Obj.cells #[Value.bool false, Value.slice none 0 0] 27) = W0 := ⟨_, rfl⟩
  have bA : Box2 W0 w.heap.size (.bool sa) (.slice aa na ca) := by rw [← hW0]; exact ((Box2.new w _ _ _).alloc _).alloc _
  have bB : Box2 W0 (w.heap.size + 1) (.bool sb) (.slice ab nb cb) := by
    have := (Box2.new (w.alloc (Obj.cells #[Value.bool sa, Value.slice aa na ca] 27)) (.bool sb) (.slice ab nb cb) 27).alloc (Obj.cells #[Value.bool false, Value.slice none 0 0] 27)
    rw [World.size_alloc] at this; rw [← hW0]; exact this
  have bC : Box2 W0 (w.heap.size + 1 + 1) (.bool false) (.slice none 0 0) := by
    have := Box2.new ((w.alloc (Obj.cells #[Value.bool sa, Value.slice aa na ca] 27)).alloc (Obj.cells #[Value.bool sb, Value.slice ab nb cb] 27)) (.bool false) (.slice none 0 0) 27
    rw [World.size_alloc, World.size_alloc] at this; rw [← hW0]; exact this
  have hsz : W0.heap.size = w.heap.size + 3 := by rw [← hW0]; simp
  have hB0 : Below w.heap.size w W0 := by rw [← hW0]; exact (((Below.refl _ w).alloc (Nat.le_refl _) _).alloc (by simp) _).alloc (by simp; omega) _
  rw [hW0]
  clear hW0
  refine (rright_arg sa aa na ca (some za) _ ⟨ha.below hB0, hna⟩).mono ?_
  rintro e w1 ⟨rfl, hb1⟩
  have hB1 : Below w.heap.size w w1 := hB0.trans (hb1.mono (by omega))
  have bA1 := bA.below hb1 (by omega)
  have bB1 := bB.below hb1 (by omega)
  have bC1 := bC.below hb1 (by omega)
  obtain ⟨b0, b1, -, -⟩ := bB1
  go_wp2_with fail
  refine (rright_arg sb ab nb cb (some zb) _ ⟨hb.below hB1, hnb⟩).mono ?_
  rintro e w2 ⟨rfl, hb2⟩
  have hB2 : Below w.heap.size w w2 := hB1.trans (hb2.mono hB1.size)
  have bA2 := bA1.below hb2 (by have := hb1.size; omega)
  have bB2 := bB.below (hb1.trans (hb2.mono hb1.size)) (by omega)
  have bC2 := bC1.below hb2 (by have := hb1.size; omega)
  clear b0 b1
  have bC2k := bC2
  have bA2k := bA2
  have bB2k := bB2
  obtain ⟨a0, a1, -, -⟩ := bA2
  obtain ⟨b0, b1, -, -⟩ := bB2
  obtain ⟨r0, r1, z0, z1⟩ := bC2
  go_wp2_with fail
  refine (rcompare_any aa ab za.natAbs zb.natAbs na nb ca cb (by omega) w2 (ha.dig.below hB2) (hb.dig.below hB2)).mono ?_
  rintro e w3 ⟨rfl, hb3⟩
  have hB2 : Below w.heap.size w w3 := hB2.trans (hb3.mono hB2.size)
  have bA2 := bA2k.below hb3 bA2k.lt
  have bB2 := bB2k.below hb3 bB2k.lt
  have bC2 := bC2k.below hb3 bC2k.lt
  clear a0 a1 b0 b1 r0 r1 z0 z1 bA2k bB2k bC2k
  have bC2k := bC2
  obtain ⟨a0, a1, -, -⟩ := bA2
  obtain ⟨b0, b1, -, -⟩ := bB2
  obtain ⟨r0, r1, z0, z1⟩ := bC2
  go_wp2_with fail
  have hX : IsD w3.drew ab nb zb.natAbs := (hb.dig.below hB2).below (Below.drew (Below.refl _ _))
  have hY : IsD w3.drew aa na za.natAbs := (ha.dig.below hB2).below (Below.drew (Below.refl _ _))
  have hlt2 : w.heap.size + 1 + 1 < w3.heap.size := lt_of_cell r0
  go_region_held3 (fun w' => w'.cell? ⟨w.heap.size, 1, none⟩ = some (.slice aa na ca) ∧ w'.cell? ⟨w.heap.size + 1, 0, none⟩ = some (.bool sb) ∧ w'.cell? ⟨w.heap.size + 1, 1, none⟩ = some (.slice ab nb cb))
    (first | exact ⟨a1, b0, b1⟩ | exact ⟨a1', b0', b1'⟩ | exact ⟨a1'', b0'', b1''⟩ | (refine ⟨?_, ?_, ?_⟩ <;> (rw [World.cell?_setCell_far _ _ _ _ (by first | omega | (simp; done) | (simp; omega)), World.cell?_setCell_far _ _ _ _ (by first | omega | (simp; done) | (simp; omega))]; assumption)) | go_keep)
    (first
      | (go_at_call 45; refine (rminus_any ab aa _ _ nb na cb ca (by omega) (by omega) _ hX hY (by omega)).mono ?_; rintro e w4 ⟨a3, n3, cap3, rfl, hd3, hcap3, hfr3, hb4⟩; have a1' := (hb4.cell (p := ⟨w.heap.size, 1, none⟩) (by simp; omega)).trans a1; have b0' := (hb4.cell (p := ⟨w.heap.size + 1, 0, none⟩) (by simp; omega)).trans b0; have b1' := (hb4.cell (p := ⟨w.heap.size + 1, 1, none⟩) (by simp; omega)).trans b1; have bC4 := (bC2k.below (Below.drew (Below.refl _ _)) bC2k.lt : Box2 w3.drew _ _ _).below hb4 bC2k.lt)
      | (go_at_call 32; refine (rsigned_num sb a3 n3 cap3 _ hcap3 (HLE.out _ (by rw [hd3.len]; simp)) _ hd3 HO).mono ?_; rintro e w5 ⟨s4, a4, n4, cap4, rfl, hn4, h64, hf4, hb5⟩; have a1'' := (hb5.cell (p := ⟨w.heap.size, 1, none⟩) (lt_of_cell a1')).trans a1'; have b0'' := (hb5.cell (p := ⟨w.heap.size + 1, 0, none⟩) (lt_of_cell b0')).trans b0'; have b1'' := (hb5.cell (p := ⟨w.heap.size + 1, 1, none⟩) (lt_of_cell b1')).trans b1'; obtain ⟨r0'', r1'', z0'', z1''⟩ := bC4.below hb5 bC4.lt))
  have hs4 := hb4.size
  have hBw : Below w.heap.size w w5 := (hB2.drew.trans (hb4.mono hB2.size)).trans (hb5.mono (Nat.le_trans hB2.size hb4.size))
  have hne : n4 = 0 ∨ ∀ ad, a4 = some ad → ad.block ≠ w.heap.size + 1 + 1 := hf4.imp id fun h ad e => by have := h ad e; simp at hs4; omega
  have hfw : n4 = 0 ∨ Fresh w a4 := hf4.imp id fun h ad e => by have := h ad e; simp at hs4; omega
  obtain ⟨hbx, hN, hBB⟩ := num_store (cap := cap4) (bC4.below hb5 bC4.lt) (by omega) hBw hn4 hne
  obtain ⟨q0, q1, -, -⟩ := hbx
  clear a1 b0 b1 a1' b0' b1' a1'' b0'' b1'' r0 r1 z0 z1 r0'' r1'' z0'' z1''
  go_wp2
  exact bodyPost_ret (v := .tuple #[.agg #[.bool s4, .slice a4 n4 cap4], .bool O.isSome]) (by simp [results, Tryz.results33, go_sem, q0, q1]) rfl ⟨_, _, _, _, rfl, hN, h64, hfw, hBB⟩

set_option maxRecDepth 100000 in
set_option maxHeartbeats 2000000 in
theorem radd_ge (sa sb : Bool) (hs : (sa == sb) = false) (aa ab : Option Addr) (na nb ca cb : Nat) (za zb : Int) (hna : na ≤ 64) (hnb : nb ≤ 64) (hge : zb.natAbs ≤ za.natAbs) (w : World) (ha : IsN w sa aa na za) (hb : IsN w sb ab nb zb) {O : Option Int} (HO : Hid (fitO (signed sa (za.natAbs - zb.natAbs)) = O)) :
    Calls Tryz.prog 33 #[.agg #[.bool sa, .slice aa na ca], .agg #[.bool sb, .slice ab nb cb]] w (OptPost w O) := by
  have HLA := hide ha.dig.len
  have HLB := hide hb.dig.len
  have HLE : Hid (∀ m, (m = dlen (za.natAbs + zb.natAbs) ∨ m = dlen (za.natAbs * zb.natAbs) ∨ m = dlen (za.natAbs - zb.natAbs) ∨ m = dlen (zb.natAbs - za.natAbs)) → m ≤ 1099511627776) := fun m h => len_le_of ha.dig.len hb.dig.len hna hnb h
  have hcmp : ¬ cmpN za.natAbs zb.natAbs < 0 := by
    unfold cmpN
    rw [if_neg (by omega)]
    split <;> decide
  go_enter Tryz.func33, Tryz.ntmps33
  go_wp2_with fail
  obtain ⟨W0, hW0⟩ : ∃ W0, ((w.alloc (Obj.cells #[Value.bool sa, Value.slice aa na ca] 27)).alloc (Obj.cells #[Value.bool sb, Value.slice ab nb cb] 27)).alloc (Obj.cells #[Value.bool false, Value.slice none 0 0] 27) = W0 := ⟨_, rfl⟩
  have bA : Box2 W0 w.heap.size (.bool sa) (.slice aa na ca) := by rw [← hW0]; exact ((Box2.new w _ _ _).alloc _).alloc _
  have bB : Box2 W0 (w.heap.size + 1) (.bool sb) (.slice ab nb cb) := by
    have := (Box2.new (w.alloc (Obj.cells #[Value.bool sa, Value.slice aa na ca] 27)) (.bool sb) (.slice ab nb cb) 27).alloc (Obj.cells #[Value.bool false, Value.slice none 0 0] 27)
    rw [World.size_alloc] at this; rw [← hW0]; exact this
  have bC : Box2 W0 (w.heap.size + 1 + 1) (.bool false) (.slice none 0 0) := by
    have := Box2.new ((w.alloc (Obj.cells #[Value.bool sa, Value.slice aa na ca] 27)).alloc (Obj.cells #[Value.bool sb, Value.slice ab nb cb] 27)) (.bool false) (.slice none 0 0) 27
    rw [World.size_alloc, World.size_alloc] at this; rw [← hW0]; exact this
  have hsz : W0.heap.size = w.heap.size + 3 := by rw [← hW0]; simp
  have hB0 : Below w.heap.size w W0 := by rw [← hW0]; exact (((Below.refl _ w).alloc (Nat.le_refl _) _).alloc (by simp) _).alloc (by simp; omega) _
  rw [hW0]
  clear hW0
  refine (rright_arg sa aa na ca (some za) _ ⟨ha.below hB0, hna⟩).mono ?_
  rintro e w1 ⟨rfl, hb1⟩
  have hB1 : Below w.heap.size w w1 := hB0.trans (hb1.mono (by omega))
  have bA1 := bA.below hb1 (by omega)
  have bB1 := bB.below hb1 (by omega)
  have bC1 := bC.below hb1 (by omega)
  obtain ⟨b0, b1, -, -⟩ := bB1
  go_wp2_with fail
  refine (rright_arg sb ab nb cb (some zb) _ ⟨hb.below hB1, hnb⟩).mono ?_
  rintro e w2 ⟨rfl, hb2⟩
  have hB2 : Below w.heap.size w w2 := hB1.trans (hb2.mono hB1.size)
  have bA2 := bA1.below hb2 (by have := hb1.size; omega)
  have bB2 := bB.below (hb1.trans (hb2.mono hb1.size)) (by omega)
  have bC2 := bC1.below hb2 (by have := hb1.size; omega)
  clear b0 b1
  have bC2k := bC2
  have bA2k := bA2
  have bB2k := bB2
  obtain ⟨a0, a1, -, -⟩ := bA2
  obtain ⟨b0, b1, -, -⟩ := bB2
  obtain ⟨r0, r1, z0, z1⟩ := bC2
  go_wp2_with fail
  refine (rcompare_any aa ab za.natAbs zb.natAbs na nb ca cb (by omega) w2 (ha.dig.below hB2) (hb.dig.below hB2)).mono ?_
  rintro e w3 ⟨rfl, hb3⟩
  have hB2 : Below w.heap.size w w3 := hB2.trans (hb3.mono hB2.size)
  have bA2 := bA2k.below hb3 bA2k.lt
  have bB2 := bB2k.below hb3 bB2k.lt
  have bC2 := bC2k.below hb3 bC2k.lt
  clear a0 a1 b0 b1 r0 r1 z0 z1 bA2k bB2k bC2k
  have bC2k := bC2
  obtain ⟨a0, a1, -, -⟩ := bA2
  obtain ⟨b0, b1, -, -⟩ := bB2
  obtain ⟨r0, r1, z0, z1⟩ := bC2
  go_wp2_with fail
  have hX : IsD w3.drew aa na za.natAbs := (ha.dig.below hB2).below (Below.drew (Below.refl _ _))
  have hY : IsD w3.drew ab nb zb.natAbs := (hb.dig.below hB2).below (Below.drew (Below.refl _ _))
  have hlt2 : w.heap.size + 1 + 1 < w3.heap.size := lt_of_cell r0
  go_region_held3 (fun w' => w'.cell? ⟨w.heap.size, 0, none⟩ = some (.bool sa) ∧ w'.cell? ⟨w.heap.size, 1, none⟩ = some (.slice aa na ca) ∧ w'.cell? ⟨w.heap.size + 1, 1, none⟩ = some (.slice ab nb cb))
    (first | exact ⟨a0, a1, b1⟩ | exact ⟨a0', a1', b1'⟩ | exact ⟨a0'', a1'', b1''⟩ | (refine ⟨?_, ?_, ?_⟩ <;> (rw [World.cell?_setCell_far _ _ _ _ (by first | omega | (simp; done) | (simp; omega)), World.cell?_setCell_far _ _ _ _ (by first | omega | (simp; done) | (simp; omega))]; assumption)) | go_keep)
    (first
      | (go_at_call 45; refine (rminus_any aa ab _ _ na nb ca cb (by omega) (by omega) _ hX hY (by omega)).mono ?_; rintro e w4 ⟨a3, n3, cap3, rfl, hd3, hcap3, hfr3, hb4⟩; have a0' := (hb4.cell (p := ⟨w.heap.size, 0, none⟩) (by simp; omega)).trans a0; have a1' := (hb4.cell (p := ⟨w.heap.size, 1, none⟩) (by simp; omega)).trans a1; have b1' := (hb4.cell (p := ⟨w.heap.size + 1, 1, none⟩) (by simp; omega)).trans b1; have bC4 := (bC2k.below (Below.drew (Below.refl _ _)) bC2k.lt : Box2 w3.drew _ _ _).below hb4 bC2k.lt)
      | (go_at_call 32; refine (rsigned_num sa a3 n3 cap3 _ hcap3 (HLE.out _ (by rw [hd3.len]; simp)) _ hd3 HO).mono ?_; rintro e w5 ⟨s4, a4, n4, cap4, rfl, hn4, h64, hf4, hb5⟩; have a0'' := (hb5.cell (p := ⟨w.heap.size, 0, none⟩) (lt_of_cell a0')).trans a0'; have a1'' := (hb5.cell (p := ⟨w.heap.size, 1, none⟩) (lt_of_cell a1')).trans a1'; have b1'' := (hb5.cell (p := ⟨w.heap.size + 1, 1, none⟩) (lt_of_cell b1')).trans b1'; obtain ⟨r0'', r1'', z0'', z1''⟩ := bC4.below hb5 bC4.lt))
  have hs4 := hb4.size
  have hBw : Below w.heap.size w w5 := (hB2.drew.trans (hb4.mono hB2.size)).trans (hb5.mono (Nat.le_trans hB2.size hb4.size))
  have hne : n4 = 0 ∨ ∀ ad, a4 = some ad → ad.block ≠ w.heap.size + 1 + 1 := hf4.imp id fun h ad e => by have := h ad e; simp at hs4; omega
  have hfw : n4 = 0 ∨ Fresh w a4 := hf4.imp id fun h ad e => by have := h ad e; simp at hs4; omega
  obtain ⟨hbx, hN, hBB⟩ := num_store (cap := cap4) (bC4.below hb5 bC4.lt) (by omega) hBw hn4 hne
  obtain ⟨q0, q1, -, -⟩ := hbx
  clear a0 a1 b1 a0' a1' b1' a0'' a1'' b1'' r0 r1 z0 z1 r0'' r1'' z0'' z1''
  go_wp2
  exact bodyPost_ret (v := .tuple #[.agg #[.bool s4, .slice a4 n4 cap4], .bool O.isSome]) (by simp [results, Tryz.results33, go_sem, q0, q1]) rfl ⟨_, _, _, _, rfl, hN, h64, hfw, hBB⟩

set_option maxRecDepth 100000 in
set_option maxHeartbeats 2000000 in
theorem rmul_num (sa sb : Bool) (aa ab : Option Addr) (na nb ca cb : Nat) (za zb : Int) (hna : na ≤ 64) (hnb : nb ≤ 64) (w : World) (ha : IsN w sa aa na za) (hb : IsN w sb ab nb zb) {O : Option Int} (HO : Hid (fitO (signed (sa != sb) (za.natAbs * zb.natAbs)) = O)) :
    Calls Tryz.prog 35 #[.agg #[.bool sa, .slice aa na ca], .agg #[.bool sb, .slice ab nb cb]] w (OptPost w O) := by
  have HLA := hide ha.dig.len
  have HLB := hide hb.dig.len
  have HLE : Hid (∀ m, (m = dlen (za.natAbs + zb.natAbs) ∨ m = dlen (za.natAbs * zb.natAbs) ∨ m = dlen (za.natAbs - zb.natAbs) ∨ m = dlen (zb.natAbs - za.natAbs)) → m ≤ 1099511627776) := fun m h => len_le_of ha.dig.len hb.dig.len hna hnb h
  go_enter Tryz.func35, Tryz.ntmps35
  go_wp2_with fail
  obtain ⟨W0, hW0⟩ : ∃ W0, ((w.alloc (Obj.cells #[Value.bool sa, Value.slice aa na ca] 27)).alloc (Obj.cells #[Value.bool sb, Value.slice ab nb cb] 27)).alloc (Obj.cells #[Value.bool false, Value.slice none 0 0] 27) = W0 := ⟨_, rfl⟩
  have bA : Box2 W0 w.heap.size (.bool sa) (.slice aa na ca) := by rw [← hW0]; exact ((Box2.new w _ _ _).alloc _).alloc _
  have bB : Box2 W0 (w.heap.size + 1) (.bool sb) (.slice ab nb cb) := by
    have := (Box2.new (w.alloc (Obj.cells #[Value.bool sa, Value.slice aa na ca] 27)) (.bool sb) (.slice ab nb cb) 27).alloc (Obj.cells #[Value.bool false, Value.slice none 0 0] 27)
    rw [World.size_alloc] at this; rw [← hW0]; exact this
  have bC : Box2 W0 (w.heap.size + 1 + 1) (.bool false) (.slice none 0 0) := by
    have := Box2.new ((w.alloc (Obj.cells #[Value.bool sa, Value.slice aa na ca] 27)).alloc (Obj.cells #[Value.bool sb, Value.slice ab nb cb] 27)) (.bool false) (.slice none 0 0) 27
    rw [World.size_alloc, World.size_alloc] at this; rw [← hW0]; exact this
  have hsz : W0.heap.size = w.heap.size + 3 := by rw [← hW0]; simp
  have hB0 : Below w.heap.size w W0 := by rw [← hW0]; exact (((Below.refl _ w).alloc (Nat.le_refl _) _).alloc (by simp) _).alloc (by simp; omega) _
  rw [hW0]
  clear hW0
  refine (rright_arg sa aa na ca (some za) _ ⟨ha.below hB0, hna⟩).mono ?_
  rintro e w1 ⟨rfl, hb1⟩
  have hB1 : Below w.heap.size w w1 := hB0.trans (hb1.mono (by omega))
  have bA1 := bA.below hb1 (by omega)
  have bB1 := bB.below hb1 (by omega)
  have bC1 := bC.below hb1 (by omega)
  obtain ⟨b0, b1, -, -⟩ := bB1
  go_wp2_with fail
  refine (rright_arg sb ab nb cb (some zb) _ ⟨hb.below hB1, hnb⟩).mono ?_
  rintro e w2 ⟨rfl, hb2⟩
  have hB2 : Below w.heap.size w w2 := hB1.trans (hb2.mono hB1.size)
  have bA2 := bA1.below hb2 (by have := hb1.size; omega)
  have bB2 := bB.below (hb1.trans (hb2.mono hb1.size)) (by omega)
  have bC2 := bC1.below hb2 (by have := hb1.size; omega)
  clear b0 b1
  have bC2k := bC2
  have bA2k := bA2
  have bB2k := bB2
  obtain ⟨a0, a1, -, -⟩ := bA2
  obtain ⟨b0, b1, -, -⟩ := bB2
  obtain ⟨r0, r1, z0, z1⟩ := bC2
  go_wp2_with fail
  have hX : IsD w2.drew aa na za.natAbs := (ha.dig.below hB2).below (Below.drew (Below.refl _ _))
  have hY : IsD w2.drew ab nb zb.natAbs := (hb.dig.below hB2).below (Below.drew (Below.refl _ _))
  have hlt2 : w.heap.size + 1 + 1 < w2.heap.size := lt_of_cell r0
  go_region_held3 (fun w' => w'.cell? ⟨w.heap.size, 0, none⟩ = some (.bool sa) ∧ w'.cell? ⟨w.heap.size, 1, none⟩ = some (.slice aa na ca) ∧ w'.cell? ⟨w.heap.size + 1, 0, none⟩ = some (.bool sb) ∧ w'.cell? ⟨w.heap.size + 1, 1, none⟩ = some (.slice ab nb cb))
    (first | exact ⟨a0, a1, b0, b1⟩ | exact ⟨a0', a1', b0', b1'⟩ | exact ⟨a0'', a1'', b0'', b1''⟩ | (refine ⟨?_, ?_, ?_, ?_⟩ <;> (rw [World.cell?_setCell_far _ _ _ _ (by first | omega | (simp; done) | (simp; omega)), World.cell?_setCell_far _ _ _ _ (by first | omega | (simp; done) | (simp; omega))]; assumption)) | go_keep)
    (first
      | (go_at_call 57; refine (rtimes_any aa ab _ _ na nb ca cb (by omega) (by omega) _ hX hY).mono ?_; rintro e w4 ⟨a3, n3, cap3, rfl, hd3, hcap3, hfr3, hb4⟩; have a0' := (hb4.cell (p := ⟨w.heap.size, 0, none⟩) (by simp; omega)).trans a0; have a1' := (hb4.cell (p := ⟨w.heap.size, 1, none⟩) (by simp; omega)).trans a1; have b0' := (hb4.cell (p := ⟨w.heap.size + 1, 0, none⟩) (by simp; omega)).trans b0; have b1' := (hb4.cell (p := ⟨w.heap.size + 1, 1, none⟩) (by simp; omega)).trans b1; have bC4 := (bC2k.below (Below.drew (Below.refl _ _)) bC2k.lt : Box2 w2.drew _ _ _).below hb4 bC2k.lt)
      | (go_at_call 32; refine (rsigned_num (sa != sb) a3 n3 cap3 _ hcap3 (HLE.out _ (by rw [hd3.len]; simp)) _ hd3 HO).mono ?_; rintro e w5 ⟨s4, a4, n4, cap4, rfl, hn4, h64, hf4, hb5⟩; have a0'' := (hb5.cell (p := ⟨w.heap.size, 0, none⟩) (lt_of_cell a0')).trans a0'; have a1'' := (hb5.cell (p := ⟨w.heap.size, 1, none⟩) (lt_of_cell a1')).trans a1'; have b0'' := (hb5.cell (p := ⟨w.heap.size + 1, 0, none⟩) (lt_of_cell b0')).trans b0'; have b1'' := (hb5.cell (p := ⟨w.heap.size + 1, 1, none⟩) (lt_of_cell b1')).trans b1'; obtain ⟨r0'', r1'', z0'', z1''⟩ := bC4.below hb5 bC4.lt))
  have hs4 := hb4.size
  have hBw : Below w.heap.size w w5 := (hB2.drew.trans (hb4.mono hB2.size)).trans (hb5.mono (Nat.le_trans hB2.size hb4.size))
  have hne : n4 = 0 ∨ ∀ ad, a4 = some ad → ad.block ≠ w.heap.size + 1 + 1 := hf4.imp id fun h ad e => by have := h ad e; simp at hs4; omega
  have hfw : n4 = 0 ∨ Fresh w a4 := hf4.imp id fun h ad e => by have := h ad e; simp at hs4; omega
  obtain ⟨hbx, hN, hBB⟩ := num_store (cap := cap4) (bC4.below hb5 bC4.lt) (by omega) hBw hn4 hne
  obtain ⟨q0, q1, -, -⟩ := hbx
  clear a0 a1 b0 b1 a0' a1' b0' b1' a0'' a1'' b0'' b1'' r0 r1 z0 z1 r0'' r1'' z0'' z1''
  go_wp2
  exact bodyPost_ret (v := .tuple #[.agg #[.bool s4, .slice a4 n4 cap4], .bool O.isSome]) (by simp [results, Tryz.results35, go_sem, q0, q1]) rfl ⟨_, _, _, _, rfl, hN, h64, hfw, hBB⟩

theorem signed_self {w : World} {s : Bool} {a : Option Addr} {n : Nat} {z : Int} (h : IsN w s a n z) : z = signed s z.natAbs := by
  have h1 := h.sign
  unfold signed; rw [h1]; by_cases h : z < 0 <;> simp [h] <;> omega
/-- the reference's Add of any Nums -/
theorem radd_arg (sa sb : Bool) (aa ab : Option Addr) (na nb ca cb : Nat) (x y : Option Int) (w : World) (ha : Arg w sa aa na x) (hb : Arg w sb ab nb y) :
    Calls Tryz.prog 33 #[.agg #[.bool sa, .slice aa na ca], .agg #[.bool sb, .slice ab nb cb]] w (OptPost w (addO x y)) := by
  cases x with
  | none => exact (radd_no_a sa sb aa ab na nb ca cb w ha).mono fun e w' h => h.opt rfl
  | some z =>
    cases y with
    | none => exact (radd_no_b sa sb aa ab na nb ca cb z w ha hb).mono fun e w' h => h.opt rfl
    | some v =>
      show Calls _ _ _ _ (OptPost w (fitO (z + v)))
      have h1 := ha.1.sign
      have h2 := hb.1.sign
      by_cases hs : sa = sb
      · subst hs
        refine radd_same sa aa ab na nb ca cb z v ha.2 hb.2 w ha.1 hb.1 (hide ?_)
        congr 1
        unfold signed
        cases sa
        · have : ¬ z < 0 := by intro h; simp [h] at h1
          have : ¬ v < 0 := by intro h; simp [h] at h2
          simp; omega
        · have : z < 0 := by simpa using h1.symm
          have : v < 0 := by simpa using h2.symm
          simp; omega
      · have hs' : (sa == sb) = false := by simpa using hs
        by_cases hlt : z.natAbs < v.natAbs
        · refine radd_lt sa sb hs' aa ab na nb ca cb z v ha.2 hb.2 hlt w ha.1 hb.1 (hide ?_)
          congr 1
          unfold signed
          cases sa <;> cases sb <;> simp at hs
          · have : ¬ z < 0 := by intro h; simp [h] at h1
            have : v < 0 := by simpa using h2.symm
            simp; omega
          · have : z < 0 := by simpa using h1.symm
            have : ¬ v < 0 := by intro h; simp [h] at h2
            simp; omega
        · refine radd_ge sa sb hs' aa ab na nb ca cb z v ha.2 hb.2 (by omega) w ha.1 hb.1 (hide ?_)
          congr 1
          unfold signed
          cases sa <;> cases sb <;> simp at hs
          · have : ¬ z < 0 := by intro h; simp [h] at h1
            have : v < 0 := by simpa using h2.symm
            simp; omega
          · have : z < 0 := by simpa using h1.symm
            have : ¬ v < 0 := by intro h; simp [h] at h2
            simp; omega
/-- the reference's Mul of any Nums -/
theorem rmul_arg (sa sb : Bool) (aa ab : Option Addr) (na nb ca cb : Nat) (x y : Option Int) (w : World) (ha : Arg w sa aa na x) (hb : Arg w sb ab nb y) :
    Calls Tryz.prog 35 #[.agg #[.bool sa, .slice aa na ca], .agg #[.bool sb, .slice ab nb cb]] w (OptPost w (mulO x y)) := by
  cases x with
  | none => exact (rmul_no_a sa sb aa ab na nb ca cb w ha).mono fun e w' h => h.opt rfl
  | some z =>
    cases y with
    | none => exact (rmul_no_b sa sb aa ab na nb ca cb z w ha hb).mono fun e w' h => h.opt rfl
    | some v =>
      show Calls _ _ _ _ (OptPost w (fitO (z * v)))
      refine rmul_num sa sb aa ab na nb ca cb z v ha.2 hb.2 w ha.1 hb.1 (hide ?_)
      congr 1
      have e1 := signed_self ha.1
      have e2 := signed_self hb.1
      generalize z.natAbs = p at e1 ⊢
      generalize v.natAbs = q at e2 ⊢
      rw [e1, e2]
      unfold signed
      cases sa <;> cases sb <;> simp [Int.mul_neg, Int.neg_mul]
end Go.Proofs.YtmpdeiopdempcaaGreatDoor
