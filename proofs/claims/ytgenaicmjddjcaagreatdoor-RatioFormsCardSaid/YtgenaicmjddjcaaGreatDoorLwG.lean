/- Several texts in one. -/
import Derived.Test.YtgenaicmjddjcaaGreatDoorRbB
import Derived.Test.YtgenaicmjddjcaaGreatDoorLwS
import Derived.Test.YtgenaicmjddjcaaGreatDoorLwT
import Derived.Test.YtgenaicmjddjcaaGreatDoorRbO
namespace Go.Proofs.YtgenaicmjddjcaaGreatDoor
open Go.RowKit Go.Shelf

set_option maxRecDepth 100000 in
set_option maxHeartbeats 4000000 in
theorem small_ss (s1 s2 : Bool) (ad1 : Addr) (n1 c1 m1 : Nat) (h1 : min (n1 : Int) 6 = (m1 : Int)) (g1 : m1 ≤ c1) (ad2 : Addr) (n2 c2 m2 : Nat) (h2 : min (n2 : Int) 6 = (m2 : Int)) (g2 : m2 ≤ c2) (w : World) :
 Calls Tryz.prog 17 #[.agg #[.bool s1, .slice (some ad1) n1 c1, .bool s2, .slice (some ad2) n2 c2]] w fun e w' => e = .returned (.agg #[.bool s1, .slice (some ad1) m1 c1, .bool s2, .slice (some ad2) m2 c2]) ∧ Below w.heap.size w w' := by
 have e1 : (m1 : Int) ≤ (c1 : Int) := by omega
 have e2 : (m2 : Int) ≤ (c2 : Int) := by omega
 go_enter Tryz.func17, Tryz.ntmps17
 go_wp2
 refine bodyPost_ret (v := .agg #[.bool s1, .slice (some ad1) m1 c1, .bool s2, .slice (some ad2) m2 c2]) (by simp [results, Tryz.results17, go_sem]) rfl ⟨rfl, ?_⟩
 repeat (first | exact Below.refl _ _ | refine Below.setCell ?_ (by simp <;> omega) _ | refine Below.alloc ?_ (by simp <;> omega) _)
set_option maxRecDepth 100000 in
set_option maxHeartbeats 4000000 in
theorem small_sn (s1 s2 : Bool) (ad1 : Addr) (n1 c1 m1 : Nat) (h1 : min (n1 : Int) 6 = (m1 : Int)) (g1 : m1 ≤ c1) (w : World) :
 Calls Tryz.prog 17 #[.agg #[.bool s1, .slice (some ad1) n1 c1, .bool s2, .slice none 0 0]] w fun e w' => e = .returned (.agg #[.bool s1, .slice (some ad1) m1 c1, .bool s2, .slice none 0 0]) ∧ Below w.heap.size w w' := by
 have e1 : (m1 : Int) ≤ (c1 : Int) := by omega
 go_enter Tryz.func17, Tryz.ntmps17
 go_wp2
 refine bodyPost_ret (v := .agg #[.bool s1, .slice (some ad1) m1 c1, .bool s2, .slice none 0 0]) (by simp [results, Tryz.results17, go_sem]; try decide) rfl ⟨rfl, ?_⟩
 repeat (first | exact Below.refl _ _ | refine Below.setCell ?_ (by simp <;> omega) _ | refine Below.alloc ?_ (by simp <;> omega) _)
set_option maxRecDepth 100000 in
set_option maxHeartbeats 4000000 in
theorem small_ns (s1 s2 : Bool) (ad2 : Addr) (n2 c2 m2 : Nat) (h2 : min (n2 : Int) 6 = (m2 : Int)) (g2 : m2 ≤ c2) (w : World) :
 Calls Tryz.prog 17 #[.agg #[.bool s1, .slice none 0 0, .bool s2, .slice (some ad2) n2 c2]] w fun e w' => e = .returned (.agg #[.bool s1, .slice none 0 0, .bool s2, .slice (some ad2) m2 c2]) ∧ Below w.heap.size w w' := by
 have e2 : (m2 : Int) ≤ (c2 : Int) := by omega
 go_enter Tryz.func17, Tryz.ntmps17
 go_wp2
 refine bodyPost_ret (v := .agg #[.bool s1, .slice none 0 0, .bool s2, .slice (some ad2) m2 c2]) (by simp [results, Tryz.results17, go_sem]; try decide) rfl ⟨rfl, ?_⟩
 repeat (first | exact Below.refl _ _ | refine Below.setCell ?_ (by simp <;> omega) _ | refine Below.alloc ?_ (by simp <;> omega) _)
set_option maxRecDepth 100000 in
set_option maxHeartbeats 4000000 in
theorem small_nn (s1 s2 : Bool) (w : World) :
 Calls Tryz.prog 17 #[.agg #[.bool s1, .slice none 0 0, .bool s2, .slice none 0 0]] w fun e w' => e = .returned (.agg #[.bool s1, .slice none 0 0, .bool s2, .slice none 0 0]) ∧ Below w.heap.size w w' := by
 go_enter Tryz.func17, Tryz.ntmps17
 go_wp2
 refine bodyPost_ret (v := .agg #[.bool s1, .slice none 0 0, .bool s2, .slice none 0 0]) (by simp [results, Tryz.results17, go_sem]; try decide) rfl ⟨rfl, ?_⟩
 repeat (first | exact Below.refl _ _ | refine Below.setCell ?_ (by simp <;> omega) _ | refine Below.alloc ?_ (by simp <;> omega) _)
theorem small_any (s1 s2 : Bool) (a1 a2 : Option Addr) (n1 n2 c1 c2 : Nat) (g1 : n1 ≤ c1) (g2 : n2 ≤ c2) (e1 : a1 = none → n1 = 0 ∧ c1 = 0) (e2 : a2 = none → n2 = 0 ∧ c2 = 0) (w : World) :
 Calls Tryz.prog 17 #[.agg #[.bool s1, .slice a1 n1 c1, .bool s2, .slice a2 n2 c2]] w fun e w' => e = .returned (.agg #[.bool s1, .slice a1 (min n1 6 : Nat) c1, .bool s2, .slice a2 (min n2 6 : Nat) c2]) ∧ Below w.heap.size w w' := by
 cases a1 with
 | none =>
   obtain ⟨rfl, rfl⟩ := e1 rfl
   cases a2 with
   | none => obtain ⟨rfl, rfl⟩ := e2 rfl; exact small_nn s1 s2 w
   | some ad2 => exact small_ns s1 s2 ad2 n2 c2 (min n2 6) (by omega) (by omega) w
 | some ad1 =>
   cases a2 with
   | none => obtain ⟨rfl, rfl⟩ := e2 rfl; exact small_sn s1 s2 ad1 n1 c1 (min n1 6) (by omega) (by omega) w
   | some ad2 => exact small_ss s1 s2 ad1 n1 c1 (min n1 6) (by omega) (by omega) ad2 n2 c2 (min n2 6) (by omega) (by omega) w
theorem Raw.digs {w : World} {a : Option Addr} {n m : Nat} (h : Raw w a n) (hm : m ≤ n) (h6 : m ≤ 6) : Digs w a m := by
 obtain ⟨f, h1, h2⟩ := h
 exact ⟨f, h1.mono hm, fun j hj => h2 j (by omega), by omega⟩
end Go.Proofs.YtgenaicmjddjcaaGreatDoor

namespace Go.Proofs.YtgenaicmjddjcaaGreatDoor
open Go.RowKit Go.Shelf

def anyF : Fact := ⟨fun v w => ∃ (s : Bool) (a : Option Addr) (n c : Nat) (t : Bool) (b : Option Addr) (m d : Nat), v = .agg #[.bool s, .slice a n c, .bool t, .slice b m d] ∧ (∃ ox, RArg w s a n t b m ox) ∧ n ≤ c ∧ m ≤ d,
 fun _ _ _ ⟨s, a, n, c, t, b, m, d, e, ⟨ox, R⟩, q⟩ h => ⟨s, a, n, c, t, b, m, d, e, ⟨ox, R.below h⟩, q⟩, false, nofun⟩
def Elem (w : World) (b k : Nat) : Prop := ∃ (s : Bool) (a : Option Addr) (n c : Nat) (t : Bool) (d : Option Addr) (m e : Nat) (ox : Option Rat), w.cell? ⟨b, k * 4, none⟩ = some (.bool s) ∧ w.cell? ⟨b, k * 4 + 1, none⟩ = some (.slice a n c) ∧
 w.cell? ⟨b, k * 4 + 2, none⟩ = some (.bool t) ∧ w.cell? ⟨b, k * 4 + 3, none⟩ = some (.slice d m e) ∧ RArg w s a n t d m ox ∧ n ≤ c ∧ m ≤ e
theorem Elem.below {w w' : World} {b k : Nat} (h : Elem w b k) (t : Below w.heap.size w w') : Elem w' b k := by
 obtain ⟨s, a, n, c, u, d, m, e, ox, h0, h1, h2, h3, R, q⟩ := h
 have hb := lt_of_cell h0
 exact ⟨s, a, n, c, u, d, m, e, ox, (t.cell (p := ⟨b, k * 4, none⟩) hb).trans h0, (t.cell (p := ⟨b, k * 4 + 1, none⟩) hb).trans h1, (t.cell (p := ⟨b, k * 4 + 2, none⟩) hb).trans h2, (t.cell (p := ⟨b, k * 4 + 3, none⟩) hb).trans h3, R.below t, q⟩
def Elems (w : World) (b N : Nat) : Prop := ∀ k, k < N → Elem w b k
theorem Elems.below {w w' : World} {b N : Nat} (h : Elems w b N) (t : Below w.heap.size w w') : Elems w' b N := fun k hk => (h k hk).below t
theorem RArg.args {w : World} {s t : Bool} {a d : Option Addr} {n m : Nat} {ox : Option Rat} (h : RArg w s a n t d m ox) : ∃ o1 o2, Arg w s a n o1 ∧ Arg w t d m o2 := by
 cases ox with
 | some x => exact ⟨some x.num, some (x.den : Int), ⟨h.1, h.2.2.1⟩, ⟨h.2.1, h.2.2.2⟩⟩
 | none => obtain ⟨o1, o2, h1, h2, -⟩ := h; exact ⟨o1, o2, h1, h2⟩
structure FracAt (w : World) (b o : Nat) (x y : Int) : Prop where
 c0 : w.cell? ⟨b, o, none⟩ = some (.int .i64 x)
 c1 : w.cell? ⟨b, o + 1, none⟩ = some (.int .i64 y)
theorem FracAt.below {w w' : World} {b o : Nat} {x y : Int} (h : FracAt w b o x y) (t : Below w.heap.size w w') : FracAt w' b o x y :=
 ⟨(t.cell (p := ⟨b, o, none⟩) (lt_of_cell h.c0)).trans h.c0, (t.cell (p := ⟨b, o + 1, none⟩) (lt_of_cell h.c1)).trans h.c1⟩
def Fracs (w : World) (b N : Nat) : Prop := ∀ k, k < N → ∃ x y : Int, FracAt w b (k * 2) x y ∧ -9223372036854775808 ≤ x ∧ x ≤ 9223372036854775807 ∧ y ≤ 9223372036854775807
theorem Fracs.below {w w' : World} {b N : Nat} (h : Fracs w b N) (t : Below w.heap.size w w') : Fracs w' b N := fun k hk => by
 obtain ⟨x, y, hxy, h⟩ := h k hk
 exact ⟨x, y, hxy.below t, h⟩
theorem frac_new {w Z W' : World} {x y : Int} {t : TypeId} (hZ : w.alloc (Obj.cells #[.int .i64 0, .int .i64 0] t) = Z) (hW : (Z.setCell ⟨w.heap.size, 0, none⟩ (.int .i64 x)).setCell ⟨w.heap.size, 1, none⟩ (.int .i64 y) = W') :
 FracAt W' w.heap.size 0 x y ∧ Below w.heap.size w W' ∧ Z.cell? ⟨w.heap.size, 0, none⟩ = some (.int .i64 0) ∧ Z.cell? ⟨w.heap.size, 1, none⟩ = some (.int .i64 0) ∧ Z.frozen? ⟨w.heap.size, 0, none⟩ = false ∧ Z.frozen? ⟨w.heap.size, 1, none⟩ = false := by
 have b : Box2 Z w.heap.size (.int .i64 0) (.int .i64 0) := by rw [← hZ]; exact Box2.new _ _ _ _
 have kZ : Below w.heap.size w Z := by rw [← hZ]; exact below_alloc w _
 have q := b.set (.int .i64 x) (.int .i64 y)
 have k := below_set2 kZ (Nat.le_refl _) (.int .i64 x) (.int .i64 y)
 rw [hW] at q k
 exact ⟨⟨q.c0, q.c1⟩, k, b.c0, b.c1, b.z0, b.z1⟩
def listF (N : Nat) : Fact := ⟨fun v w => ∃ b, v = .slice (some ⟨b, 0, none⟩) N N ∧ Elems w b N, fun _ _ _ ⟨b, e, h⟩ t => ⟨b, e, h.below t⟩, false, nofun⟩
set_option maxRecDepth 100000 in
set_option maxHeartbeats 16000000 in
theorem rforms_true (ao : Option Addr) (L cap : Nat) (g : Nat → Int) (hL : L ≤ 9223372036854775807) (s1 s2 : Bool) (a1 a2 : Option Addr) (n1 n2 c1 c2 : Nat) (g1 : n1 ≤ c1) (g2 : n2 ≤ c2) (e1 : a1 = none → n1 = 0 ∧ c1 = 0) (e2 : a2 = none → n2 = 0 ∧ c2 = 0)
 (fn fd n : Int) (j0 : -9223372036854775808 ≤ fn) (j1 : fn ≤ 9223372036854775807) (j2 : fd ≤ 9223372036854775807) (_j3 : -9223372036854775808 ≤ fd) (i0 : -9223372036854775808 ≤ n) (i1 : n ≤ 9223372036854775807) (w : World) (ht : Pow10 w) (hsy : Syn w) (h0 : Ints w ao L g) (r1 : Raw w a1 n1) (r2 : Raw w a2 n2) :
 Calls Tryz.prog 4 #[.slice ao L cap, .agg #[.bool s1, .slice a1 n1 c1, .bool s2, .slice a2 n2 c2], .agg #[.int .i64 fn, .int .i64 fd], .int .i64 n] w fun e w' => e = .returned (.bool true) ∧ Below w.heap.size w w' := by
 go_enter Tryz.func4, Tryz.ntmps4
 go_wp2_with fail
 obtain ⟨W0, hW0⟩ : ∃ W0, (w.alloc (Obj.cells #[.bool s1, .slice a1 n1 c1, .bool s2, .slice a2 n2 c2] 37)).alloc (Obj.cells #[.int .i64 fn, .int .i64 fd] 39) = W0 := ⟨_, rfl⟩
 have qA : Quad W0 w.heap.size (.bool s1) (.slice a1 n1 c1) (.bool s2) (.slice a2 n2 c2) := by rw [← hW0]; exact (Quad.new _ _ _ _ _ _).below (below_alloc _ _)
 have f0 : W0.cell? ⟨w.heap.size + 1, 0, none⟩ = some (.int .i64 fn) := by rw [← hW0]; simp [go_sem]
 have f1 : W0.cell? ⟨w.heap.size + 1, 1, none⟩ = some (.int .i64 fd) := by rw [← hW0]; simp [go_sem]
 have hB : Below w.heap.size w W0 := by rw [← hW0]; exact (below_alloc _ _).trans ((below_alloc _ _).mono (by simp))
 try rw [hW0]
 clear hW0
 refine (sanity3_true W0 (ht.below hB) (hsy.below hB)).mono ?_
 rintro e w1 ⟨rfl, hk⟩
 have hB := hB.trans (hk.mono hB.size)
 have qA := qA.below hk
 have f0 := (hk.cell (p := ⟨w.heap.size + 1, 0, none⟩) (lt_of_cell f0)).trans f0
 have f1 := (hk.cell (p := ⟨w.heap.size + 1, 1, none⟩) (lt_of_cell f1)).trans f1
 clear hk
 obtain ⟨⟨x10, x11, x12, x13⟩, -, -, -, -⟩ := id qA
 go_wp2_with fail
 clear x10 x11 x12 x13
 refine (small_any s1 s2 a1 a2 n1 n2 c1 c2 g1 g2 e1 e2 w1).mono ?_
 rintro e w2 ⟨rfl, hk⟩
 have hB := hB.trans (hk.mono hB.size)
 have qA := qA.below hk
 have f0 := (hk.cell (p := ⟨w.heap.size + 1, 0, none⟩) (lt_of_cell f0)).trans f0
 have f1 := (hk.cell (p := ⟨w.heap.size + 1, 1, none⟩) (lt_of_cell f1)).trans f1
 clear hk
 obtain ⟨m1, hm1⟩ : ∃ m, min n1 6 = m := ⟨_, rfl⟩
 obtain ⟨m2, hm2⟩ : ∃ m, min n2 6 = m := ⟨_, rfl⟩
 rw [hm1, hm2]
 have r1 := r1.digs (m := m1) (by omega) (by omega)
 have r2 := r2.digs (m := m2) (by omega) (by omega)
 have g1 : m1 ≤ c1 := by omega
 have g2 : m2 ≤ c2 := by omega
 clear hm1 hm2 e1 e2
 obtain ⟨W3, hW3⟩ : ∃ W, (((w2.setCell ⟨w.heap.size, 0, none⟩ (.bool s1)).setCell ⟨w.heap.size, 1, none⟩ (.slice a1 m1 c1)).setCell ⟨w.heap.size, 2, none⟩ (.bool s2)).setCell ⟨w.heap.size, 3, none⟩ (.slice a2 m2 c2) = W := ⟨_, rfl⟩
 obtain ⟨qN, hT⟩ := qA.set _ _ _ _ hW3
 have f0 := (cell_of_block_eq (hT.block (w.heap.size + 1) (lt_of_cell f0) (by omega)) 0).trans f0
 have f1 := (cell_of_block_eq (hT.block (w.heap.size + 1) (lt_of_cell f1) (by omega)) 1).trans f1
 have hB : Below w.heap.size w W3 := by rw [← hW3]; exact below_set4 hB (Nat.le_refl _) _ _ _ _
 obtain ⟨⟨y0, y1, y2, y3⟩, z0, z1, z2, z3⟩ := id qA
 go_wp2_with fail
 try rw [hW3]
 clear hW3 y0 y1 y2 y3 z0 z1 z2 z3 hT qA
 have h0 := h0.below hB
 obtain ⟨o1, r1⟩ := (r1.below hB).arg s1
 obtain ⟨o2, r2⟩ := (r2.below hB).arg s2
 obtain ⟨oR, hR⟩ := RArg.all r1 r2
 clear r2
 have hB := hB.drew
 have f0 : W3.drew.cell? ⟨w.heap.size + 1, 0, none⟩ = some (.int .i64 fn) := f0
 have f1 : W3.drew.cell? ⟨w.heap.size + 1, 1, none⟩ = some (.int .i64 fd) := f1
 have h0 := h0.below (Below.drew (Below.refl W3.heap.size W3))
 have r1 := r1.below (Below.drew (Below.refl W3.heap.size W3))
 have hR := hR.below (Below.drew (Below.refl W3.heap.size W3))
 have qN := qN.below (Below.drew (Below.refl W3.heap.size W3))
 refine wp_region_held_drew (S := fun w' => Below (W3.drew.heap.size) W3.drew w') (by kernel_rfl) (Below.refl _ _) (fun hHeld => ?_)
 obtain ⟨WE, hWE⟩ : ∃ W, W3.drew = W := ⟨_, rfl⟩
 rw [hWE] at hB h0 r1 hR qN f0 f1 hHeld ⊢
 clear hWE hHeld
 have lA := qN.lt
 have lF := lt_of_cell f0
 obtain ⟨⟨x0, x1, x2, x3⟩, -, -, -, -⟩ := id qN
 refine dagT 15 ?hn (fun X => ⟨#[.slice ao L cap, .agg #[.bool s1, .slice a1 n1 c1, .bool s2, .slice a2 n2 c2], .agg #[.int .i64 fn, .int .i64 fd], .int .i64 n, undef, .pointer (some ⟨w.heap.size, 0, none⟩), .pointer (some ⟨w.heap.size + 1, 0, none⟩), undef, .bool false, .bool true, undef, undef, undef, undef, undef, undef, undef, undef, undef, undef, undef, undef, undef, undef, undef, undef, .bool true, .agg #[.bool s1, .slice a1 n1 c1, .bool s2, .slice a2 n2 c2], .agg #[.bool s1, .slice a1 m1 c1, .bool s2, .slice a2 m2 c2], X 0, X 1, X 2, X 3, X 4, X 5, X 6, X 7, X 8, X 9, X 10, X 11, X 12, X 13, X 14, undef, undef, undef, undef, undef, undef, undef, undef, undef, undef, undef, undef, undef, undef, undef, undef, undef, undef, undef, undef, undef, undef, undef, undef, undef, undef, undef, undef, undef, undef, undef, undef, undef, undef, undef, undef, undef, undef, undef, undef, undef, undef, undef, undef, undef, undef, undef, undef, undef, undef, undef, undef, undef, undef, undef, undef, undef, undef, undef, undef, undef, undef, undef, undef, undef, undef, undef, undef, undef, undef, undef, undef, undef, undef, undef, undef, undef, undef, undef, undef, undef, undef, undef, undef, undef, undef, undef, undef, undef, undef, undef, undef, undef, undef, undef, undef, undef, undef, undef, undef, undef, undef, undef, undef, undef, undef, undef, undef, undef, undef, undef, undef, undef, undef], []⟩) [(0, 0, 0), (0, 0, 0), (0, 0, 0), (0, 0, 0), (0, 0, 0), (0, 0, 0), (0, 0, 0), (0, 0, 0), (0, 0, 0), (0, 0, 0), (0, 0, 0), (0, 0, 0), (0, 0, 0), (0, 0, 0), (0, 0, 0)] [.val (.slice ao L cap), anyF, anyF, .val (.pointer (some ⟨w.heap.size, 0, none⟩)), .val (.agg #[.bool s1, .slice a1 m1 c1]), .val (.int .i64 n), .num n true, anyF, .val (.agg #[.int .i64 fn, .int .i64 fd]), anyF, .val (.int .i64 n), anyF, listF 5, .val (.int .i64 5), .val (.int .i64 0)] [[], [0], [], [], [3], [], [5], [4, 6], [], [8], [], [10], [1, 2, 7, 9, 11], [12], []] [0, 1, 2, 3, 4, 5, 6, 7, 8, 9, 10, 11, 12, 13, 14] [] [] 25 37 WE (by kernel_rfl) (by kernel_rfl) (by kernel_rfl) (by kernel_rfl) (by kernel_rfl) ?op ?al ?st ?fin (fun _ => undef) _ _ (by kernel_rfl) (of_decide_eq_true (by kernel_rfl)) (of_decide_eq_true (by kernel_rfl))
 case hn => rfl
 case op =>
  repeat' first | exact Each.nil | refine Each.cons ?_ ?_
  all_goals intro X w7 H hb hD h
  · refine tv rfl (by rfl) ?_ (by exact h _ w7 rfl (Below.refl _ _))
    go_simp <;> rfl
  · have e0_ : X 0 = _ := hD 0 (by decide) rfl
    refine wpOp_call (i := 1) (f := 18) (args := #[.slice ao L cap]) 30 rfl rfl (by simp only [e0_]; rfl) (by simp only [e0_]; go_simp) ?_
    refine (madeC_any ao L cap g hL w7 (h0.below hb)).mono ?_
    rintro e w8 ⟨x, -, s6, a6, n6, c6, t6, b6, m6, d6, rfl, P1, P2, k1, k2, hk, l1, l2⟩
    exact ⟨_, rfl, h _ w8 ⟨s6, a6, n6, c6, t6, b6, m6, d6, rfl, ⟨some x, rarg_of (some x) P1 P2 k1 k2⟩, l1, l2⟩ hk⟩
  · have z0 := (hb.cell (p := ⟨w.heap.size, 0, none⟩) lA).trans x0
    have z1 := (hb.cell (p := ⟨w.heap.size, 1, none⟩) lA).trans x1
    have z2 := (hb.cell (p := ⟨w.heap.size, 2, none⟩) lA).trans x2
    have z3 := (hb.cell (p := ⟨w.heap.size, 3, none⟩) lA).trans x3
    refine tv rfl (by rfl) ?_ (by exact h _ w7 ⟨s1, a1, m1, c1, s2, a2, m2, c2, rfl, ⟨_, hR.below hb⟩, g1, g2⟩ (Below.refl _ _))
    go_simp <;> rfl
  · refine tv rfl (by rfl) ?_ (by exact h _ w7 rfl (Below.refl _ _))
    go_simp <;> rfl
  · have e3_ : X 3 = _ := hD 3 (by decide) rfl
    have z0 := (hb.cell (p := ⟨w.heap.size, 0, none⟩) lA).trans x0
    have z1 := (hb.cell (p := ⟨w.heap.size, 1, none⟩) lA).trans x1
    refine tv rfl (by simp only [e3_]; rfl) ?_ (by exact h _ w7 rfl (Below.refl _ _))
    simp only [e3_]; go_simp <;> rfl
  · refine tv rfl (by rfl) ?_ (by exact h _ w7 rfl (Below.refl _ _))
    go_simp <;> rfl
  · have e5_ : X 5 = _ := hD 5 (by decide) rfl
    refine wpOp_call (i := 6) (f := 19) (args := #[.int .i64 n]) 35 rfl rfl (by simp only [e5_]; rfl) (by simp only [e5_]; go_simp) ?_
    refine (rof_any n i0 i1 w7).mono ?_
    rintro e w8 ⟨s6, a6, n6, c6, rfl, N6, k6, l6, hk⟩
    exact ⟨_, rfl, h _ w8 ⟨s6, a6, n6, c6, rfl, N6, k6, fun _ => l6⟩ hk⟩
  · have e4_ : X 4 = _ := hD 4 (by decide) rfl
    obtain ⟨s6_, a6_, n6_, c6_, e6_, N6_, k6_, q6_⟩ := hD 6 (by decide) rfl
    obtain ⟨ox, hox⟩ := RArg.all (r1.below hb) (N6_.arg k6_)
    refine tv rfl (by simp only [e4_, e6_]; rfl) ?_ (by exact h _ w7 ⟨s1, a1, m1, c1, s6_, a6_, n6_, c6_, rfl, ⟨_, hox⟩, g1, q6_ rfl⟩ (Below.refl _ _))
    simp only [e4_, e6_]; go_simp <;> rfl
  · have z0 := (hb.cell (p := ⟨w.heap.size + 1, 0, none⟩) lF).trans f0
    have z1 := (hb.cell (p := ⟨w.heap.size + 1, 1, none⟩) lF).trans f1
    refine tv rfl (by rfl) ?_ (by exact h _ w7 rfl (Below.refl _ _))
    go_simp <;> rfl
  · have e8_ : X 8 = _ := hD 8 (by decide) rfl
    refine wpOp_call (i := 9) (f := 20) (args := #[.agg #[.int .i64 fn, .int .i64 fd]]) 38 rfl rfl (by simp only [e8_]; rfl) (by simp only [e8_]; go_simp) ?_
    refine (rfracC_o fn fd j0 j1 j2 w7).mono ?_
    rintro e w8 ⟨s6, a6, n6, c6, t6, b6, m6, d6, rfl, P1, P2, k1, k2, hk, l1, l2⟩
    exact ⟨_, rfl, h _ w8 ⟨s6, a6, n6, c6, t6, b6, m6, d6, rfl, ⟨fracO fn fd, rarg_of (fracO fn fd) P1 P2 k1 k2⟩, l1, l2⟩ hk⟩
  · refine tv rfl (by rfl) ?_ (by exact h _ w7 rfl (Below.refl _ _))
    go_simp <;> rfl
  · have e10_ : X 10 = _ := hD 10 (by decide) rfl
    refine wpOp_call (i := 11) (f := 21) (args := #[.int .i64 n]) 40 rfl rfl (by simp only [e10_]; rfl) (by simp only [e10_]; go_simp) ?_
    refine (rintC_r n i0 i1 w7).mono ?_
    rintro e w8 ⟨s6, a6, n6, c6, t6, b6, m6, d6, rfl, P1, P2, k1, k2, hk, l1, l2⟩
    exact ⟨_, rfl, h _ w8 ⟨s6, a6, n6, c6, t6, b6, m6, d6, rfl, ⟨some (n : Rat), rarg_of (some (n : Rat)) P1 P2 k1 k2⟩, l1, l2⟩ hk⟩
  · obtain ⟨s1_, a1_, n1_, c1_, t1_, b1_, m1_, d1_, e1_, ⟨x1_, R1_⟩, k1_, l1_⟩ := hD 1 (by decide) rfl
    obtain ⟨s2_, a2_, n2_, c2_, t2_, b2_, m2_, d2_, e2_, ⟨x2_, R2_⟩, k2_, l2_⟩ := hD 2 (by decide) rfl
    obtain ⟨s7_, a7_, n7_, c7_, t7_, b7_, m7_, d7_, e7_, ⟨x7_, R7_⟩, k7_, l7_⟩ := hD 7 (by decide) rfl
    obtain ⟨s9_, a9_, n9_, c9_, t9_, b9_, m9_, d9_, e9_, ⟨x9_, R9_⟩, k9_, l9_⟩ := hD 9 (by decide) rfl
    obtain ⟨s11_, a11_, n11_, c11_, t11_, b11_, m11_, d11_, e11_, ⟨x11_, R11_⟩, k11_, l11_⟩ := hD 11 (by decide) rfl
    refine wpOp_run rfl ?_
    simp only [e1_, e2_, e7_, e9_, e11_]; go_simp
    simp only [← e1_, ← e2_, ← e7_, ← e9_, ← e11_]
    refine h _ _ ?_ (below_alloc' _ _)
    exact ⟨_, rfl, fun k hk => match k, hk with | 0, _ => ⟨_, _, _, _, _, _, _, _, _, by simp [go_sem], by simp [go_sem], by simp [go_sem], by simp [go_sem], R1_.below (below_alloc' _ _), k1_, l1_⟩ | 1, _ => ⟨_, _, _, _, _, _, _, _, _, by simp [go_sem], by simp [go_sem], by simp [go_sem], by simp [go_sem], R2_.below (below_alloc' _ _), k2_, l2_⟩ | 2, _ => ⟨_, _, _, _, _, _, _, _, _, by simp [go_sem], by simp [go_sem], by simp [go_sem], by simp [go_sem], R7_.below (below_alloc' _ _), k7_, l7_⟩ | 3, _ => ⟨_, _, _, _, _, _, _, _, _, by simp [go_sem], by simp [go_sem], by simp [go_sem], by simp [go_sem], R9_.below (below_alloc' _ _), k9_, l9_⟩ | 4, _ => ⟨_, _, _, _, _, _, _, _, _, by simp [go_sem], by simp [go_sem], by simp [go_sem], by simp [go_sem], R11_.below (below_alloc' _ _), k11_, l11_⟩⟩
  · obtain ⟨bL, e12_, EL⟩ := hD 12 (by decide) rfl
    refine tv rfl (by simp only [e12_]; rfl) ?_ (by exact h _ w7 rfl (Below.refl _ _))
    simp only [e12_]; go_simp <;> rfl
  · refine tv rfl (by rfl) ?_ (by exact h _ w7 rfl (Below.refl _ _))
    go_simp <;> rfl
 case al => exact Each.nil
 case st => exact Each.nil
 case fin =>
  intro X3 w9 hI
  have hE := hI.below
  obtain ⟨bL, e12_, EL⟩ := hI.fact 12 (by decide) rfl rfl
  have e13_ : X3 13 = _ := hI.fact 13 (by decide) rfl rfl
  have e14_ : X3 14 = _ := hI.fact 14 (by decide) rfl rfl
  have h0 := h0.below hE
  have qN := qN.below hE
  clear hI
  simp only [e12_, e13_, e14_]
  clear e12_ e13_ e14_
  have hB := hB.trans (hE.mono hB.size)
  have hF : FracAt w9 (w.heap.size + 1) 0 fn fd := ⟨(hE.cell (p := ⟨w.heap.size + 1, 0, none⟩) lF).trans f0, (hE.cell (p := ⟨w.heap.size + 1, 1, none⟩) lF).trans f1⟩
  clear hE x0 x1 x2 x3 lA lF f0 f1 qN h0
  go_wp2_with fail
  obtain ⟨I1, hI1⟩ : ∃ I : Act → World → Prop, I = fun a W => ∃ k : Nat, k ≤ 5 ∧ a = (⟨#[.slice ao L cap, .agg #[.bool s1, .slice a1 n1 c1, .bool s2, .slice a2 n2 c2], .agg #[.int .i64 fn, .int .i64 fd], .int .i64 n, undef, .pointer (some ⟨w.heap.size, 0, none⟩), .pointer (some ⟨w.heap.size + 1, 0, none⟩), undef, .bool false, .bool true, undef, (fun j => a.tmps.getD j undef) 11, (fun j => a.tmps.getD j undef) 12, (fun j => a.tmps.getD j undef) 13, (fun j => a.tmps.getD j undef) 14, (fun j => a.tmps.getD j undef) 15, (fun j => a.tmps.getD j undef) 16, (fun j => a.tmps.getD j undef) 17, (fun j => a.tmps.getD j undef) 18, (fun j => a.tmps.getD j undef) 19, (fun j => a.tmps.getD j undef) 20, (fun j => a.tmps.getD j undef) 21, (fun j => a.tmps.getD j undef) 22, (fun j => a.tmps.getD j undef) 23, undef, undef, .bool true, .agg #[.bool s1, .slice a1 n1 c1, .bool s2, .slice a2 n2 c2], .agg #[.bool s1, .slice a1 m1 c1, .bool s2, .slice a2 m2 c2], X3 0, X3 1, X3 2, X3 3, X3 4, X3 5, X3 6, X3 7, X3 8, X3 9, X3 10, X3 11, .slice (some ⟨bL, 0, none⟩) 5 5, .int .i64 5, .int .i64 (k : Int), (fun j => a.tmps.getD j undef) 44, (fun j => a.tmps.getD j undef) 45, (fun j => a.tmps.getD j undef) 46, (fun j => a.tmps.getD j undef) 47, (fun j => a.tmps.getD j undef) 48, (fun j => a.tmps.getD j undef) 49, (fun j => a.tmps.getD j undef) 50, (fun j => a.tmps.getD j undef) 51, (fun j => a.tmps.getD j undef) 52, (fun j => a.tmps.getD j undef) 53, (fun j => a.tmps.getD j undef) 54, (fun j => a.tmps.getD j undef) 55, (fun j => a.tmps.getD j undef) 56, (fun j => a.tmps.getD j undef) 57, (fun j => a.tmps.getD j undef) 58, (fun j => a.tmps.getD j undef) 59, (fun j => a.tmps.getD j undef) 60, (fun j => a.tmps.getD j undef) 61, (fun j => a.tmps.getD j undef) 62, (fun j => a.tmps.getD j undef) 63, (fun j => a.tmps.getD j undef) 64, (fun j => a.tmps.getD j undef) 65, (fun j => a.tmps.getD j undef) 66, (fun j => a.tmps.getD j undef) 67, (fun j => a.tmps.getD j undef) 68, (fun j => a.tmps.getD j undef) 69, (fun j => a.tmps.getD j undef) 70, (fun j => a.tmps.getD j undef) 71, (fun j => a.tmps.getD j undef) 72, (fun j => a.tmps.getD j undef) 73, (fun j => a.tmps.getD j undef) 74, (fun j => a.tmps.getD j undef) 75, (fun j => a.tmps.getD j undef) 76, (fun j => a.tmps.getD j undef) 77, (fun j => a.tmps.getD j undef) 78, (fun j => a.tmps.getD j undef) 79, (fun j => a.tmps.getD j undef) 80, (fun j => a.tmps.getD j undef) 81, (fun j => a.tmps.getD j undef) 82, (fun j => a.tmps.getD j undef) 83, (fun j => a.tmps.getD j undef) 84, (fun j => a.tmps.getD j undef) 85, (fun j => a.tmps.getD j undef) 86, (fun j => a.tmps.getD j undef) 87, (fun j => a.tmps.getD j undef) 88, (fun j => a.tmps.getD j undef) 89, (fun j => a.tmps.getD j undef) 90, (fun j => a.tmps.getD j undef) 91, (fun j => a.tmps.getD j undef) 92, (fun j => a.tmps.getD j undef) 93, (fun j => a.tmps.getD j undef) 94, (fun j => a.tmps.getD j undef) 95, (fun j => a.tmps.getD j undef) 96, (fun j => a.tmps.getD j undef) 97, (fun j => a.tmps.getD j undef) 98, (fun j => a.tmps.getD j undef) 99, (fun j => a.tmps.getD j undef) 100, (fun j => a.tmps.getD j undef) 101, (fun j => a.tmps.getD j undef) 102, (fun j => a.tmps.getD j undef) 103, (fun j => a.tmps.getD j undef) 104, (fun j => a.tmps.getD j undef) 105, (fun j => a.tmps.getD j undef) 106, (fun j => a.tmps.getD j undef) 107, (fun j => a.tmps.getD j undef) 108, (fun j => a.tmps.getD j undef) 109, (fun j => a.tmps.getD j undef) 110, (fun j => a.tmps.getD j undef) 111, (fun j => a.tmps.getD j undef) 112, (fun j => a.tmps.getD j undef) 113, (fun j => a.tmps.getD j undef) 114, (fun j => a.tmps.getD j undef) 115, (fun j => a.tmps.getD j undef) 116, (fun j => a.tmps.getD j undef) 117, (fun j => a.tmps.getD j undef) 118, (fun j => a.tmps.getD j undef) 119, (fun j => a.tmps.getD j undef) 120, (fun j => a.tmps.getD j undef) 121, (fun j => a.tmps.getD j undef) 122, (fun j => a.tmps.getD j undef) 123, (fun j => a.tmps.getD j undef) 124, undef, undef, undef, undef, undef, undef, undef, undef, undef, undef, undef, undef, undef, undef, undef, undef, undef, undef, undef, undef, undef, undef, undef, undef, undef, undef, undef, undef, undef, undef, undef, undef, undef], []⟩ : Act) ∧ Below w.heap.size w W ∧ Elems W bL 5 ∧ FracAt W (w.heap.size + 1) 0 fn fd := ⟨_, rfl⟩
  have HI1 := hide hI1
  obtain ⟨M1, hM1⟩ : ∃ M : Act → World → Nat, M = fun a _ => 5 - (intOf (a.tmps.getD 43 undef)).toNat := ⟨_, rfl⟩
  have HM1 := hide hM1
  clear hI1 hM1
  refine wp_loop I1 M1 (by rw [HI1.out]; exact ⟨0, by decide, rfl, hB, EL, hF⟩) ?_
  clear hB EL hF
  intro a W hrel
  rw [HI1.out] at hrel
  obtain ⟨k, hk, ha, hB, EL, hF⟩ := hrel
  obtain ⟨J, hJ⟩ : ∃ J : Nat → Value, (fun j => a.tmps.getD j undef) = J := ⟨_, rfl⟩
  have ha : a = (⟨#[.slice ao L cap, .agg #[.bool s1, .slice a1 n1 c1, .bool s2, .slice a2 n2 c2], .agg #[.int .i64 fn, .int .i64 fd], .int .i64 n, undef, .pointer (some ⟨w.heap.size, 0, none⟩), .pointer (some ⟨w.heap.size + 1, 0, none⟩), undef, .bool false, .bool true, undef, J 11, J 12, J 13, J 14, J 15, J 16, J 17, J 18, J 19, J 20, J 21, J 22, J 23, undef, undef, .bool true, .agg #[.bool s1, .slice a1 n1 c1, .bool s2, .slice a2 n2 c2], .agg #[.bool s1, .slice a1 m1 c1, .bool s2, .slice a2 m2 c2], X3 0, X3 1, X3 2, X3 3, X3 4, X3 5, X3 6, X3 7, X3 8, X3 9, X3 10, X3 11, .slice (some ⟨bL, 0, none⟩) 5 5, .int .i64 5, .int .i64 (k : Int), J 44, J 45, J 46, J 47, J 48, J 49, J 50, J 51, J 52, J 53, J 54, J 55, J 56, J 57, J 58, J 59, J 60, J 61, J 62, J 63, J 64, J 65, J 66, J 67, J 68, J 69, J 70, J 71, J 72, J 73, J 74, J 75, J 76, J 77, J 78, J 79, J 80, J 81, J 82, J 83, J 84, J 85, J 86, J 87, J 88, J 89, J 90, J 91, J 92, J 93, J 94, J 95, J 96, J 97, J 98, J 99, J 100, J 101, J 102, J 103, J 104, J 105, J 106, J 107, J 108, J 109, J 110, J 111, J 112, J 113, J 114, J 115, J 116, J 117, J 118, J 119, J 120, J 121, J 122, J 123, J 124, undef, undef, undef, undef, undef, undef, undef, undef, undef, undef, undef, undef, undef, undef, undef, undef, undef, undef, undef, undef, undef, undef, undef, undef, undef, undef, undef, undef, undef, undef, undef, undef, undef], []⟩ : Act) := by rw [← hJ]; exact ha
  clear hJ
  subst ha
  by_cases hk5 : k < 5
  case pos =>
   obtain ⟨se, ae, ne, ce, te, be, me, de, ox, q0, q1, q2, q3, RE, le1, le2⟩ := EL k hk5
   obtain ⟨o1e, o2e, A1e, A2e⟩ := RE.args
   obtain ⟨FO, hFO⟩ : ∃ O, floorO ox = O := ⟨_, rfl⟩
   have HFO := hide hFO
   obtain ⟨CO, hCO⟩ : ∃ O, ceilO ox = O := ⟨_, rfl⟩
   have HCO := hide hCO
   obtain ⟨SB, hSB⟩ : ∃ O, ox.isSome = O := ⟨_, rfl⟩
   have HSB := hide hSB
   obtain ⟨SG, hSG⟩ : ∃ O, sgnO ox = O := ⟨_, rfl⟩
   have HSG := hide hSG
   obtain ⟨OO, hOO⟩ : ∃ O, ofO o1e o2e = O := ⟨_, rfl⟩
   have HOO := hide hOO
   clear hFO hCO hSB hSG hOO
   have kI : (k : Int) < 5 := by omega
   have kI0 : (0 : Int) ≤ (k : Int) := by omega
   obtain ⟨Ze, hZe⟩ : ∃ Z, W.alloc (Obj.cells #[.bool false, .slice none 0 0, .bool false, .slice none 0 0] 37) = Z := ⟨_, rfl⟩
   obtain ⟨We, hWe⟩ : ∃ Wo, (((Ze.setCell ⟨W.heap.size, 0, none⟩ (.bool se)).setCell ⟨W.heap.size, 1, none⟩ (.slice ae ne ce)).setCell ⟨W.heap.size, 2, none⟩ (.bool te)).setCell ⟨W.heap.size, 3, none⟩ (.slice be me de) = Wo := ⟨_, rfl⟩
   obtain ⟨H11, hk, bxe⟩ := rat_new (c1 := ce) (c2 := de) hZe hWe RE
   obtain ⟨B11, hBe⟩ : ∃ B, W.heap.size = B := ⟨_, rfl⟩
   have l11 : w.heap.size ≤ B11 := by rw [← hBe]; exact hB.size
   have hB := hB.trans (hk.mono hB.size)
   have EL := EL.below hk
   have hF := hF.below hk
   have A1e := A1e.below hk
   have A2e := A2e.below hk
   clear hk
   rw [hBe] at hWe H11 bxe
   obtain ⟨⟨y0, y1, y2, y3⟩, yz0, yz1, yz2, yz3⟩ := id bxe
   obtain ⟨⟨x10, x11, x12, x13⟩, xz10, xz11, xz12, xz13⟩ := id H11.box
   go_wp2_with fail
   try rw [hWe]
   try rw [hBe]
   clear hWe hBe
   clear y0 y1 y2 y3 yz0 yz1 yz2 yz3 x10 x11 x12 x13 xz10 xz11 xz12 xz13
   have cc := floor_r se te ae be ne me ce de (ox) We H11.arg
   rw [HFO.out] at cc
   refine cc.mono ?_
   rintro e w1 ⟨rfl, hk⟩
   have hB := hB.trans (hk.mono hB.size)
   have EL := EL.below hk
   have hF := hF.below hk
   have A1e := A1e.below hk
   have A2e := A2e.below hk
   have H11 := H11.below hk
   clear hk
   clear cc
   obtain ⟨⟨x00, x01, x02, x03⟩, xz00, xz01, xz02, xz03⟩ := id H11.box
   go_wp2_with fail
   clear x00 x01 x02 x03 xz00 xz01 xz02 xz03
   have cc := rfloor_r se te ae be ne me ce de (ox) le1 le2 w1 H11.arg
   rw [HFO.out] at cc
   refine cc.mono ?_
   rintro e w2 ⟨rfl, hk⟩
   have hB := hB.trans (hk.mono hB.size)
   have EL := EL.below hk
   have hF := hF.below hk
   have A1e := A1e.below hk
   have A2e := A2e.below hk
   have H11 := H11.below hk
   clear hk
   clear cc
   obtain ⟨⟨x00, x01, x02, x03⟩, xz00, xz01, xz02, xz03⟩ := id H11.box
   go_wp2_with fail
   clear x00 x01 x02 x03 xz00 xz01 xz02 xz03
   have cc := ceil_r se te ae be ne me ce de (ox) w2 H11.arg
   rw [HCO.out] at cc
   refine cc.mono ?_
   rintro e w3 ⟨rfl, hk⟩
   have hB := hB.trans (hk.mono hB.size)
   have EL := EL.below hk
   have hF := hF.below hk
   have A1e := A1e.below hk
   have A2e := A2e.below hk
   have H11 := H11.below hk
   clear hk
   clear cc
   obtain ⟨⟨x00, x01, x02, x03⟩, xz00, xz01, xz02, xz03⟩ := id H11.box
   go_wp2_with fail
   clear x00 x01 x02 x03 xz00 xz01 xz02 xz03
   have cc := rceil_r se te ae be ne me ce de (ox) le1 le2 w3 H11.arg
   rw [HCO.out] at cc
   refine cc.mono ?_
   rintro e w4 ⟨rfl, hk⟩
   have hB := hB.trans (hk.mono hB.size)
   have EL := EL.below hk
   have hF := hF.below hk
   have A1e := A1e.below hk
   have A2e := A2e.below hk
   have H11 := H11.below hk
   clear hk
   clear cc
   go_wp2_with fail
   have hB := hB.drew
   have EL := EL.below (Below.drew (Below.refl w4.heap.size w4))
   have hF := hF.below (Below.drew (Below.refl w4.heap.size w4))
   have A1e := A1e.below (Below.drew (Below.refl w4.heap.size w4))
   have A2e := A2e.below (Below.drew (Below.refl w4.heap.size w4))
   have H11 := H11.below (Below.drew (Below.refl w4.heap.size w4))
   refine wp_region_held_drew (S := fun w' => Below (w4.drew.heap.size) w4.drew w') (by kernel_rfl) (Below.refl _ _) (fun hHeld => ?_)
   obtain ⟨E10, hWE⟩ : ∃ W, w4.drew = W := ⟨_, rfl⟩
   rw [hWE] at hB EL hF A1e A2e H11 hHeld ⊢
   clear hWE
   have hE := Below.refl E10.heap.size E10
   clear hHeld
   refine dagT 32 ?hn (fun X => ⟨#[.slice ao L cap, .agg #[.bool s1, .slice a1 n1 c1, .bool s2, .slice a2 n2 c2], .agg #[.int .i64 fn, .int .i64 fd], .int .i64 n, undef, .pointer (some ⟨w.heap.size, 0, none⟩), .pointer (some ⟨w.heap.size + 1, 0, none⟩), undef, .bool false, .bool true, undef, .pointer (some ⟨B11, 0, none⟩), .int .i64 (FO.getD 0), .bool FO.isSome, .int .i64 (FO.getD 0), .bool FO.isSome, .int .i64 (CO.getD 0), .bool CO.isSome, .int .i64 (CO.getD 0), .bool CO.isSome, J 20, J 21, J 22, J 23, undef, undef, .bool true, .agg #[.bool s1, .slice a1 n1 c1, .bool s2, .slice a2 n2 c2], .agg #[.bool s1, .slice a1 m1 c1, .bool s2, .slice a2 m2 c2], X3 0, X3 1, X3 2, X3 3, X3 4, X3 5, X3 6, X3 7, X3 8, X3 9, X3 10, X3 11, .slice (some ⟨bL, 0, none⟩) 5 5, .int .i64 5, .int .i64 (k : Int), .bool true, .pointer (some ⟨bL, k * 4, none⟩), .agg #[.bool se, .slice ae ne ce, .bool te, .slice be me de], .tuple #[.int .i64 (FO.getD 0), .bool FO.isSome], .agg #[.bool se, .slice ae ne ce, .bool te, .slice be me de], .tuple #[.int .i64 (FO.getD 0), .bool FO.isSome], .int .i64 (FO.getD 0), .bool FO.isSome, .tuple #[.int .i64 (FO.getD 0), .bool FO.isSome], .agg #[.bool se, .slice ae ne ce, .bool te, .slice be me de], .tuple #[.int .i64 (FO.getD 0), .bool FO.isSome], .int .i64 (FO.getD 0), .bool FO.isSome, .tuple #[.int .i64 (CO.getD 0), .bool CO.isSome], .agg #[.bool se, .slice ae ne ce, .bool te, .slice be me de], .tuple #[.int .i64 (CO.getD 0), .bool CO.isSome], .int .i64 (CO.getD 0), .bool CO.isSome, .tuple #[.int .i64 (CO.getD 0), .bool CO.isSome], .agg #[.bool se, .slice ae ne ce, .bool te, .slice be me de], .tuple #[.int .i64 (CO.getD 0), .bool CO.isSome], .int .i64 (CO.getD 0), .bool CO.isSome, X 0, X 1, X 2, X 3, X 4, X 5, X 6, X 7, X 8, X 9, X 10, X 11, X 12, X 13, X 14, X 15, X 16, X 17, X 18, X 19, X 20, X 21, X 22, X 23, X 24, X 25, X 26, X 27, X 28, X 29, X 30, X 31, J 99, J 100, J 101, J 102, J 103, J 104, J 105, J 106, J 107, J 108, J 109, J 110, J 111, J 112, J 113, J 114, J 115, J 116, J 117, J 118, J 119, J 120, J 121, J 122, J 123, J 124, undef, undef, undef, undef, undef, undef, undef, undef, undef, undef, undef, undef, undef, undef, undef, undef, undef, undef, undef, undef, undef, undef, undef, undef, undef, undef, undef, undef, undef, undef, undef, undef, undef], []⟩) [(0, 0, 0), (0, 0, 0), (0, 0, 0), (0, 0, 0), (0, 0, 0), (0, 0, 0), (0, 0, 0), (0, 0, 0), (0, 0, 0), (0, 0, 0), (0, 0, 0), (0, 0, 0), (0, 0, 0), (0, 0, 0), (0, 0, 0), (0, 0, 0), (0, 0, 0), (0, 0, 0), (0, 0, 0), (0, 0, 0), (0, 0, 0), (0, 0, 0), (0, 0, 0), (0, 0, 0), (0, 0, 0), (0, 0, 0), (0, 0, 0), (0, 0, 0), (0, 0, 0), (0, 0, 0), (0, 0, 0), (0, 0, 0)] [.val (.agg #[.bool se, .slice ae ne ce, .bool te, .slice be me de]), .val (.bool SB), .val (.agg #[.bool se, .slice ae ne ce, .bool te, .slice be me de]), .val (.bool SB), .val (.bool false), .val (.bool false), .val (.agg #[.bool se, .slice ae ne ce, .bool te, .slice be me de]), .val (.int .i64 SG), .val (.agg #[.bool se, .slice ae ne ce, .bool te, .slice be me de]), .val (.int .i64 SG), .val (.bool false), .val (.bool false), .val (.bool false), .val (.int .i64 (FO.getD 0)), .val (.int .i64 (FO.getD 0)), .val (.bool false), .val (.bool false), .val (.bool false), .val (.bool FO.isSome), .val (.bool FO.isSome), .val (.bool false), .val (.bool false), .val (.bool false), .val (.int .i64 (CO.getD 0)), .val (.int .i64 (CO.getD 0)), .val (.bool false), .val (.bool false), .val (.bool false), .val (.bool CO.isSome), .val (.bool CO.isSome), .val (.bool false), .val (.bool false)] [[], [0], [], [2], [1, 3], [4], [5], [5, 6], [5], [5, 8], [5, 7, 9], [5, 10], [11], [12], [12], [12, 13, 14], [12, 15], [16], [17], [17], [17, 18, 19], [17, 20], [21], [22], [22], [22, 23, 24], [22, 25], [26], [27], [27], [27, 28, 29], [27, 30]] [0, 1, 2, 3, 4, 5, 6, 7, 8, 9, 10, 11, 12, 13, 14, 15, 16, 17, 18, 19, 20, 21, 22, 23, 24, 25, 26, 27, 28, 29, 30, 31] [] [] 25 37 E10 (by kernel_rfl) (by kernel_rfl) (by kernel_rfl) (by kernel_rfl) (by kernel_rfl) ?op ?al ?st ?fin (upd (upd (upd (upd (upd (upd (upd (upd (upd (upd (upd (upd (upd (upd (upd (upd (upd (upd (upd (upd (upd (upd (upd (upd (upd (upd (upd (upd (upd (upd (upd (upd (fun _ => undef) 0 (J 67)) 1 (J 68)) 2 (J 69)) 3 (J 70)) 4 (J 71)) 5 (J 72)) 6 (J 73)) 7 (J 74)) 8 (J 75)) 9 (J 76)) 10 (J 77)) 11 (J 78)) 12 (J 79)) 13 (J 80)) 14 (J 81)) 15 (J 82)) 16 (J 83)) 17 (J 84)) 18 (J 85)) 19 (J 86)) 20 (J 87)) 21 (J 88)) 22 (J 89)) 23 (J 90)) 24 (J 91)) 25 (J 92)) 26 (J 93)) 27 (J 94)) 28 (J 95)) 29 (J 96)) 30 (J 97)) 31 (J 98)) _ _ (by kernel_rfl) (of_decide_eq_true (by kernel_rfl)) (of_decide_eq_true (by kernel_rfl))
   case hn => rfl
   case op =>
    repeat' first | exact Each.nil | refine Each.cons ?_ ?_
    all_goals intro X w7 H hb hD h
    · obtain ⟨⟨z0, z1, z2, z3⟩, -, -, -, -⟩ := (H11.below hb).box
      refine tv rfl (by rfl) ?_ (by exact h _ w7 rfl (Below.refl _ _))
      go_simp <;> rfl
    · have e0_ : X 0 = _ := hD 0 (by decide) rfl
      have H11 := H11.below hb
      have cc := right_r se te ae be ne me ce de (ox) w7 H11.arg
      rw [HSB.out] at cc
      refine wpOp_call (i := 1) (f := 26) (args := #[.agg #[.bool se, .slice ae ne ce, .bool te, .slice be me de]]) 68 rfl rfl (by simp only [e0_]; rfl) (by simp only [e0_]; go_simp) ?_
      refine (cc).mono ?_
      rintro e w8 ⟨rfl, hk⟩
      exact ⟨_, rfl, h _ w8 rfl hk⟩
    · obtain ⟨⟨z0, z1, z2, z3⟩, -, -, -, -⟩ := (H11.below hb).box
      refine tv rfl (by rfl) ?_ (by exact h _ w7 rfl (Below.refl _ _))
      go_simp <;> rfl
    · have e2_ : X 2 = _ := hD 2 (by decide) rfl
      have H11 := H11.below hb
      have cc := rright_r se te ae be ne me ce de (ox) le1 le2 w7 H11.arg
      rw [HSB.out] at cc
      refine wpOp_call (i := 3) (f := 27) (args := #[.agg #[.bool se, .slice ae ne ce, .bool te, .slice be me de]]) 70 rfl rfl (by simp only [e2_]; rfl) (by simp only [e2_]; go_simp) ?_
      refine (cc).mono ?_
      rintro e w8 ⟨rfl, hk⟩
      exact ⟨_, rfl, h _ w8 rfl hk⟩
    · have e1_ : X 1 = _ := hD 1 (by decide) rfl
      have e3_ : X 3 = _ := hD 3 (by decide) rfl
      refine tv rfl (by simp only [e1_, e3_]; rfl) ?_ (by exact h _ w7 rfl (Below.refl _ _))
      simp only [e1_, e3_]; go_simp <;> rfl
    · have e4_ : X 4 = _ := hD 4 (by decide) rfl
      refine tv rfl (by simp only [e4_]; rfl) ?_ (by exact h _ w7 rfl (Below.refl _ _))
      simp only [e4_]; go_simp <;> rfl
    · have e5_ : X 5 = _ := hD 5 (by decide) rfl
      obtain ⟨⟨z0, z1, z2, z3⟩, -, -, -, -⟩ := (H11.below hb).box
      refine tv rfl (by simp only [e5_]; rfl) ?_ (by exact h _ w7 rfl (Below.refl _ _))
      simp only [e5_]; go_simp <;> rfl
    · have e5_ : X 5 = _ := hD 5 (by decide) rfl
      have e6_ : X 6 = _ := hD 6 (by decide) rfl
      have H11 := H11.below hb
      have cc := sign_r se te ae be ne me ce de (ox) w7 H11.arg
      rw [HSG.out] at cc
      refine wpOp_call (i := 7) (f := 28) (args := #[.agg #[.bool se, .slice ae ne ce, .bool te, .slice be me de]]) 74 rfl rfl (by simp only [e5_, e6_]; rfl) (by simp only [e5_, e6_]; go_simp) ?_
      refine (cc).mono ?_
      rintro e w8 ⟨rfl, hk⟩
      exact ⟨_, rfl, h _ w8 rfl hk⟩
    · have e5_ : X 5 = _ := hD 5 (by decide) rfl
      obtain ⟨⟨z0, z1, z2, z3⟩, -, -, -, -⟩ := (H11.below hb).box
      refine tv rfl (by simp only [e5_]; rfl) ?_ (by exact h _ w7 rfl (Below.refl _ _))
      simp only [e5_]; go_simp <;> rfl
    · have e5_ : X 5 = _ := hD 5 (by decide) rfl
      have e8_ : X 8 = _ := hD 8 (by decide) rfl
      have H11 := H11.below hb
      have cc := rsign_r se te ae be ne me ce de (ox) le1 le2 w7 H11.arg
      rw [HSG.out] at cc
      refine wpOp_call (i := 9) (f := 29) (args := #[.agg #[.bool se, .slice ae ne ce, .bool te, .slice be me de]]) 76 rfl rfl (by simp only [e5_, e8_]; rfl) (by simp only [e5_, e8_]; go_simp) ?_
      refine (cc).mono ?_
      rintro e w8 ⟨rfl, hk⟩
      exact ⟨_, rfl, h _ w8 rfl hk⟩
    · have e5_ : X 5 = _ := hD 5 (by decide) rfl
      have e7_ : X 7 = _ := hD 7 (by decide) rfl
      have e9_ : X 9 = _ := hD 9 (by decide) rfl
      refine tv rfl (by simp only [e5_, e7_, e9_]; rfl) ?_ (by exact h _ w7 rfl (Below.refl _ _))
      simp only [e5_, e7_, e9_]; go_simp <;> rfl
    · have e5_ : X 5 = _ := hD 5 (by decide) rfl
      have e10_ : X 10 = _ := hD 10 (by decide) rfl
      refine tv rfl (by simp only [e5_, e10_]; rfl) ?_ (by exact h _ w7 rfl (Below.refl _ _))
      simp only [e5_, e10_]; go_simp <;> rfl
    · have e11_ : X 11 = _ := hD 11 (by decide) rfl
      refine tv rfl (by simp only [e11_]; rfl) ?_ (by exact h _ w7 rfl (Below.refl _ _))
      simp only [e11_]; go_simp <;> rfl
    · have e12_ : X 12 = _ := hD 12 (by decide) rfl
      refine tv rfl (by simp only [e12_]; rfl) ?_ (by exact h _ w7 rfl (Below.refl _ _))
      simp only [e12_]; go_simp <;> rfl
    · have e12_ : X 12 = _ := hD 12 (by decide) rfl
      refine tv rfl (by simp only [e12_]; rfl) ?_ (by exact h _ w7 rfl (Below.refl _ _))
      simp only [e12_]; go_simp <;> rfl
    · have e12_ : X 12 = _ := hD 12 (by decide) rfl
      have e13_ : X 13 = _ := hD 13 (by decide) rfl
      have e14_ : X 14 = _ := hD 14 (by decide) rfl
      refine tv rfl (by simp only [e12_, e13_, e14_]; rfl) ?_ (by exact h _ w7 rfl (Below.refl _ _))
      simp only [e12_, e13_, e14_]; go_simp <;> rfl
    · have e12_ : X 12 = _ := hD 12 (by decide) rfl
      have e15_ : X 15 = _ := hD 15 (by decide) rfl
      refine tv rfl (by simp only [e12_, e15_]; rfl) ?_ (by exact h _ w7 rfl (Below.refl _ _))
      simp only [e12_, e15_]; go_simp <;> rfl
    · have e16_ : X 16 = _ := hD 16 (by decide) rfl
      refine tv rfl (by simp only [e16_]; rfl) ?_ (by exact h _ w7 rfl (Below.refl _ _))
      simp only [e16_]; go_simp <;> rfl
    · have e17_ : X 17 = _ := hD 17 (by decide) rfl
      refine tv rfl (by simp only [e17_]; rfl) ?_ (by exact h _ w7 rfl (Below.refl _ _))
      simp only [e17_]; go_simp <;> rfl
    · have e17_ : X 17 = _ := hD 17 (by decide) rfl
      refine tv rfl (by simp only [e17_]; rfl) ?_ (by exact h _ w7 rfl (Below.refl _ _))
      simp only [e17_]; go_simp <;> rfl
    · have e17_ : X 17 = _ := hD 17 (by decide) rfl
      have e18_ : X 18 = _ := hD 18 (by decide) rfl
      have e19_ : X 19 = _ := hD 19 (by decide) rfl
      refine tv rfl (by simp only [e17_, e18_, e19_]; rfl) ?_ (by exact h _ w7 rfl (Below.refl _ _))
      simp only [e17_, e18_, e19_]; go_simp <;> rfl
    · have e17_ : X 17 = _ := hD 17 (by decide) rfl
      have e20_ : X 20 = _ := hD 20 (by decide) rfl
      refine tv rfl (by simp only [e17_, e20_]; rfl) ?_ (by exact h _ w7 rfl (Below.refl _ _))
      simp only [e17_, e20_]; go_simp <;> rfl
    · have e21_ : X 21 = _ := hD 21 (by decide) rfl
      refine tv rfl (by simp only [e21_]; rfl) ?_ (by exact h _ w7 rfl (Below.refl _ _))
      simp only [e21_]; go_simp <;> rfl
    · have e22_ : X 22 = _ := hD 22 (by decide) rfl
      refine tv rfl (by simp only [e22_]; rfl) ?_ (by exact h _ w7 rfl (Below.refl _ _))
      simp only [e22_]; go_simp <;> rfl
    · have e22_ : X 22 = _ := hD 22 (by decide) rfl
      refine tv rfl (by simp only [e22_]; rfl) ?_ (by exact h _ w7 rfl (Below.refl _ _))
      simp only [e22_]; go_simp <;> rfl
    · have e22_ : X 22 = _ := hD 22 (by decide) rfl
      have e23_ : X 23 = _ := hD 23 (by decide) rfl
      have e24_ : X 24 = _ := hD 24 (by decide) rfl
      refine tv rfl (by simp only [e22_, e23_, e24_]; rfl) ?_ (by exact h _ w7 rfl (Below.refl _ _))
      simp only [e22_, e23_, e24_]; go_simp <;> rfl
    · have e22_ : X 22 = _ := hD 22 (by decide) rfl
      have e25_ : X 25 = _ := hD 25 (by decide) rfl
      refine tv rfl (by simp only [e22_, e25_]; rfl) ?_ (by exact h _ w7 rfl (Below.refl _ _))
      simp only [e22_, e25_]; go_simp <;> rfl
    · have e26_ : X 26 = _ := hD 26 (by decide) rfl
      refine tv rfl (by simp only [e26_]; rfl) ?_ (by exact h _ w7 rfl (Below.refl _ _))
      simp only [e26_]; go_simp <;> rfl
    · have e27_ : X 27 = _ := hD 27 (by decide) rfl
      refine tv rfl (by simp only [e27_]; rfl) ?_ (by exact h _ w7 rfl (Below.refl _ _))
      simp only [e27_]; go_simp <;> rfl
    · have e27_ : X 27 = _ := hD 27 (by decide) rfl
      refine tv rfl (by simp only [e27_]; rfl) ?_ (by exact h _ w7 rfl (Below.refl _ _))
      simp only [e27_]; go_simp <;> rfl
    · have e27_ : X 27 = _ := hD 27 (by decide) rfl
      have e28_ : X 28 = _ := hD 28 (by decide) rfl
      have e29_ : X 29 = _ := hD 29 (by decide) rfl
      refine tv rfl (by simp only [e27_, e28_, e29_]; rfl) ?_ (by exact h _ w7 rfl (Below.refl _ _))
      simp only [e27_, e28_, e29_]; go_simp <;> rfl
    · have e27_ : X 27 = _ := hD 27 (by decide) rfl
      have e30_ : X 30 = _ := hD 30 (by decide) rfl
      refine tv rfl (by simp only [e27_, e30_]; rfl) ?_ (by exact h _ w7 rfl (Below.refl _ _))
      simp only [e27_, e30_]; go_simp <;> rfl
   case al => exact Each.nil
   case st => exact Each.nil
   case fin =>
    intro X10 u10 hI
    have hE := hI.below
    have e31_ : X10 31 = _ := hI.fact 31 (by decide) rfl rfl
    have EL := EL.below hE
    have hF := hF.below hE
    have A1e := A1e.below hE
    have A2e := A2e.below hE
    have H11 := H11.below hE
    clear hI
    simp only [e31_]
    clear e31_
    have hB := hB.trans (hE.mono hB.size)
    clear hE
    obtain ⟨⟨x00, x01, x02, x03⟩, xz00, xz01, xz02, xz03⟩ := id H11.box
    go_wp2_with fail
    clear x00 x01 x02 x03 xz00 xz01 xz02 xz03
    have cc := of_o se te ae be ne me ce de o1e o2e u10 A1e A2e
    rw [HOO.out] at cc
    refine cc.mono ?_
    rintro e w5 ⟨s104, a104, n104, c104, t104, b104, m104, d104, rfl, P1, P2, k1, k2, hk⟩
    have hB := hB.trans (hk.mono hB.size)
    have EL := EL.below hk
    have hF := hF.below hk
    have A1e := A1e.below hk
    have A2e := A2e.below hk
    have H11 := H11.below hk
    clear hk
    clear cc
    have R104 := rarg_of (OO) P1 P2 k1 k2
    have P104 := P1
    have M104 := P2
    have k104 := k1
    have l104 := k2
    clear P1 P2 k1 k2
    obtain ⟨Z104, hZ104⟩ : ∃ Z, w5.alloc (Obj.cells #[.bool false, .slice none 0 0, .bool false, .slice none 0 0] 37) = Z := ⟨_, rfl⟩
    obtain ⟨W104, hW104⟩ : ∃ Wo, (((Z104.setCell ⟨w5.heap.size, 0, none⟩ (.bool s104)).setCell ⟨w5.heap.size, 1, none⟩ (.slice a104 n104 c104)).setCell ⟨w5.heap.size, 2, none⟩ (.bool t104)).setCell ⟨w5.heap.size, 3, none⟩ (.slice b104 m104 d104) = Wo := ⟨_, rfl⟩
    obtain ⟨H20, hk, bx104⟩ := rat_new (c1 := c104) (c2 := d104) hZ104 hW104 R104
    obtain ⟨B20, hB104⟩ : ∃ B, w5.heap.size = B := ⟨_, rfl⟩
    have l20 : w.heap.size ≤ B20 := by rw [← hB104]; exact hB.size
    have l11_20 : B11 < B20 := by rw [← hB104]; exact H11.box.lt
    have hB := hB.trans (hk.mono hB.size)
    have EL := EL.below hk
    have hF := hF.below hk
    have A1e := A1e.below hk
    have A2e := A2e.below hk
    have H11 := H11.below hk
    have R104 := R104.below hk
    have P104 := P104.below hk
    have M104 := M104.below hk
    clear hk
    rw [hB104] at hW104 H20 bx104
    clear R104
    obtain ⟨⟨y0, y1, y2, y3⟩, yz0, yz1, yz2, yz3⟩ := id bx104
    obtain ⟨⟨x10, x11, x12, x13⟩, xz10, xz11, xz12, xz13⟩ := id H11.box
    go_wp2_with fail
    try rw [hW104]
    try rw [hB104]
    clear hW104 hB104
    clear y0 y1 y2 y3 yz0 yz1 yz2 yz3 x10 x11 x12 x13 xz10 xz11 xz12 xz13
    have cc := rof_o se te ae be ne me ce de o1e o2e le1 le2 W104 A1e A2e
    rw [HOO.out] at cc
    refine cc.mono ?_
    rintro e w6 ⟨s112, a112, n112, c112, t112, b112, m112, d112, rfl, P1, P2, k1, k2, hk, -, -⟩
    have hB := hB.trans (hk.mono hB.size)
    have EL := EL.below hk
    have hF := hF.below hk
    have A1e := A1e.below hk
    have A2e := A2e.below hk
    have H11 := H11.below hk
    have P104 := P104.below hk
    have M104 := M104.below hk
    have H20 := H20.below hk
    clear hk
    clear cc
    have R112 := rarg_of (OO) P1 P2 k1 k2
    have P112 := P1
    have M112 := P2
    have k112 := k1
    have l112 := k2
    clear P1 P2 k1 k2
    obtain ⟨Z112, hZ112⟩ : ∃ Z, w6.alloc (Obj.cells #[.bool false, .slice none 0 0, .bool false, .slice none 0 0] 37) = Z := ⟨_, rfl⟩
    obtain ⟨W112, hW112⟩ : ∃ Wo, (((Z112.setCell ⟨w6.heap.size, 0, none⟩ (.bool s112)).setCell ⟨w6.heap.size, 1, none⟩ (.slice a112 n112 c112)).setCell ⟨w6.heap.size, 2, none⟩ (.bool t112)).setCell ⟨w6.heap.size, 3, none⟩ (.slice b112 m112 d112) = Wo := ⟨_, rfl⟩
    obtain ⟨H22, hk, bx112⟩ := rat_new (c1 := c112) (c2 := d112) hZ112 hW112 R112
    obtain ⟨B22, hB112⟩ : ∃ B, w6.heap.size = B := ⟨_, rfl⟩
    have l22 : w.heap.size ≤ B22 := by rw [← hB112]; exact hB.size
    have l11_22 : B11 < B22 := by rw [← hB112]; exact H11.box.lt
    have l20_22 : B20 < B22 := by rw [← hB112]; exact H20.box.lt
    have hB := hB.trans (hk.mono hB.size)
    have EL := EL.below hk
    have hF := hF.below hk
    have A1e := A1e.below hk
    have A2e := A2e.below hk
    have H11 := H11.below hk
    have P104 := P104.below hk
    have M104 := M104.below hk
    have H20 := H20.below hk
    have R112 := R112.below hk
    have P112 := P112.below hk
    have M112 := M112.below hk
    clear hk
    rw [hB112] at hW112 H22 bx112
    clear R112
    obtain ⟨⟨y0, y1, y2, y3⟩, yz0, yz1, yz2, yz3⟩ := id bx112
    obtain ⟨⟨x10, x11, x12, x13⟩, xz10, xz11, xz12, xz13⟩ := id H20.box
    obtain ⟨⟨x20, x21, x22, x23⟩, xz20, xz21, xz22, xz23⟩ := id H22.box
    go_wp2_with fail
    try rw [hW112]
    try rw [hB112]
    clear hW112 hB112
    clear y0 y1 y2 y3 yz0 yz1 yz2 yz3 x10 x11 x12 x13 xz10 xz11 xz12 xz13 x20 x21 x22 x23 xz20 xz21 xz22 xz23
    have cc := same_r s104 t104 s112 t112 a104 b104 a112 b112 n104 m104 n112 m112 c104 d104 c112 d112 _ _ k104 l104 W112 P104 M104 P112 M112
    refine cc.mono ?_
    rintro e w7 ⟨rfl, hk⟩
    have hB := hB.trans (hk.mono hB.size)
    have EL := EL.below hk
    have hF := hF.below hk
    have A1e := A1e.below hk
    have A2e := A2e.below hk
    have H11 := H11.below hk
    have P104 := P104.below hk
    have M104 := M104.below hk
    have H20 := H20.below hk
    have P112 := P112.below hk
    have M112 := M112.below hk
    have H22 := H22.below hk
    clear hk
    clear cc
    go_wp2
    refine ⟨by rw [HI1.out]; exact ⟨k + 1, by omega, rfl, hB, EL, hF⟩, ?_⟩
    rw [HM1.out]
    show 5 - (intOf (.int .i64 _)).toNat < 5 - (intOf (.int .i64 _)).toNat
    simp [intOf]; omega
  case neg =>
   obtain rfl : k = 5 := by omega
   clear hk hk5
   obtain ⟨r0, r1⟩ := tmod_bd fn (show (0 : Int) < 100 by decide)
   obtain ⟨r, hr⟩ : ∃ r, Int.tmod fn 100 = r := ⟨_, rfl⟩
   rw [hr] at r0 r1
   obtain ⟨q0, q1⟩ := tmod_bd fd (show (0 : Int) < 100 by decide)
   obtain ⟨q, hq⟩ : ∃ q, Int.tmod fd 100 = q := ⟨_, rfl⟩
   rw [hq] at q0 q1
   obtain ⟨V, hV⟩ : ∃ V, W.alloc (Obj.cells #[.int .i64 fn, .int .i64 fd, .int .i64 r, .int .i64 q, .int .i64 n, .int .i64 1, .int .i64 1, .int .i64 n] 39) = V := ⟨_, rfl⟩
   obtain ⟨bF, hbF⟩ : ∃ b, W.heap.size = b := ⟨_, rfl⟩
   have FL : Fracs V bF 4 := by
    rw [← hV, ← hbF]
    intro k hk
    match k, hk with
    | 0, _ => exact ⟨fn, fd, ⟨by simp [go_sem], by simp [go_sem]⟩, j0, j1, j2⟩
    | 1, _ => exact ⟨r, q, ⟨by simp [go_sem], by simp [go_sem]⟩, by omega, by omega, by omega⟩
    | 2, _ => exact ⟨n, 1, ⟨by simp [go_sem], by simp [go_sem]⟩, i0, i1, by decide⟩
    | 3, _ => exact ⟨1, n, ⟨by simp [go_sem], by simp [go_sem]⟩, by decide, by decide, i1⟩
   have hB : Below w.heap.size w V := by rw [← hV]; exact hB.trans ((below_alloc' W _).mono hB.size)
   obtain ⟨z0, z1⟩ := id hF
   go_wp2_with fail
   try rw [hV]
   try rw [hbF]
   clear hV hbF z0 z1 hF EL hr hq r0 r1 q0 q1
   obtain ⟨I2, hI2⟩ : ∃ I : Act → World → Prop, I = fun a W => ∃ k : Nat, k ≤ 4 ∧ a = (⟨#[(fun j => a.tmps.getD j undef) 0, (fun j => a.tmps.getD j undef) 1, (fun j => a.tmps.getD j undef) 2, .int .i64 n, (fun j => a.tmps.getD j undef) 4, (fun j => a.tmps.getD j undef) 5, (fun j => a.tmps.getD j undef) 6, (fun j => a.tmps.getD j undef) 7, .bool false, .bool true, (fun j => a.tmps.getD j undef) 10, (fun j => a.tmps.getD j undef) 11, (fun j => a.tmps.getD j undef) 12, (fun j => a.tmps.getD j undef) 13, (fun j => a.tmps.getD j undef) 14, (fun j => a.tmps.getD j undef) 15, (fun j => a.tmps.getD j undef) 16, (fun j => a.tmps.getD j undef) 17, (fun j => a.tmps.getD j undef) 18, (fun j => a.tmps.getD j undef) 19, (fun j => a.tmps.getD j undef) 20, (fun j => a.tmps.getD j undef) 21, (fun j => a.tmps.getD j undef) 22, (fun j => a.tmps.getD j undef) 23, (fun j => a.tmps.getD j undef) 24, (fun j => a.tmps.getD j undef) 25, (fun j => a.tmps.getD j undef) 26, (fun j => a.tmps.getD j undef) 27, (fun j => a.tmps.getD j undef) 28, (fun j => a.tmps.getD j undef) 29, (fun j => a.tmps.getD j undef) 30, (fun j => a.tmps.getD j undef) 31, (fun j => a.tmps.getD j undef) 32, (fun j => a.tmps.getD j undef) 33, (fun j => a.tmps.getD j undef) 34, (fun j => a.tmps.getD j undef) 35, (fun j => a.tmps.getD j undef) 36, (fun j => a.tmps.getD j undef) 37, (fun j => a.tmps.getD j undef) 38, (fun j => a.tmps.getD j undef) 39, (fun j => a.tmps.getD j undef) 40, (fun j => a.tmps.getD j undef) 41, (fun j => a.tmps.getD j undef) 42, (fun j => a.tmps.getD j undef) 43, (fun j => a.tmps.getD j undef) 44, (fun j => a.tmps.getD j undef) 45, (fun j => a.tmps.getD j undef) 46, (fun j => a.tmps.getD j undef) 47, (fun j => a.tmps.getD j undef) 48, (fun j => a.tmps.getD j undef) 49, (fun j => a.tmps.getD j undef) 50, (fun j => a.tmps.getD j undef) 51, (fun j => a.tmps.getD j undef) 52, (fun j => a.tmps.getD j undef) 53, (fun j => a.tmps.getD j undef) 54, (fun j => a.tmps.getD j undef) 55, (fun j => a.tmps.getD j undef) 56, (fun j => a.tmps.getD j undef) 57, (fun j => a.tmps.getD j undef) 58, (fun j => a.tmps.getD j undef) 59, (fun j => a.tmps.getD j undef) 60, (fun j => a.tmps.getD j undef) 61, (fun j => a.tmps.getD j undef) 62, (fun j => a.tmps.getD j undef) 63, (fun j => a.tmps.getD j undef) 64, (fun j => a.tmps.getD j undef) 65, (fun j => a.tmps.getD j undef) 66, (fun j => a.tmps.getD j undef) 67, (fun j => a.tmps.getD j undef) 68, (fun j => a.tmps.getD j undef) 69, (fun j => a.tmps.getD j undef) 70, (fun j => a.tmps.getD j undef) 71, (fun j => a.tmps.getD j undef) 72, (fun j => a.tmps.getD j undef) 73, (fun j => a.tmps.getD j undef) 74, (fun j => a.tmps.getD j undef) 75, (fun j => a.tmps.getD j undef) 76, (fun j => a.tmps.getD j undef) 77, (fun j => a.tmps.getD j undef) 78, (fun j => a.tmps.getD j undef) 79, (fun j => a.tmps.getD j undef) 80, (fun j => a.tmps.getD j undef) 81, (fun j => a.tmps.getD j undef) 82, (fun j => a.tmps.getD j undef) 83, (fun j => a.tmps.getD j undef) 84, (fun j => a.tmps.getD j undef) 85, (fun j => a.tmps.getD j undef) 86, (fun j => a.tmps.getD j undef) 87, (fun j => a.tmps.getD j undef) 88, (fun j => a.tmps.getD j undef) 89, (fun j => a.tmps.getD j undef) 90, (fun j => a.tmps.getD j undef) 91, (fun j => a.tmps.getD j undef) 92, (fun j => a.tmps.getD j undef) 93, (fun j => a.tmps.getD j undef) 94, (fun j => a.tmps.getD j undef) 95, (fun j => a.tmps.getD j undef) 96, (fun j => a.tmps.getD j undef) 97, (fun j => a.tmps.getD j undef) 98, (fun j => a.tmps.getD j undef) 99, (fun j => a.tmps.getD j undef) 100, (fun j => a.tmps.getD j undef) 101, (fun j => a.tmps.getD j undef) 102, (fun j => a.tmps.getD j undef) 103, (fun j => a.tmps.getD j undef) 104, (fun j => a.tmps.getD j undef) 105, (fun j => a.tmps.getD j undef) 106, (fun j => a.tmps.getD j undef) 107, (fun j => a.tmps.getD j undef) 108, (fun j => a.tmps.getD j undef) 109, (fun j => a.tmps.getD j undef) 110, (fun j => a.tmps.getD j undef) 111, (fun j => a.tmps.getD j undef) 112, (fun j => a.tmps.getD j undef) 113, (fun j => a.tmps.getD j undef) 114, (fun j => a.tmps.getD j undef) 115, (fun j => a.tmps.getD j undef) 116, (fun j => a.tmps.getD j undef) 117, (fun j => a.tmps.getD j undef) 118, (fun j => a.tmps.getD j undef) 119, (fun j => a.tmps.getD j undef) 120, (fun j => a.tmps.getD j undef) 121, (fun j => a.tmps.getD j undef) 122, (fun j => a.tmps.getD j undef) 123, (fun j => a.tmps.getD j undef) 124, (fun j => a.tmps.getD j undef) 125, (fun j => a.tmps.getD j undef) 126, (fun j => a.tmps.getD j undef) 127, (fun j => a.tmps.getD j undef) 128, (fun j => a.tmps.getD j undef) 129, (fun j => a.tmps.getD j undef) 130, (fun j => a.tmps.getD j undef) 131, (fun j => a.tmps.getD j undef) 132, (fun j => a.tmps.getD j undef) 133, (fun j => a.tmps.getD j undef) 134, (fun j => a.tmps.getD j undef) 135, (fun j => a.tmps.getD j undef) 136, .slice (some ⟨bF, 0, none⟩) 4 4, .int .i64 4, .int .i64 (k : Int), (fun j => a.tmps.getD j undef) 140, (fun j => a.tmps.getD j undef) 141, (fun j => a.tmps.getD j undef) 142, (fun j => a.tmps.getD j undef) 143, (fun j => a.tmps.getD j undef) 144, (fun j => a.tmps.getD j undef) 145, (fun j => a.tmps.getD j undef) 146, (fun j => a.tmps.getD j undef) 147, (fun j => a.tmps.getD j undef) 148, (fun j => a.tmps.getD j undef) 149, (fun j => a.tmps.getD j undef) 150, (fun j => a.tmps.getD j undef) 151, (fun j => a.tmps.getD j undef) 152, (fun j => a.tmps.getD j undef) 153, (fun j => a.tmps.getD j undef) 154, (fun j => a.tmps.getD j undef) 155, (fun j => a.tmps.getD j undef) 156, (fun j => a.tmps.getD j undef) 157], []⟩ : Act) ∧ Below w.heap.size w W ∧ Fracs W bF 4 := ⟨_, rfl⟩
   have HI2 := hide hI2
   obtain ⟨M2, hM2⟩ : ∃ M : Act → World → Nat, M = fun a _ => 4 - (intOf (a.tmps.getD 139 undef)).toNat := ⟨_, rfl⟩
   have HM2 := hide hM2
   clear hI2 hM2
   refine wp_loop I2 M2 (by rw [HI2.out]; exact ⟨0, by decide, rfl, hB, FL⟩) ?_
   clear hB FL
   intro a W hrel
   rw [HI2.out] at hrel
   obtain ⟨k, hk, ha, hB, FL⟩ := hrel
   obtain ⟨J2, hJ⟩ : ∃ J : Nat → Value, (fun j => a.tmps.getD j undef) = J := ⟨_, rfl⟩
   have ha : a = (⟨#[J2 0, J2 1, J2 2, .int .i64 n, J2 4, J2 5, J2 6, J2 7, .bool false, .bool true, J2 10, J2 11, J2 12, J2 13, J2 14, J2 15, J2 16, J2 17, J2 18, J2 19, J2 20, J2 21, J2 22, J2 23, J2 24, J2 25, J2 26, J2 27, J2 28, J2 29, J2 30, J2 31, J2 32, J2 33, J2 34, J2 35, J2 36, J2 37, J2 38, J2 39, J2 40, J2 41, J2 42, J2 43, J2 44, J2 45, J2 46, J2 47, J2 48, J2 49, J2 50, J2 51, J2 52, J2 53, J2 54, J2 55, J2 56, J2 57, J2 58, J2 59, J2 60, J2 61, J2 62, J2 63, J2 64, J2 65, J2 66, J2 67, J2 68, J2 69, J2 70, J2 71, J2 72, J2 73, J2 74, J2 75, J2 76, J2 77, J2 78, J2 79, J2 80, J2 81, J2 82, J2 83, J2 84, J2 85, J2 86, J2 87, J2 88, J2 89, J2 90, J2 91, J2 92, J2 93, J2 94, J2 95, J2 96, J2 97, J2 98, J2 99, J2 100, J2 101, J2 102, J2 103, J2 104, J2 105, J2 106, J2 107, J2 108, J2 109, J2 110, J2 111, J2 112, J2 113, J2 114, J2 115, J2 116, J2 117, J2 118, J2 119, J2 120, J2 121, J2 122, J2 123, J2 124, J2 125, J2 126, J2 127, J2 128, J2 129, J2 130, J2 131, J2 132, J2 133, J2 134, J2 135, J2 136, .slice (some ⟨bF, 0, none⟩) 4 4, .int .i64 4, .int .i64 (k : Int), J2 140, J2 141, J2 142, J2 143, J2 144, J2 145, J2 146, J2 147, J2 148, J2 149, J2 150, J2 151, J2 152, J2 153, J2 154, J2 155, J2 156, J2 157], []⟩ : Act) := by rw [← hJ]; exact ha
   clear hJ
   subst ha
   by_cases hk4 : k < 4
   case pos =>
    obtain ⟨x, y, hxy, x0, x1, y1⟩ := FL k hk4
    obtain ⟨q0, q1⟩ := id hxy
    have kI : (k : Int) < 4 := by omega
    have kI0 : (0 : Int) ≤ (k : Int) := by omega
    obtain ⟨Z25, hZ25⟩ : ∃ Z, W.alloc (Obj.cells #[.int .i64 0, .int .i64 0] 39) = Z := ⟨_, rfl⟩
    obtain ⟨W25, hW25⟩ : ∃ V, (Z25.setCell ⟨W.heap.size, 0, none⟩ (.int .i64 x)).setCell ⟨W.heap.size, 1, none⟩ (.int .i64 y) = V := ⟨_, rfl⟩
    obtain ⟨h25, hk', u0, u1, v0, v1⟩ := frac_new hZ25 hW25
    obtain ⟨B25, hB25⟩ : ∃ b, W.heap.size = b := ⟨_, rfl⟩
    have hB := hB.trans (hk'.mono hB.size)
    have FL := FL.below hk'
    rw [hB25] at hW25 h25 u0 u1 v0 v1
    clear hk'
    obtain ⟨t0, t1⟩ := id h25
    go_wp2_with fail
    try rw [hW25]
    try rw [hB25]
    clear hW25 hB25 hZ25 u0 u1 v0 v1 t0 t1 q0 q1 hxy
    have hB := hB.drew
    have FL := FL.below (Below.drew (Below.refl W25.heap.size W25))
    have h25 := h25.below (Below.drew (Below.refl W25.heap.size W25))
    refine wp_region_held_drew (S := fun w' => Below (W25.drew.heap.size) W25.drew w') (by kernel_rfl) (Below.refl _ _) (fun hHeld => ?_)
    obtain ⟨WF, hWE⟩ : ∃ W, W25.drew = W := ⟨_, rfl⟩
    rw [hWE] at hB FL h25 hHeld ⊢
    clear hWE
    have hE := Below.refl WF.heap.size WF
    obtain ⟨t0, t1⟩ := id h25
    have lT := lt_of_cell t0
    clear hHeld
    refine dagT 6 ?hn (fun X => ⟨#[J2 0, J2 1, J2 2, .int .i64 n, J2 4, J2 5, J2 6, J2 7, .bool false, .bool true, J2 10, J2 11, J2 12, J2 13, J2 14, J2 15, J2 16, J2 17, J2 18, J2 19, J2 20, J2 21, J2 22, J2 23, J2 24, .pointer (some ⟨B25, 0, none⟩), J2 26, J2 27, J2 28, J2 29, J2 30, J2 31, J2 32, J2 33, J2 34, J2 35, J2 36, J2 37, J2 38, J2 39, J2 40, J2 41, J2 42, J2 43, J2 44, J2 45, J2 46, J2 47, J2 48, J2 49, J2 50, J2 51, J2 52, J2 53, J2 54, J2 55, J2 56, J2 57, J2 58, J2 59, J2 60, J2 61, J2 62, J2 63, J2 64, J2 65, J2 66, J2 67, J2 68, J2 69, J2 70, J2 71, J2 72, J2 73, J2 74, J2 75, J2 76, J2 77, J2 78, J2 79, J2 80, J2 81, J2 82, J2 83, J2 84, J2 85, J2 86, J2 87, J2 88, J2 89, J2 90, J2 91, J2 92, J2 93, J2 94, J2 95, J2 96, J2 97, J2 98, J2 99, J2 100, J2 101, J2 102, J2 103, J2 104, J2 105, J2 106, J2 107, J2 108, J2 109, J2 110, J2 111, J2 112, J2 113, J2 114, J2 115, J2 116, J2 117, J2 118, J2 119, J2 120, J2 121, J2 122, J2 123, J2 124, J2 125, J2 126, J2 127, J2 128, J2 129, J2 130, J2 131, J2 132, J2 133, J2 134, J2 135, J2 136, .slice (some ⟨bF, 0, none⟩) 4 4, .int .i64 4, .int .i64 (k : Int), .bool true, .pointer (some ⟨bF, k * 2, none⟩), .agg #[.int .i64 x, .int .i64 y], X 0, X 1, X 2, X 3, X 4, X 5, J2 149, J2 150, J2 151, J2 152, J2 153, J2 154, J2 155, J2 156, J2 157], []⟩) [(0, 0, 0), (0, 0, 0), (0, 0, 0), (0, 0, 0), (0, 0, 0), (0, 0, 0)] [.val (.agg #[.int .i64 x, .int .i64 y]), .rat (numO (fracO x y)) (denO (fracO x y)) false, .val (.agg #[.int .i64 x, .int .i64 y]), .rat (numO (fracO x y)) (denO (fracO x y)) false, .val (.bool true), .val (.bool false)] [[], [0], [], [2], [1, 3], [4]] [0, 1, 2, 3, 4, 5] [] [] 25 37 WF (by kernel_rfl) (by kernel_rfl) (by kernel_rfl) (by kernel_rfl) (by kernel_rfl) ?op ?al ?st ?fin (upd (upd (upd (upd (upd (upd (fun _ => undef) 0 (J2 143)) 1 (J2 144)) 2 (J2 145)) 3 (J2 146)) 4 (J2 147)) 5 (J2 148)) _ _ (by kernel_rfl) (of_decide_eq_true (by kernel_rfl)) (of_decide_eq_true (by kernel_rfl))
    case hn => rfl
    case op =>
     repeat' first | exact Each.nil | refine Each.cons ?_ ?_
     all_goals intro X w7 H hb hD h
     · have z0 := (hb.cell (p := ⟨B25, 0, none⟩) lT).trans t0
       have z1 := (hb.cell (p := ⟨B25, 1, none⟩) lT).trans t1
       refine tv rfl (by rfl) ?_ (by exact h _ w7 rfl (Below.refl _ _))
       go_simp <;> rfl
     · have e0_ : X 0 = _ := hD 0 (by decide) rfl
       refine wpOp_call (i := 1) (f := 33) (args := #[.agg #[.int .i64 x, .int .i64 y]]) 144 rfl rfl (by simp only [e0_]; rfl) (by simp only [e0_]; go_simp) ?_
       refine (frac_o x y x0 x1 y1 w7).mono ?_
       rintro e w8 ⟨s6, a6, n6, c6, t6, b6, m6, d6, rfl, P1, P2, k1, k2, hk⟩
       exact ⟨_, rfl, h _ w8 ⟨s6, a6, n6, c6, t6, b6, m6, d6, rfl, P1, P2, k1, k2, nofun⟩ hk⟩
     · have z0 := (hb.cell (p := ⟨B25, 0, none⟩) lT).trans t0
       have z1 := (hb.cell (p := ⟨B25, 1, none⟩) lT).trans t1
       refine tv rfl (by rfl) ?_ (by exact h _ w7 rfl (Below.refl _ _))
       go_simp <;> rfl
     · have e2_ : X 2 = _ := hD 2 (by decide) rfl
       refine wpOp_call (i := 3) (f := 20) (args := #[.agg #[.int .i64 x, .int .i64 y]]) 146 rfl rfl (by simp only [e2_]; rfl) (by simp only [e2_]; go_simp) ?_
       refine (rfracC_o x y x0 x1 y1 w7).mono ?_
       rintro e w8 ⟨s6, a6, n6, c6, t6, b6, m6, d6, rfl, P1, P2, k1, k2, hk, -, -⟩
       exact ⟨_, rfl, h _ w8 ⟨s6, a6, n6, c6, t6, b6, m6, d6, rfl, P1, P2, k1, k2, nofun⟩ hk⟩
     · obtain ⟨s1_, a1_, n1_, c1_, t1_, b1_, m1_, d1_, e1_, N1_, M1_, k1_, l1_, q1_⟩ := hD 1 (by decide) rfl
       obtain ⟨s3_, a3_, n3_, c3_, t3_, b3_, m3_, d3_, e3_, N3_, M3_, k3_, l3_, q3_⟩ := hD 3 (by decide) rfl
       refine wpOp_call (i := 4) (f := 32) (args := #[.agg #[.bool s1_, .slice a1_ n1_ c1_, .bool t1_, .slice b1_ m1_ d1_], .agg #[.bool s3_, .slice a3_ n3_ c3_, .bool t3_, .slice b3_ m3_ d3_]]) 147 rfl rfl (by simp only [e1_, e3_]; rfl) (by simp only [e1_, e3_]; go_simp) ?_
       refine (same_r s1_ t1_ s3_ t3_ a1_ b1_ a3_ b3_ n1_ m1_ n3_ m3_ c1_ d1_ c3_ d3_ _ _ k1_ l1_ w7 N1_ M1_ N3_ M3_).mono ?_
       rintro e w8 ⟨rfl, hk⟩
       exact ⟨_, rfl, h _ w8 rfl hk⟩
     · have e4_ : X 4 = _ := hD 4 (by decide) rfl
       refine tv rfl (by simp only [e4_]; rfl) ?_ (by exact h _ w7 rfl (Below.refl _ _))
       simp only [e4_]; go_simp <;> rfl
    case al => exact Each.nil
    case st => exact Each.nil
    case fin =>
     intro X20 u20 hI
     have hE := hI.below
     have e5_ : X20 5 = _ := hI.fact 5 (by decide) rfl rfl
     have FL := FL.below hE
     clear hI
     simp only [e5_]
     clear e5_
     have hB := hB.trans (hE.mono hB.size)
     clear hE t0 t1 lT h25
     go_wp2
     refine ⟨by rw [HI2.out]; exact ⟨k + 1, by omega, rfl, hB, FL⟩, ?_⟩
     rw [HM2.out]
     show 4 - (intOf (.int .i64 _)).toNat < 4 - (intOf (.int .i64 _)).toNat
     simp [intOf]; omega
   case neg =>
    obtain rfl : k = 4 := by omega
    clear hk hk4 FL
    go_wp2_with fail
    have cc := int_r n i0 i1 W
    refine cc.mono ?_
    rintro e w1 ⟨s153, a153, n153, c153, t153, b153, m153, d153, rfl, P1, P2, k1, k2, hk⟩
    have hB := hB.trans (hk.mono hB.size)
    clear hk
    clear cc
    have R153 := rarg_of (some (n : Rat)) P1 P2 k1 k2
    have P153 := P1
    have M153 := P2
    have k153 := k1
    have l153 := k2
    clear P1 P2 k1 k2
    go_wp2_with fail
    have cc := rintC_r n i0 i1 w1
    refine cc.mono ?_
    rintro e w2 ⟨s155, a155, n155, c155, t155, b155, m155, d155, rfl, P1, P2, k1, k2, hk, -, -⟩
    have hB := hB.trans (hk.mono hB.size)
    have R153 := R153.below hk
    have P153 := P153.below hk
    have M153 := M153.below hk
    clear hk
    clear cc
    have R155 := rarg_of (some (n : Rat)) P1 P2 k1 k2
    have P155 := P1
    have M155 := P2
    have k155 := k1
    have l155 := k2
    clear P1 P2 k1 k2
    go_wp2_with fail
    have cc := same_r s153 t153 s155 t155 a153 b153 a155 b155 n153 m153 n155 m155 c153 d153 c155 d155 _ _ k153 l153 w2 P153 M153 P155 M155
    refine cc.mono ?_
    rintro e w3 ⟨rfl, hk⟩
    have hB := hB.trans (hk.mono hB.size)
    have R153 := R153.below hk
    have P153 := P153.below hk
    have M153 := M153.below hk
    have R155 := R155.below hk
    have P155 := P155.below hk
    have M155 := M155.below hk
    clear hk
    clear cc
    go_wp2
    go_ret
    exact ⟨rfl, hB⟩
end Go.Proofs.YtgenaicmjddjcaaGreatDoor

