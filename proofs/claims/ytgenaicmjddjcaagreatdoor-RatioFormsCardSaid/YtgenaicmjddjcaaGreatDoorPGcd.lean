/- Several texts in one. -/
import Derived.Test.YtgenaicmjddjcaaGreatDoorGcB
import Derived.Test.YtgenaicmjddjcaaGreatDoorPNumD
import Derived.Test.YtgenaicmjddjcaaGreatDoorPDivL
/- num's apply: two sums of products, digit by digit. -/
namespace Go.Proofs.YtgenaicmjddjcaaGreatDoor
open Go.RowKit Go.Shelf

def ApplyPost (bx ox by' oy n X Y : Nat) (w : World) (e : Ending) (w' : World) : Prop :=
 (∃ v, e = .returned v) ∧ Cells w' bx ox n (dgt X) ∧ Cells w' by' oy n (dgt Y) ∧ Free w' bx ox n ∧ Free w' by' oy n ∧ ∀ B, B ≤ bx → B ≤ by' → B ≤ w.heap.size → Below B w w'

theorem ap_round {a b : Int} {f g f' : Nat → Nat} {k n : Nat} {z t : Int} (_hk : k < n) (h : z * ((bp k : Nat) : Int) + ((valF f' k : Nat) : Int) = a * ((valF f k : Nat) : Int) + b * ((valF g k : Nat) : Int)) (ht : t = z + (a * (f k : Int) + b * (g k : Int)))
 (hf' : ∀ j, j < n → f' j < 4294967296) (hs : ∀ j, k ≤ j → f' j = f j) :
 t / 4294967296 * ((bp (k + 1) : Nat) : Int) + ((valF (putF f' k (t % 4294967296).toNat) (k + 1) : Nat) : Int) = a * ((valF f (k + 1) : Nat) : Int) + b * ((valF g (k + 1) : Nat) : Int) ∧
  (∀ j, j < n → putF f' k (t % 4294967296).toNat j < 4294967296) ∧ (∀ j, k + 1 ≤ j → putF f' k (t % 4294967296).toNat j = f j) := by
 have hd : (t % 4294967296).toNat < 4294967296 := by omega
 refine ⟨?_, putF_lt hf' hd, fun j hj => by rw [putF_ne _ _ (by omega)]; exact hs j (by omega)⟩
 have h1 := ap_step h ht
 rw [valF_succ, valF_succ, valF_succ, putF_same, valF_putF_ge _ _ (Nat.le_refl _), bp_succ]
 have e0 : (((t % 4294967296).toNat : Nat) : Int) = t % 4294967296 := by omega
 simp only [Int.natCast_add, Int.natCast_mul, e0]
 rw [show ((4294967296 : Nat) : Int) = 4294967296 from rfl]
 exact h1

set_option maxRecDepth 100000 in
set_option maxHeartbeats 8000000 in
theorem apply_any (s : Bool) (A B C D bx ox by' oy n cx cy X Y : Nat) (f g : Nat → Nat) (hA : A < 2147483648) (hB : B < 2147483648) (hC : C < 2147483648) (hD : D < 2147483648) (hn : n ≤ 1099511627776) (hf : ∀ j, j < n → f j < 4294967296) (hg : ∀ j, j < n → g j < 4294967296)
 (hX : (X : Int) = sgn s A * ((valF f n : Nat) : Int) + sgn (!s) B * ((valF g n : Nat) : Int)) (hY : (Y : Int) = sgn (!s) C * ((valF f n : Nat) : Int) + sgn s D * ((valF g n : Nat) : Int)) (hXl : X < bp n) (hYl : Y < bp n)
 (hne : bx ≠ by') (w : World) (hx : Cells w bx ox n f) (hy : Cells w by' oy n g) (fx : Free w bx ox n) (fy : Free w by' oy n) (hbx : bx < w.heap.size) (hby : by' < w.heap.size) :
 Calls Tryz.prog 134 #[.agg #[.int .i64 (sgn s A), .int .i64 (sgn (!s) B), .int .i64 (sgn (!s) C), .int .i64 (sgn s D)], .slice (some ⟨bx, ox, none⟩) n cx, .slice (some ⟨by', oy, none⟩) n cy] w (ApplyPost bx ox by' oy n X Y w) := by
 have hb1 := fun p q hp hq => ap_bounds s (A := A) (B := B) (p := p) (q := q) hA hB hp hq
 have hb2 := fun p q hp hq => ap_bounds (!s) (A := C) (B := D) (p := p) (q := q) hC hD hp hq
 rw [Bool.not_not] at hb2
 obtain ⟨a, ha⟩ : ∃ a, sgn s A = a := ⟨_, rfl⟩
 obtain ⟨b, hb⟩ : ∃ b, sgn (!s) B = b := ⟨_, rfl⟩
 obtain ⟨c, hc⟩ : ∃ c, sgn (!s) C = c := ⟨_, rfl⟩
 obtain ⟨d, hd⟩ : ∃ d, sgn s D = d := ⟨_, rfl⟩
 rw [ha, hb] at hb1 hX
 rw [hc, hd] at hb2 hY
 rw [ha, hb, hc, hd]
 have HB1 := hide hb1
 have HB2 := hide hb2
 have HX := hide (And.intro hX (And.intro hY (And.intro hXl hYl)))
 have HF := hide hf
 have HG := hide hg
 clear hb1 hb2 hX hY hXl hYl ha hb hc hd hf hg hA hB hC hD
 have b3 := Box4.new w a b c d 133
 have hk := below_alloc' w (Obj.cells #[.int .i64 a, .int .i64 b, .int .i64 c, .int .i64 d] 133)
 have hxW := hx.below hk (.inl (Nat.le_refl _))
 have hyW := hy.below hk (.inl (Nat.le_refl _))
 have fxW := fx.below hk hbx
 have fyW := fy.below hk hby
 go_enter Tryz.func134, Tryz.ntmps134
 go_wp2_with fail
 obtain ⟨W0, hW0⟩ : ∃ W0, w.alloc (Obj.cells #[.int .i64 a, .int .i64 b, .int .i64 c, .int .i64 d] 133) = W0 := ⟨_, rfl⟩
 obtain ⟨B3, hB3⟩ : ∃ B3, w.heap.size = B3 := ⟨_, rfl⟩
 rw [hW0] at b3 hk hxW hyW fxW fyW ⊢
 rw [hB3] at b3 hbx hby ⊢
 have hne3 : bx ≠ B3 := by omega
 have hne4 : by' ≠ B3 := by omega
 have HK := hide (show ∀ B, B ≤ bx → B ≤ by' → B ≤ w.heap.size → Below B w W0 from fun B _ _ h3 => hk.mono h3)
 clear hW0 hB3 hk hx hy fx fy hbx hby
 go_loopw [6, 7, 13] (fun uv vv iv wr => ∃ (k : Nat) (f' g' : Nat → Nat) (z1 z2 : Int), k ≤ n ∧ iv = .int .i64 (k : Int) ∧ uv = .int .i64 z1 ∧ vv = .int .i64 z2 ∧ (-2147483648 ≤ z1 ∧ z1 ≤ 2147483648) ∧ (-2147483648 ≤ z2 ∧ z2 ≤ 2147483648) ∧
  Hid (z1 * ((bp k : Nat) : Int) + ((valF f' k : Nat) : Int) = a * ((valF f k : Nat) : Int) + b * ((valF g k : Nat) : Int) ∧ (∀ j, j < n → f' j < 4294967296) ∧ (∀ j, k ≤ j → f' j = f j)) ∧
  Hid (z2 * ((bp k : Nat) : Int) + ((valF g' k : Nat) : Int) = c * ((valF f k : Nat) : Int) + d * ((valF g k : Nat) : Int) ∧ (∀ j, j < n → g' j < 4294967296) ∧ (∀ j, k ≤ j → g' j = g j)) ∧
  Cells wr bx ox n f' ∧ Cells wr by' oy n g' ∧ Free wr bx ox n ∧ Free wr by' oy n ∧ Box4 wr B3 a b c d ∧ Hid (∀ B, B ≤ bx → B ≤ by' → B ≤ w.heap.size → Below B w wr))
  (fun _ _ iv _ => n - (intOf iv).toNat)
 case atStart => exact ⟨0, f, g, 0, 0, Nat.zero_le _, rfl, rfl, rfl, by omega, by omega, ⟨by simp [valF_zero], HF.out, fun _ _ => rfl⟩, ⟨by simp [valF_zero], HG.out, fun _ _ => rfl⟩, hxW, hyW, fxW, fyW, b3, HK.out⟩
 case round =>
  obtain ⟨k, f', g', z1, z2, hk, rfl, rfl, rfl, hz1, hz2, H1, H2, cx', cy', fx', fy', bb, HBl⟩ := hrel
  by_cases hlt : k < n
  · have hkA : (k : Int) < n := by omega
    have hfk := H1.out.2.2 k (Nat.le_refl _)
    have hgk := H2.out.2.2 k (Nat.le_refl _)
    have vx := cx' k hlt
    have vy := cy' k hlt
    have ux := fx' k hlt
    have uy := fy' k hlt
    rw [hfk] at vx
    rw [hgk] at vy
    obtain ⟨p, hp⟩ : ∃ p, f k = p := ⟨_, rfl⟩
    obtain ⟨q, hq⟩ : ∃ q, g k = q := ⟨_, rfl⟩
    have hpl : p < 4294967296 := by rw [← hp]; exact HF.out k hlt
    have hql : q < 4294967296 := by rw [← hq]; exact HG.out k hlt
    obtain ⟨⟨x1, x2⟩, ⟨x3, x4⟩, x5, x6⟩ := HB1.out p q hpl hql
    obtain ⟨⟨y1, y2⟩, ⟨y3, y4⟩, y5, y6⟩ := HB2.out p q hpl hql
    have hr1 := fun t ht => ap_round (a := a) (b := b) (t := t) hlt H1.out.1 ht H1.out.2.1 H1.out.2.2
    have hr2 := fun t ht => ap_round (a := d) (b := c) (f := g) (g := f) (f' := g') (z := z2) (t := t) hlt (by have := H2.out.1; omega) ht H2.out.2.1 H2.out.2.2
    rw [hp, hq] at hr1
    rw [hp, hq] at hr2
    rw [hp] at vx
    rw [hq] at vy
    obtain ⟨m1, hm1⟩ : ∃ m1 : Int, a * (p : Int) = m1 := ⟨_, rfl⟩
    obtain ⟨m2, hm2⟩ : ∃ m2 : Int, b * (q : Int) = m2 := ⟨_, rfl⟩
    obtain ⟨m3, hm3⟩ : ∃ m3 : Int, c * (p : Int) = m3 := ⟨_, rfl⟩
    obtain ⟨m4, hm4⟩ : ∃ m4 : Int, d * (q : Int) = m4 := ⟨_, rfl⟩
    rw [hm1] at x1 x2 x5 x6 hr1
    rw [hm2] at x3 x4 x5 x6 hr1
    rw [hm3] at y1 y2 y5 y6 hr2
    rw [hm4] at y3 y4 y5 y6 hr2
    obtain ⟨t1, ht1⟩ : ∃ t1 : Int, z1 + (m1 + m2) = t1 := ⟨_, rfl⟩
    obtain ⟨t2, ht2⟩ : ∃ t2 : Int, z2 + (m3 + m4) = t2 := ⟨_, rfl⟩
    have W1 : IntKind.i64.wrap m1 = m1 := IntWalk.i64_in _ (by omega)
    have W2 : IntKind.i64.wrap m2 = m2 := IntWalk.i64_in _ (by omega)
    have W3 : IntKind.i64.wrap m3 = m3 := IntWalk.i64_in _ (by omega)
    have W4 : IntKind.i64.wrap m4 = m4 := IntWalk.i64_in _ (by omega)
    have W5 : IntKind.i64.wrap (m1 + m2) = m1 + m2 := IntWalk.i64_in _ (by omega)
    have W6 : IntKind.i64.wrap (m3 + m4) = m3 + m4 := IntWalk.i64_in _ (by omega)
    have W7 : IntKind.i64.wrap (z1 + (m1 + m2)) = t1 := by rw [ht1]; exact IntWalk.i64_in _ (by omega)
    have W8 : IntKind.i64.wrap (z2 + (m3 + m4)) = t2 := by rw [ht2]; exact IntWalk.i64_in _ (by omega)
    have V1 : IntKind.i64.wrap (p : Int) = (p : Int) := IntWalk.i64_in _ (by omega)
    have V2 : IntKind.i64.wrap (q : Int) = (q : Int) := IntWalk.i64_in _ (by omega)
    have U1 : IntKind.u32.wrap t1 = (((t1 % 4294967296).toNat : Nat) : Int) := by rw [show IntKind.u32.wrap t1 = t1 % 4294967296 from rfl]; omega
    have U2 : IntKind.u32.wrap t2 = (((t2 % 4294967296).toNat : Nat) : Int) := by rw [show IntKind.u32.wrap t2 = t2 % 4294967296 from rfl]; omega
    have D1 : -2147483648 ≤ t1 / 4294967296 ∧ t1 / 4294967296 ≤ 2147483648 := by omega
    have D2 : -2147483648 ≤ t2 / 4294967296 ∧ t2 / 4294967296 ≤ 2147483648 := by omega
    have R1 := hide (hr1 t1 (by omega))
    have R2 := hide (hr2 t2 (by omega))
    have HD := hide (And.intro D1 D2)
    obtain ⟨n1, hn1⟩ : ∃ n1, (t1 % 4294967296).toNat = n1 := ⟨_, rfl⟩
    obtain ⟨n2, hn2⟩ : ∃ n2, (t2 % 4294967296).toNat = n2 := ⟨_, rfl⟩
    rw [hn1] at U1 R1
    rw [hn2] at U2 R2
    have HCX := hide cx'
    have HCY := hide cy'
    have HFX := hide fx'
    have HFY := hide fy'
    have HBB := hide bb
    obtain ⟨k0, k1, k2, k3, -, -, -, -⟩ := bb
    clear hfk hgk hp hq hpl hql x1 x2 x3 x4 x5 x6 y1 y2 y3 y4 y5 y6 hr1 hr2 ht1 ht2 D1 D2 hn1 hn2 hz1 hz2 cx' cy' fx' fy' H1 H2
    go_wp2_with fail
    go_quiet (fail)
    go_wp2_with fail
    obtain ⟨WD, hWD⟩ : ∃ WD, wr.drewN nq = WD := ⟨_, rfl⟩
    have cx0 : Cells WD bx ox n f' := by rw [← hWD]; exact HCX.out
    have cy0 : Cells WD by' oy n g' := by rw [← hWD]; exact HCY.out
    have fx0 : Free WD bx ox n := by rw [← hWD]; exact HFX.out
    have fy0 : Free WD by' oy n := by rw [← hWD]; exact HFY.out
    have bb0 : Box4 WD B3 a b c d := by rw [← hWD]; exact HBB.out.drewN nq
    have hB0 : ∀ B, B ≤ bx → B ≤ by' → B ≤ w.heap.size → Below B w WD := fun B h1 h2 h3 => by rw [← hWD]; exact below_drewN4 (HBl.out B h1 h2 h3) nq
    rw [hWD]
    have ne : ∀ {x y o p : Nat}, x ≠ y → (⟨x, o, none⟩ : Addr) ≠ ⟨y, p, none⟩ := fun h e => h (congrArg Addr.block e)
    have cx1 := cx0.set n1 hlt
    have cx2 : Cells ((WD.setCell ⟨bx, ox + k, none⟩ (.int .u32 (n1 : Int))).setCell ⟨by', oy + k, none⟩ (.int .u32 (n2 : Int))) bx ox n (putF f' k n1) := fun j hj => (cell_setCell_ne _ _ _ _ (ne hne) rfl rfl).trans (cx1 j hj)
    have cy1 : Cells (WD.setCell ⟨bx, ox + k, none⟩ (.int .u32 (n1 : Int))) by' oy n g' := fun j hj => (cell_setCell_ne _ _ _ _ (ne (Ne.symm hne)) rfl rfl).trans (cy0 j hj)
    have cy2 := cy1.set n2 hlt
    have fx2 : Free ((WD.setCell ⟨bx, ox + k, none⟩ (.int .u32 (n1 : Int))).setCell ⟨by', oy + k, none⟩ (.int .u32 (n2 : Int))) bx ox n := fun j hj => by rw [World.frozen?_setCell, World.frozen?_setCell]; exact fx0 j hj
    have fy2 : Free ((WD.setCell ⟨bx, ox + k, none⟩ (.int .u32 (n1 : Int))).setCell ⟨by', oy + k, none⟩ (.int .u32 (n2 : Int))) by' oy n := fun j hj => by rw [World.frozen?_setCell, World.frozen?_setCell]; exact fy0 j hj
    have bb2 : Box4 ((WD.setCell ⟨bx, ox + k, none⟩ (.int .u32 (n1 : Int))).setCell ⟨by', oy + k, none⟩ (.int .u32 (n2 : Int))) B3 a b c d := by
     refine ⟨?_, ?_, ?_, ?_, ?_, ?_, ?_, ?_⟩
     · rw [cell_setCell_ne _ _ _ _ (ne (Ne.symm hne4)) rfl rfl, cell_setCell_ne _ _ _ _ (ne (Ne.symm hne3)) rfl rfl]; exact bb0.c0
     · rw [cell_setCell_ne _ _ _ _ (ne (Ne.symm hne4)) rfl rfl, cell_setCell_ne _ _ _ _ (ne (Ne.symm hne3)) rfl rfl]; exact bb0.c1
     · rw [cell_setCell_ne _ _ _ _ (ne (Ne.symm hne4)) rfl rfl, cell_setCell_ne _ _ _ _ (ne (Ne.symm hne3)) rfl rfl]; exact bb0.c2
     · rw [cell_setCell_ne _ _ _ _ (ne (Ne.symm hne4)) rfl rfl, cell_setCell_ne _ _ _ _ (ne (Ne.symm hne3)) rfl rfl]; exact bb0.c3
     · rw [World.frozen?_setCell, World.frozen?_setCell]; exact bb0.z0
     · rw [World.frozen?_setCell, World.frozen?_setCell]; exact bb0.z1
     · rw [World.frozen?_setCell, World.frozen?_setCell]; exact bb0.z2
     · rw [World.frozen?_setCell, World.frozen?_setCell]; exact bb0.z3
    have hB2 : Hid (∀ B, B ≤ bx → B ≤ by' → B ≤ w.heap.size → Below B w ((WD.setCell ⟨bx, ox + k, none⟩ (.int .u32 (n1 : Int))).setCell ⟨by', oy + k, none⟩ (.int .u32 (n2 : Int)))) := fun B h1 h2 h3 =>
     ((hB0 B h1 h2 h3).setCell (p := ⟨bx, ox + k, none⟩) h1 _).setCell (p := ⟨by', oy + k, none⟩) h2 _
    obtain ⟨s2, p2, u2⟩ := R2.out
    refine ⟨⟨k + 1, putF f' k n1, putF g' k n2, t1 / 4294967296, t2 / 4294967296, by omega, by go_num, rfl, rfl, HD.out.1, HD.out.2, R1.out, ⟨by omega, p2, u2⟩, cx2, cy2, fx2, fy2, bb2, hB2⟩, by simp [intOf]; omega⟩
  · obtain rfl : k = n := by omega
    obtain ⟨hX, hY, hXl, hYl⟩ := HX.out
    obtain ⟨e1, l1, -⟩ := H1.out
    obtain ⟨e2, l2, -⟩ := H2.out
    have x1 := ap_end (e1.trans hX.symm) (valF_lt l1) hXl
    have x2 := ap_end (e2.trans hY.symm) (valF_lt l2) hYl
    have cx2 : Cells wr bx ox k (dgt X) := cx'.congr fun j hj => by rw [← x1, dgt_valF l1 hj]
    have cy2 : Cells wr by' oy k (dgt Y) := cy'.congr fun j hj => by rw [← x2, dgt_valF l2 hj]
    have HO : Hid (Cells wr bx ox k (dgt X) ∧ Cells wr by' oy k (dgt Y) ∧ Free wr bx ox k ∧ Free wr by' oy k) := ⟨cx2, cy2, fx', fy'⟩
    clear hX hY hXl hYl e1 l1 e2 l2 x1 x2 cx2 cy2 cx' cy' fx' fy' H1 H2 bb hz1 hz2
    go_wp2
    obtain ⟨o1, o2, o3, o4⟩ := HO.out
    go_end0
    exact ⟨⟨_, rfl⟩, o1, o2, o3, o4, HBl.out⟩
end Go.Proofs.YtgenaicmjddjcaaGreatDoor

/- num's common and Gcd of whatever numbers. -/
namespace Go.Proofs.YtgenaicmjddjcaaGreatDoor
open Go.RowKit Go.Shelf

structure GcdAt (w : World) (x y : Nat) (u v n bx by' cx cy : Nat) (W : World) : Prop where
 len : n = dlen u
 le : v ≤ u
 gcd : Nat.gcd u v = Nat.gcd x y
 cX : Cells W bx 0 n (dgt u)
 cY : Cells W by' 0 n (dgt v)
 fX : Free W bx 0 n
 fY : Free W by' 0 n
 ne : bx ≠ by'
 nX : w.heap.size ≤ bx
 nY : w.heap.size ≤ by'
 lX : bx < W.heap.size
 lY : by' < W.heap.size
 kX : n ≤ cx
 kY : n ≤ cy
 bel : Below w.heap.size w W
theorem GcdAt.below {w : World} {x y u v n bx by' cx cy : Nat} {W W' : World} (h : GcdAt w x y u v n bx by' cx cy W) (t : Below W.heap.size W W') : GcdAt w x y u v n bx by' cx cy W' :=
 ⟨h.len, h.le, h.gcd, h.cX.below t (.inl (Nat.le_refl _)), h.cY.below t (.inl (Nat.le_refl _)), h.fX.below t h.lX, h.fY.below t h.lY, h.ne, h.nX, h.nY, Nat.lt_of_lt_of_le h.lX t.size, Nat.lt_of_lt_of_le h.lY t.size, h.kX, h.kY, h.bel.trans (t.mono h.bel.size)⟩
theorem GcdAt.valX {w : World} {x y u v n bx by' cx cy : Nat} {W : World} (h : GcdAt w x y u v n bx by' cx cy W) : valF (dgt u) n = u := by rw [h.len]; exact valF_dlen u
theorem GcdAt.ult {w : World} {x y u v n bx by' cx cy : Nat} {W : World} (h : GcdAt w x y u v n bx by' cx cy W) : u < bp n := by rw [h.len]; exact lt_bp_dlen u
theorem GcdAt.valY {w : World} {x y u v n bx by' cx cy : Nat} {W : World} (h : GcdAt w x y u v n bx by' cx cy W) : valF (dgt v) n = v := by
 rw [valF_dgt]; exact Nat.mod_eq_of_lt (Nat.lt_of_le_of_lt h.le h.ult)
theorem dlen_pos' {u : Nat} (h : 0 < u) : 0 < dlen u := Nat.pos_of_ne_zero fun e => by have := dlen_eq_zero.1 e; omega

set_option maxRecDepth 100000 in
set_option maxHeartbeats 8000000 in
theorem commonL_ge (ax ay : Option Addr) (x y nx ny cx cy : Nat) (hnx : nx ≤ 100000000000) (hny : ny ≤ 100000000000) (hxy : y ≤ x) (w : World) (hx : IsD w ax nx x) (hy : IsD w ay ny y) :
 Calls Tryz.prog 107 #[.slice ax nx cx, .slice ay ny cy] w fun e w' => ∃ (a : Option Addr) (n cap : Nat), e = .returned (.slice a n cap) ∧ IsD w' a n (Nat.gcd x y) ∧ n ≤ cap ∧ (n = 0 ∨ Fresh w a) ∧ Below w.heap.size w w' := by
 have hcall := compare_any ax ay x y cx cy (by rw [← hx.len]; omega) w (by rw [← hx.len]; exact hx.dig) (by rw [← hy.len]; exact hy.dig)
 rw [← hx.len, ← hy.len] at hcall
 have hcmp : 0 ≤ cmpN x y := by
  rcases Nat.lt_or_eq_of_le hxy with h | h
  · rw [cmpN_gt h]; decide
  · rw [h, cmpN_eq]; decide
 have hle : ny ≤ nx := by rw [hy.len, hx.len]; exact dlen_mono (by omega)
 have HC := hide hcall
 clear hcall
 go_enter Tryz.func107, Tryz.ntmps107
 go_wp2_with fail
 refine HC.out.mono ?_
 rintro e w1 ⟨rfl, hb1⟩
 go_wp2_with fail
 refine (resize_any ax nx cx nx _ rfl (dgt x) (Nat.le_refl _) (by omega) _ (hx.dig.below hb1)).mono ?_
 rintro e w2 ⟨g1, rfl, hg1, hc1, hf1, hb2⟩
 have hB2 := hb1.trans (hb2.mono hb1.size)
 have hg1l : 0 < nx → g1 < w2.heap.size := fun h0 => hc1.lt h0
 go_wp2_with fail
 refine (resize_any ay ny cy nx _ rfl (dgt y) hle (by omega) _ (hy.dig.below hB2)).mono ?_
 rintro e w3 ⟨g2, rfl, hg2, hc2, hf2, hb3⟩
 have hB3 := hB2.trans (hb3.mono hB2.size)
 have HV : Hid (Nat.gcd x y = Nat.gcd x y) := by show _ = _; first | rfl | exact Nat.gcd_comm _ _
 have hs2 := hb1.size
 by_cases hn0 : nx = 0
 · -- both are 0
   have hA0 : x = 0 := by have := hx.len; rw [hn0] at this; exact dlen_eq_zero.1 this.symm
   have hB0 : y = 0 := by omega
   have hz : Nat.gcd x y = 0 := by rw [← HV.out, hA0, hB0]; rfl
   have HZ := hide hz
   have d1 : Dig w3 (some ⟨g1, 0, none⟩) 0 (dgt 0) := .inl rfl
   have d2 : Dig w3 (some ⟨g2, 0, none⟩) 0 (dgt 0) := .inl rfl
   have j1 := fun w' => join_any (some ⟨g1, 0, none⟩) 0 0 (dgt 0) (by decide) (fun _ _ => dgt_lt _ _) w' (.inl rfl)
   have j2 := fun w' => join_any (some ⟨g2, 0, none⟩) 0 0 (dgt 0) (by decide) (fun _ _ => dgt_lt _ _) w' (.inl rfl)
   rw [show valF (dgt 0) 0 = 0 from rfl] at j1 j2
   have J1 := hide j1
   have J2 := hide j2
   rw [hn0]
   clear hn0 hA0 hB0 hz d1 d2 j1 j2 hc1 hc2 hf1 hf2 hg1l hle hx hy
   go_wp2_with fail
   go_loopw [5, 6] (fun p q wr => p = .slice (some ⟨g1, 0, none⟩) 0 0 ∧ q = .slice (some ⟨g2, 0, none⟩) 0 0 ∧ wr = w3) (fun _ _ _ => 0)
   case atStart => exact ⟨rfl, rfl, rfl⟩
   obtain ⟨rfl, rfl, hwr⟩ := hrel
   rw [hwr]
   clear hwr
   go_wp2_with fail
   refine (J1.out w3).mono ?_
   rintro e w4 ⟨rfl, hb4⟩
   have hB4 := hB3.trans (hb4.mono hB3.size)
   go_wp2_with fail
   refine (J2.out w4).mono ?_
   rintro e w5 ⟨rfl, hb5⟩
   have hB5 := hB4.trans (hb5.mono hB4.size)
   go_wp2_with fail
   refine (commonWord_any 0 0 (by decide) (by decide) w5).mono ?_
   rintro e w6 ⟨rfl, hb6⟩
   have hB6 := hB5.trans (hb6.mono hB5.size)
   go_wp2_with fail
   refine (split_any (Nat.gcd 0 0) (by decide) w6).mono ?_
   rintro e w7 ⟨a7, n7, c7, rfl, hd7, hc7, hf7, hb7⟩
   go_wp2
   go_ret
   exact ⟨a7, n7, c7, rfl, by rw [HZ.out]; exact hd7, hc7, hf7.imp id fun h ad e => Nat.le_trans hB6.size (h ad e), hB6.trans (hb7.mono hB6.size)⟩
 · have hnp : 0 < nx := by omega
   have hG : GcdAt w x y x y nx g1 g2 nx nx w3 := by
    have l1 := hg1l hnp
    have l2 := hc2.lt hnp
    have c1 := (hc1.congr (g := dgt x) fun j _ => mixF_dgt (Nat.le_of_eq hx.len.symm))
    have c2 := (hc2.congr (g := dgt y) fun j _ => mixF_dgt (Nat.le_of_eq hy.len.symm))
    exact ⟨hx.len, by omega, HV.out, c1.below hb3 (.inl (Nat.le_refl _)), c2, hf1.below hb3 l1, hf2, by omega, by omega, by have := hb2.size; omega, Nat.lt_of_lt_of_le l1 hb3.size, l2, Nat.le_refl _, Nat.le_refl _, hB3⟩
   have HG := hide hG
   have HN := hide (And.intro hnx hny)
   clear hG hn0 hnp hc1 hc2 hf1 hf2 hg1l hle hx hy hxy hnx hny
   go_wp2_with fail
   go_loopg [5, 6] (x + y) (fun gk p q wr => ∃ (u v n bx by' cx' cy' : Nat), p = .slice (some ⟨bx, 0, none⟩) n cx' ∧ q = .slice (some ⟨by', 0, none⟩) n cy' ∧ gk = u + v ∧ n ≤ 100000000000 ∧ Hid (GcdAt w x y u v n bx by' cx' cy' wr))
   case atStart => exact ⟨x, y, nx, g1, g2, nx, nx, rfl, rfl, rfl, by have := HN.out; omega, HG.out⟩
   case round =>
    obtain ⟨u, v, n, bx, by', cx', cy', rfl, rfl, hgk, hn, HU⟩ := hrel
    have hU := HU.out
    have HGK := hide hgk
    clear hgk
    rcases Nat.lt_or_ge 2 n with h3 | h2
    · obtain ⟨m, rfl⟩ : ∃ m, n = m + 3 := ⟨n - 3, by omega⟩
      have hu0 : 0 < u := Nat.pos_of_ne_zero fun e => by have := hU.len; rw [e, dlen_zero] at this; omega
      have hvl : v < bp (m + 3) := Nat.lt_of_le_of_lt hU.le hU.ult
      have hT := trim_block by' (m + 3) cy' v (by omega) hU.kY hvl wr hU.cY
      have HT := hide hT
      have h3A : (2 : Int) < (m : Int) + 3 := by omega
      have e3 : ((m + 3 : Nat) : Int) = (m : Int) + 3 := by omega
      by_cases hv0 : v = 0
      · have hres : u = Nat.gcd x y := by rw [← hU.gcd, hv0, Nat.gcd_zero_right]
        have HR := hide hres
        rw [hv0, dlen_zero] at HT
        clear hU hT hvl hu0 h3 hv0 hres
        go_wp2_with fail
        refine HT.out.mono ?_
        rintro e w4 ⟨a7, c7, rfl, -, -, hb4⟩
        go_wp2
        go_ret
        have hU := HU.out.below hb4
        exact ⟨some ⟨bx, 0, none⟩, m + 3, cx', rfl, ⟨by rw [← HR.out]; exact hU.len, by rw [← HR.out]; exact .inr ⟨bx, 0, rfl, hU.cX⟩⟩, hU.kX, .inr fun ad e => by cases e; exact hU.nX, hU.bel⟩
      · have hvp : 0 < v := by omega
        have hnv := dlen_pos' hvp
        obtain ⟨nv, hnve⟩ : ∃ nv, dlen v = nv := ⟨_, rfl⟩
        rw [hnve] at HT hnv
        have hnz : (((nv : Nat) : Int) == 0) = false := by simp; omega
        have HV := hide (And.intro hvp (And.intro hnv (And.intro hnve (And.intro hu0 hvl))))
        clear hU hT hvl hu0 h3 hv0 hvp hnve
        go_wp2_with fail
        refine HT.out.mono ?_
        rintro e w4 ⟨a7, c7, rfl, ha7, hc7, hb4⟩
        obtain rfl : a7 = some ⟨by', 0, none⟩ := ha7.resolve_right (by omega)
        have HU4 := hide (HU.out.below hb4)
        have hF := firstSteps_any bx 0 by' 0 m cx' cy' u v (by omega) HU.out.kX HU.out.kY HU.out.len.symm HU.out.le w4 HU4.out.cX HU4.out.cY
        have HF := hide hF
        clear hF ha7 HT hb4
        go_wp2_with fail
        refine HF.out.mono ?_
        rintro e w5 ⟨s, A, B, C, D, rfl, hb5, hA, hB, hC, hD, hstep⟩
        have HU5 := hide (HU4.out.below hb5)
        have HS := hide (And.intro hA (And.intro hB (And.intro hC (And.intro hD hstep))))
        obtain ⟨a, ha⟩ : ∃ a, sgn s A = a := ⟨_, rfl⟩
        obtain ⟨b, hb⟩ : ∃ b, sgn (!s) B = b := ⟨_, rfl⟩
        obtain ⟨c, hc⟩ : ∃ c, sgn (!s) C = c := ⟨_, rfl⟩
        obtain ⟨d, hd⟩ : ∃ d, sgn s D = d := ⟨_, rfl⟩
        rw [ha, hb, hc, hd]
        have HA := hide (And.intro ha (And.intro hb (And.intro hc hd)))
        have hk6 := below_alloc' w5 (Obj.cells #[.int .i64 a, .int .i64 b, .int .i64 c, .int .i64 d] 133)
        have b8 := Box4.new w5 a b c d 133
        have HU6 := hide (HU5.out.below hk6)
        clear hA hB hC hD hstep ha hb hc hd hb5 HF
        by_cases hB0 : B = 0
        · have hok : decide (B ≠ 0) = false := by simp [hB0]
          rw [hok]
          clear hok hB0
          go_wp2_with fail
          obtain ⟨W6, hW6⟩ : ∃ W6, w5.alloc (Obj.cells #[.int .i64 a, .int .i64 b, .int .i64 c, .int .i64 d] 133) = W6 := ⟨_, rfl⟩
          rw [hW6] at HU6 ⊢
          have hnvm : nv ≤ m + 3 := by rw [← HV.out.2.2.1, HU.out.len]; exact dlen_mono HU.out.le
          have hdv := divide_any (some ⟨bx, 0, none⟩) (some ⟨by', 0, none⟩) u v (m + 3) nv cx' c7 hn hnv W6 ⟨HU6.out.len, .inr ⟨bx, 0, rfl, HU6.out.cX⟩⟩ ⟨HV.out.2.2.1.symm, .inr ⟨by', 0, rfl, HU6.out.cY.mono hnvm⟩⟩
          have HD := hide hdv
          clear hdv hW6 hk6 b8 HS HA
          refine HD.out.mono ?_
          rintro e w7 ⟨a1, n1, k1, a2, n2, k2, rfl, -, -, -, q2, -, -, hb7⟩
          have hmod := Nat.mod_lt u HV.out.1
          have hn2 : n2 ≤ nv := by rw [q2.len, ← HV.out.2.2.1]; exact dlen_mono (by omega)
          have hvb : v < bp nv := by rw [← HV.out.2.2.1]; exact lt_bp_dlen v
          have hrs := resize_any a2 n2 k2 nv _ rfl (dgt (u % v)) hn2 (by omega) w7 q2.dig
          have HRS := hide hrs
          have HQ2 := hide (And.intro q2 (And.intro hmod (And.intro hn2 (And.intro hvb hnvm))))
          have HU7 := hide (HU6.out.below hb7)
          clear hrs q2 hmod hn2 hvb hnvm hb7
          go_wp2_with fail
          refine HRS.out.mono ?_
          rintro e w8 ⟨g, rfl, hg, hcg, hfg, hb8⟩
          have HU8 := hide (HU7.out.below hb8)
          have htr := trim_block by' nv c7 v (by have := HQ2.out.2.2.2.2; omega) hc7 HQ2.out.2.2.2.1 w8 (HU8.out.cY.mono HQ2.out.2.2.2.2)
          rw [HV.out.2.2.1] at htr
          have HTR := hide htr
          have HG8 := hide (And.intro hcg (And.intro hfg hg))
          clear htr hcg hfg hg hb8
          go_wp2_with fail
          refine HTR.out.mono ?_
          rintro e w9 ⟨a9, c9, rfl, ha9, hc9, hb9⟩
          obtain rfl : a9 = some ⟨by', 0, none⟩ := ha9.resolve_right (by omega)
          have HU9 := hide (HU8.out.below hb9)
          clear ha9
          have hnv0 : (0 : Int) ≤ (nv : Int) := by omega
          go_wp2_with fail
          go_roundg (v + u % v)
          case measure =>
           have h1 := HGK.out
           have h2 := HQ2.out.2.1
           have h3 := HU.out.le
           have h4 := HV.out.1
           omega
          case rel =>
           obtain ⟨q2, hmod, hn2, hvb, hnvm⟩ := HQ2.out
           obtain ⟨hcg, hfg, hg⟩ := HG8.out
           have hU := HU9.out
           have hgl : g < w8.heap.size := hcg.lt hnv
           have hcg' : Cells w8 g 0 nv (dgt (u % v)) := hcg.congr fun j _ => mixF_dgt (Nat.le_of_eq q2.len.symm)
           have hgcd : Nat.gcd v (u % v) = Nat.gcd u v := by rw [Nat.gcd_comm u v, Nat.gcd_rec v u, Nat.gcd_comm]
           exact ⟨v, u % v, nv, by', g, c9, nv, rfl, rfl, rfl, by omega, HV.out.2.2.1.symm, Nat.le_of_lt hmod, hgcd.trans HU.out.gcd, hU.cY.mono hnvm, hcg'.below hb9 (.inl (Nat.le_refl _)),
              fun j hj => hU.fY j (by omega), hfg.below hb9 hgl, by have := HU7.out.lY; omega, hU.nY, Nat.le_trans HU7.out.bel.size hg, hU.lY, Nat.lt_of_lt_of_le hgl hb9.size, hc9, Nat.le_refl _, hU.bel⟩
        · have hok : decide (B ≠ 0) = true := by simp [hB0]
          rw [hok]
          obtain ⟨X, Y, hX, hY, hYX, hXu, hgcd, hsum⟩ := HS.out.2.2.2.2 hB0
          obtain ⟨h0, h1, h2, h3, -, -, -, -⟩ := b8
          clear hok hB0
          go_wp2_with fail
          obtain ⟨W6, hW6⟩ : ∃ W6, w5.alloc (Obj.cells #[.int .i64 a, .int .i64 b, .int .i64 c, .int .i64 d] 133) = W6 := ⟨_, rfl⟩
          rw [hW6] at HU6 ⊢
          have hXl : X < bp (m + 3) := Nat.lt_of_le_of_lt hXu HU.out.ult
          have hYl : Y < bp (m + 3) := Nat.lt_of_le_of_lt hYX hXl
          have hX0 : 0 < X := by
           rcases Nat.eq_zero_or_pos X with e | e
           · exfalso
             have h1 : Y = 0 := by omega
             rw [e, h1, Nat.gcd_zero_left] at hgcd
             have := Nat.gcd_pos_of_pos_left v HV.out.2.2.2.1
             omega
           · exact e
          have hap := apply_any s A B C D bx 0 by' 0 (m + 3) cx' cy' X Y (dgt u) (dgt v) HS.out.1 HS.out.2.1 HS.out.2.2.1 HS.out.2.2.2.1 (by omega) (fun _ _ => dgt_lt _ _) (fun _ _ => dgt_lt _ _) (by rw [HU.out.valX, HU.out.valY]; exact hX) (by rw [HU.out.valX, HU.out.valY]; exact hY) hXl hYl HU.out.ne W6 HU6.out.cX HU6.out.cY HU6.out.fX HU6.out.fY HU6.out.lX HU6.out.lY
          rw [HA.out.1, HA.out.2.1, HA.out.2.2.1, HA.out.2.2.2] at hap
          have HAP := hide hap
          have HXY := hide (And.intro hXl (And.intro hYl (And.intro hX0 (And.intro hYX (And.intro hXu (And.intro hgcd hsum))))))
          obtain ⟨nX, hnX⟩ : ∃ nX, dlen X = nX := ⟨_, rfl⟩
          have hnX0 : 0 < nX := by rw [← hnX]; exact dlen_pos' hX0
          have hnXm : nX ≤ m + 3 := by rw [← hnX]; exact dlen_le_iff.2 hXl
          have HNX := hide hnX
          clear hap hXl hYl hX0 hYX hXu hgcd hsum hX hY hW6 hk6 h0 h1 h2 h3 HS HA hnX
          refine HAP.out.mono ?_
          rintro e w7 ⟨⟨v7, rfl⟩, kcX, kcY, kfX, kfY, hbl⟩
          have hbel := HU6.out.bel.trans (hbl w.heap.size HU6.out.nX HU6.out.nY HU6.out.bel.size)
          have hlX : bx < w7.heap.size := kcX.lt (by omega)
          have hlY : by' < w7.heap.size := kcY.lt (by omega)
          have htr := trim_block bx (m + 3) cx' X (by omega) HU.out.kX HXY.out.1 w7 kcX
          rw [HNX.out] at htr
          have HTR := hide htr
          have HK := hide (And.intro kcX (And.intro kcY (And.intro kfX (And.intro kfY (And.intro hbel (And.intro hlX hlY))))))
          clear htr kcX kcY kfX kfY hbel hlX hlY hbl
          go_wp2_with fail
          refine HTR.out.mono ?_
          rintro e w9 ⟨a9, c9, rfl, ha9, hc9, hb9⟩
          obtain rfl : a9 = some ⟨bx, 0, none⟩ := ha9.resolve_right (by omega)
          clear ha9
          have hnv0 : (0 : Int) ≤ (nX : Int) := by omega
          have hcyA : (nX : Int) ≤ (cy' : Int) := by have := HU.out.kY; omega
          go_wp2_with fail
          go_roundg (X + Y)
          case measure =>
           have h1 := HGK.out
           have h2 := HXY.out.2.2.2.2.2.2
           omega
          case rel =>
           obtain ⟨kcX, kcY, kfX, kfY, hbel, hlX, hlY⟩ := HK.out
           obtain ⟨hXl, hYl, hX0, hYX, hXu, hgcd, hsum⟩ := HXY.out
           exact ⟨X, Y, nX, bx, by', c9, cy', rfl, rfl, rfl, by omega, HNX.out.symm, hYX, hgcd.trans HU.out.gcd, (kcX.below hb9 (.inl (Nat.le_refl _))).mono hnXm, (kcY.below hb9 (.inl (Nat.le_refl _))).mono hnXm,
              fun j hj => kfX.below hb9 hlX j (by omega), fun j hj => kfY.below hb9 hlY j (by omega), HU.out.ne, HU.out.nX, HU.out.nY, Nat.lt_of_lt_of_le hlX hb9.size, Nat.lt_of_lt_of_le hlY hb9.size, hc9, by have := HU.out.kY; omega, hbel.trans (hb9.mono hbel.size)⟩
    · -- both are words
      have hul : u < 18446744073709551616 := Nat.lt_of_lt_of_le hU.ult (by rw [← bp_two]; exact bp_le h2)
      have hvl : v < 18446744073709551616 := Nat.lt_of_le_of_lt hU.le hul
      have hgl : Nat.gcd u v < 18446744073709551616 := by
       rcases Nat.eq_zero_or_pos u with h | h
       · rw [h, Nat.gcd_zero_left]; exact hvl
       · exact Nat.lt_of_le_of_lt (Nat.le_of_dvd h (Nat.gcd_dvd_left u v)) hul
      have j1 := join_any (some ⟨bx, 0, none⟩) n cx' (dgt u) h2 (fun _ _ => dgt_lt _ _) wr (.inr ⟨bx, 0, rfl, hU.cX⟩)
      have j2 := fun w' (hb : Below wr.heap.size wr w') => join_any (some ⟨by', 0, none⟩) n cy' (dgt v) h2 (fun _ _ => dgt_lt _ _) w' (.inr ⟨by', 0, rfl, hU.cY.below hb (.inl (Nat.le_refl _))⟩)
      rw [hU.valX] at j1
      rw [hU.valY] at j2
      have J1 := hide j1
      have J2 := hide j2
      have HL := hide (And.intro hul (And.intro hvl hgl))
      have hno : (n : Int) ≤ 2 := by omega
      clear hul hvl hgl j1 j2 hU h2
      go_wp2_with fail
      refine J1.out.mono ?_
      rintro e w4 ⟨rfl, hb4⟩
      go_wp2_with fail
      refine (J2.out w4 hb4).mono ?_
      rintro e w5 ⟨rfl, hb5⟩
      have hB5 := HU.out.bel.trans ((hb4.trans (hb5.mono hb4.size)).mono HU.out.bel.size)
      go_wp2_with fail
      refine (commonWord_any u v HL.out.1 HL.out.2.1 w5).mono ?_
      rintro e w6 ⟨rfl, hb6⟩
      have hB6 := hB5.trans (hb6.mono hB5.size)
      go_wp2_with fail
      refine (split_any (Nat.gcd u v) HL.out.2.2 w6).mono ?_
      rintro e w7 ⟨a7, n7, c7, rfl, hd7, hc7, hf7, hb7⟩
      go_wp2
      go_ret
      exact ⟨a7, n7, c7, rfl, by rw [← HU.out.gcd]; exact hd7, hc7, hf7.imp id fun h ad e => Nat.le_trans hB6.size (h ad e), hB6.trans (hb7.mono hB6.size)⟩

set_option maxRecDepth 100000 in
set_option maxHeartbeats 8000000 in
theorem commonL_lt (ax ay : Option Addr) (x y nx ny cx cy : Nat) (hnx : nx ≤ 100000000000) (hny : ny ≤ 100000000000) (hxy : x < y) (w : World) (hx : IsD w ax nx x) (hy : IsD w ay ny y) :
 Calls Tryz.prog 107 #[.slice ax nx cx, .slice ay ny cy] w fun e w' => ∃ (a : Option Addr) (n cap : Nat), e = .returned (.slice a n cap) ∧ IsD w' a n (Nat.gcd x y) ∧ n ≤ cap ∧ (n = 0 ∨ Fresh w a) ∧ Below w.heap.size w w' := by
 have hcall := compare_any ax ay x y cx cy (by rw [← hx.len]; omega) w (by rw [← hx.len]; exact hx.dig) (by rw [← hy.len]; exact hy.dig)
 rw [← hx.len, ← hy.len] at hcall
 have hcmp : cmpN x y < 0 := by
  rw [cmpN_lt hxy]; decide
 have hle : nx ≤ ny := by rw [hx.len, hy.len]; exact dlen_mono (by omega)
 have HC := hide hcall
 clear hcall
 go_enter Tryz.func107, Tryz.ntmps107
 go_wp2_with fail
 refine HC.out.mono ?_
 rintro e w1 ⟨rfl, hb1⟩
 go_wp2_with fail
 refine (resize_any ay ny cy ny _ rfl (dgt y) (Nat.le_refl _) (by omega) _ (hy.dig.below hb1)).mono ?_
 rintro e w2 ⟨g1, rfl, hg1, hc1, hf1, hb2⟩
 have hB2 := hb1.trans (hb2.mono hb1.size)
 have hg1l : 0 < ny → g1 < w2.heap.size := fun h0 => hc1.lt h0
 go_wp2_with fail
 refine (resize_any ax nx cx ny _ rfl (dgt x) hle (by omega) _ (hx.dig.below hB2)).mono ?_
 rintro e w3 ⟨g2, rfl, hg2, hc2, hf2, hb3⟩
 have hB3 := hB2.trans (hb3.mono hB2.size)
 have HV : Hid (Nat.gcd y x = Nat.gcd x y) := by show _ = _; first | rfl | exact Nat.gcd_comm _ _
 have hs2 := hb1.size
 by_cases hn0 : ny = 0
 · -- both are 0
   have hA0 : y = 0 := by have := hy.len; rw [hn0] at this; exact dlen_eq_zero.1 this.symm
   have hB0 : x = 0 := by omega
   have hz : Nat.gcd x y = 0 := by rw [← HV.out, hA0, hB0]; rfl
   have HZ := hide hz
   have d1 : Dig w3 (some ⟨g1, 0, none⟩) 0 (dgt 0) := .inl rfl
   have d2 : Dig w3 (some ⟨g2, 0, none⟩) 0 (dgt 0) := .inl rfl
   have j1 := fun w' => join_any (some ⟨g1, 0, none⟩) 0 0 (dgt 0) (by decide) (fun _ _ => dgt_lt _ _) w' (.inl rfl)
   have j2 := fun w' => join_any (some ⟨g2, 0, none⟩) 0 0 (dgt 0) (by decide) (fun _ _ => dgt_lt _ _) w' (.inl rfl)
   rw [show valF (dgt 0) 0 = 0 from rfl] at j1 j2
   have J1 := hide j1
   have J2 := hide j2
   rw [hn0]
   clear hn0 hA0 hB0 hz d1 d2 j1 j2 hc1 hc2 hf1 hf2 hg1l hle hx hy
   go_wp2_with fail
   go_loopw [5, 6] (fun p q wr => p = .slice (some ⟨g1, 0, none⟩) 0 0 ∧ q = .slice (some ⟨g2, 0, none⟩) 0 0 ∧ wr = w3) (fun _ _ _ => 0)
   case atStart => exact ⟨rfl, rfl, rfl⟩
   obtain ⟨rfl, rfl, hwr⟩ := hrel
   rw [hwr]
   clear hwr
   go_wp2_with fail
   refine (J1.out w3).mono ?_
   rintro e w4 ⟨rfl, hb4⟩
   have hB4 := hB3.trans (hb4.mono hB3.size)
   go_wp2_with fail
   refine (J2.out w4).mono ?_
   rintro e w5 ⟨rfl, hb5⟩
   have hB5 := hB4.trans (hb5.mono hB4.size)
   go_wp2_with fail
   refine (commonWord_any 0 0 (by decide) (by decide) w5).mono ?_
   rintro e w6 ⟨rfl, hb6⟩
   have hB6 := hB5.trans (hb6.mono hB5.size)
   go_wp2_with fail
   refine (split_any (Nat.gcd 0 0) (by decide) w6).mono ?_
   rintro e w7 ⟨a7, n7, c7, rfl, hd7, hc7, hf7, hb7⟩
   go_wp2
   go_ret
   exact ⟨a7, n7, c7, rfl, by rw [HZ.out]; exact hd7, hc7, hf7.imp id fun h ad e => Nat.le_trans hB6.size (h ad e), hB6.trans (hb7.mono hB6.size)⟩
 · have hnp : 0 < ny := by omega
   have hG : GcdAt w x y y x ny g1 g2 ny ny w3 := by
    have l1 := hg1l hnp
    have l2 := hc2.lt hnp
    have c1 := (hc1.congr (g := dgt y) fun j _ => mixF_dgt (Nat.le_of_eq hy.len.symm))
    have c2 := (hc2.congr (g := dgt x) fun j _ => mixF_dgt (Nat.le_of_eq hx.len.symm))
    exact ⟨hy.len, by omega, HV.out, c1.below hb3 (.inl (Nat.le_refl _)), c2, hf1.below hb3 l1, hf2, by omega, by omega, by have := hb2.size; omega, Nat.lt_of_lt_of_le l1 hb3.size, l2, Nat.le_refl _, Nat.le_refl _, hB3⟩
   have HG := hide hG
   have HN := hide (And.intro hnx hny)
   clear hG hn0 hnp hc1 hc2 hf1 hf2 hg1l hle hx hy hxy hnx hny
   go_wp2_with fail
   go_loopg [5, 6] (y + x) (fun gk p q wr => ∃ (u v n bx by' cx' cy' : Nat), p = .slice (some ⟨bx, 0, none⟩) n cx' ∧ q = .slice (some ⟨by', 0, none⟩) n cy' ∧ gk = u + v ∧ n ≤ 100000000000 ∧ Hid (GcdAt w x y u v n bx by' cx' cy' wr))
   case atStart => exact ⟨y, x, ny, g1, g2, ny, ny, rfl, rfl, rfl, by have := HN.out; omega, HG.out⟩
   case round =>
    obtain ⟨u, v, n, bx, by', cx', cy', rfl, rfl, hgk, hn, HU⟩ := hrel
    have hU := HU.out
    have HGK := hide hgk
    clear hgk
    rcases Nat.lt_or_ge 2 n with h3 | h2
    · obtain ⟨m, rfl⟩ : ∃ m, n = m + 3 := ⟨n - 3, by omega⟩
      have hu0 : 0 < u := Nat.pos_of_ne_zero fun e => by have := hU.len; rw [e, dlen_zero] at this; omega
      have hvl : v < bp (m + 3) := Nat.lt_of_le_of_lt hU.le hU.ult
      have hT := trim_block by' (m + 3) cy' v (by omega) hU.kY hvl wr hU.cY
      have HT := hide hT
      have h3A : (2 : Int) < (m : Int) + 3 := by omega
      have e3 : ((m + 3 : Nat) : Int) = (m : Int) + 3 := by omega
      by_cases hv0 : v = 0
      · have hres : u = Nat.gcd x y := by rw [← hU.gcd, hv0, Nat.gcd_zero_right]
        have HR := hide hres
        rw [hv0, dlen_zero] at HT
        clear hU hT hvl hu0 h3 hv0 hres
        go_wp2_with fail
        refine HT.out.mono ?_
        rintro e w4 ⟨a7, c7, rfl, -, -, hb4⟩
        go_wp2
        go_ret
        have hU := HU.out.below hb4
        exact ⟨some ⟨bx, 0, none⟩, m + 3, cx', rfl, ⟨by rw [← HR.out]; exact hU.len, by rw [← HR.out]; exact .inr ⟨bx, 0, rfl, hU.cX⟩⟩, hU.kX, .inr fun ad e => by cases e; exact hU.nX, hU.bel⟩
      · have hvp : 0 < v := by omega
        have hnv := dlen_pos' hvp
        obtain ⟨nv, hnve⟩ : ∃ nv, dlen v = nv := ⟨_, rfl⟩
        rw [hnve] at HT hnv
        have hnz : (((nv : Nat) : Int) == 0) = false := by simp; omega
        have HV := hide (And.intro hvp (And.intro hnv (And.intro hnve (And.intro hu0 hvl))))
        clear hU hT hvl hu0 h3 hv0 hvp hnve
        go_wp2_with fail
        refine HT.out.mono ?_
        rintro e w4 ⟨a7, c7, rfl, ha7, hc7, hb4⟩
        obtain rfl : a7 = some ⟨by', 0, none⟩ := ha7.resolve_right (by omega)
        have HU4 := hide (HU.out.below hb4)
        have hF := firstSteps_any bx 0 by' 0 m cx' cy' u v (by omega) HU.out.kX HU.out.kY HU.out.len.symm HU.out.le w4 HU4.out.cX HU4.out.cY
        have HF := hide hF
        clear hF ha7 HT hb4
        go_wp2_with fail
        refine HF.out.mono ?_
        rintro e w5 ⟨s, A, B, C, D, rfl, hb5, hA, hB, hC, hD, hstep⟩
        have HU5 := hide (HU4.out.below hb5)
        have HS := hide (And.intro hA (And.intro hB (And.intro hC (And.intro hD hstep))))
        obtain ⟨a, ha⟩ : ∃ a, sgn s A = a := ⟨_, rfl⟩
        obtain ⟨b, hb⟩ : ∃ b, sgn (!s) B = b := ⟨_, rfl⟩
        obtain ⟨c, hc⟩ : ∃ c, sgn (!s) C = c := ⟨_, rfl⟩
        obtain ⟨d, hd⟩ : ∃ d, sgn s D = d := ⟨_, rfl⟩
        rw [ha, hb, hc, hd]
        have HA := hide (And.intro ha (And.intro hb (And.intro hc hd)))
        have hk6 := below_alloc' w5 (Obj.cells #[.int .i64 a, .int .i64 b, .int .i64 c, .int .i64 d] 133)
        have b8 := Box4.new w5 a b c d 133
        have HU6 := hide (HU5.out.below hk6)
        clear hA hB hC hD hstep ha hb hc hd hb5 HF
        by_cases hB0 : B = 0
        · have hok : decide (B ≠ 0) = false := by simp [hB0]
          rw [hok]
          clear hok hB0
          go_wp2_with fail
          obtain ⟨W6, hW6⟩ : ∃ W6, w5.alloc (Obj.cells #[.int .i64 a, .int .i64 b, .int .i64 c, .int .i64 d] 133) = W6 := ⟨_, rfl⟩
          rw [hW6] at HU6 ⊢
          have hnvm : nv ≤ m + 3 := by rw [← HV.out.2.2.1, HU.out.len]; exact dlen_mono HU.out.le
          have hdv := divide_any (some ⟨bx, 0, none⟩) (some ⟨by', 0, none⟩) u v (m + 3) nv cx' c7 hn hnv W6 ⟨HU6.out.len, .inr ⟨bx, 0, rfl, HU6.out.cX⟩⟩ ⟨HV.out.2.2.1.symm, .inr ⟨by', 0, rfl, HU6.out.cY.mono hnvm⟩⟩
          have HD := hide hdv
          clear hdv hW6 hk6 b8 HS HA
          refine HD.out.mono ?_
          rintro e w7 ⟨a1, n1, k1, a2, n2, k2, rfl, -, -, -, q2, -, -, hb7⟩
          have hmod := Nat.mod_lt u HV.out.1
          have hn2 : n2 ≤ nv := by rw [q2.len, ← HV.out.2.2.1]; exact dlen_mono (by omega)
          have hvb : v < bp nv := by rw [← HV.out.2.2.1]; exact lt_bp_dlen v
          have hrs := resize_any a2 n2 k2 nv _ rfl (dgt (u % v)) hn2 (by omega) w7 q2.dig
          have HRS := hide hrs
          have HQ2 := hide (And.intro q2 (And.intro hmod (And.intro hn2 (And.intro hvb hnvm))))
          have HU7 := hide (HU6.out.below hb7)
          clear hrs q2 hmod hn2 hvb hnvm hb7
          go_wp2_with fail
          refine HRS.out.mono ?_
          rintro e w8 ⟨g, rfl, hg, hcg, hfg, hb8⟩
          have HU8 := hide (HU7.out.below hb8)
          have htr := trim_block by' nv c7 v (by have := HQ2.out.2.2.2.2; omega) hc7 HQ2.out.2.2.2.1 w8 (HU8.out.cY.mono HQ2.out.2.2.2.2)
          rw [HV.out.2.2.1] at htr
          have HTR := hide htr
          have HG8 := hide (And.intro hcg (And.intro hfg hg))
          clear htr hcg hfg hg hb8
          go_wp2_with fail
          refine HTR.out.mono ?_
          rintro e w9 ⟨a9, c9, rfl, ha9, hc9, hb9⟩
          obtain rfl : a9 = some ⟨by', 0, none⟩ := ha9.resolve_right (by omega)
          have HU9 := hide (HU8.out.below hb9)
          clear ha9
          have hnv0 : (0 : Int) ≤ (nv : Int) := by omega
          go_wp2_with fail
          go_roundg (v + u % v)
          case measure =>
           have h1 := HGK.out
           have h2 := HQ2.out.2.1
           have h3 := HU.out.le
           have h4 := HV.out.1
           omega
          case rel =>
           obtain ⟨q2, hmod, hn2, hvb, hnvm⟩ := HQ2.out
           obtain ⟨hcg, hfg, hg⟩ := HG8.out
           have hU := HU9.out
           have hgl : g < w8.heap.size := hcg.lt hnv
           have hcg' : Cells w8 g 0 nv (dgt (u % v)) := hcg.congr fun j _ => mixF_dgt (Nat.le_of_eq q2.len.symm)
           have hgcd : Nat.gcd v (u % v) = Nat.gcd u v := by rw [Nat.gcd_comm u v, Nat.gcd_rec v u, Nat.gcd_comm]
           exact ⟨v, u % v, nv, by', g, c9, nv, rfl, rfl, rfl, by omega, HV.out.2.2.1.symm, Nat.le_of_lt hmod, hgcd.trans HU.out.gcd, hU.cY.mono hnvm, hcg'.below hb9 (.inl (Nat.le_refl _)),
              fun j hj => hU.fY j (by omega), hfg.below hb9 hgl, by have := HU7.out.lY; omega, hU.nY, Nat.le_trans HU7.out.bel.size hg, hU.lY, Nat.lt_of_lt_of_le hgl hb9.size, hc9, Nat.le_refl _, hU.bel⟩
        · have hok : decide (B ≠ 0) = true := by simp [hB0]
          rw [hok]
          obtain ⟨X, Y, hX, hY, hYX, hXu, hgcd, hsum⟩ := HS.out.2.2.2.2 hB0
          obtain ⟨h0, h1, h2, h3, -, -, -, -⟩ := b8
          clear hok hB0
          go_wp2_with fail
          obtain ⟨W6, hW6⟩ : ∃ W6, w5.alloc (Obj.cells #[.int .i64 a, .int .i64 b, .int .i64 c, .int .i64 d] 133) = W6 := ⟨_, rfl⟩
          rw [hW6] at HU6 ⊢
          have hXl : X < bp (m + 3) := Nat.lt_of_le_of_lt hXu HU.out.ult
          have hYl : Y < bp (m + 3) := Nat.lt_of_le_of_lt hYX hXl
          have hX0 : 0 < X := by
           rcases Nat.eq_zero_or_pos X with e | e
           · exfalso
             have h1 : Y = 0 := by omega
             rw [e, h1, Nat.gcd_zero_left] at hgcd
             have := Nat.gcd_pos_of_pos_left v HV.out.2.2.2.1
             omega
           · exact e
          have hap := apply_any s A B C D bx 0 by' 0 (m + 3) cx' cy' X Y (dgt u) (dgt v) HS.out.1 HS.out.2.1 HS.out.2.2.1 HS.out.2.2.2.1 (by omega) (fun _ _ => dgt_lt _ _) (fun _ _ => dgt_lt _ _) (by rw [HU.out.valX, HU.out.valY]; exact hX) (by rw [HU.out.valX, HU.out.valY]; exact hY) hXl hYl HU.out.ne W6 HU6.out.cX HU6.out.cY HU6.out.fX HU6.out.fY HU6.out.lX HU6.out.lY
          rw [HA.out.1, HA.out.2.1, HA.out.2.2.1, HA.out.2.2.2] at hap
          have HAP := hide hap
          have HXY := hide (And.intro hXl (And.intro hYl (And.intro hX0 (And.intro hYX (And.intro hXu (And.intro hgcd hsum))))))
          obtain ⟨nX, hnX⟩ : ∃ nX, dlen X = nX := ⟨_, rfl⟩
          have hnX0 : 0 < nX := by rw [← hnX]; exact dlen_pos' hX0
          have hnXm : nX ≤ m + 3 := by rw [← hnX]; exact dlen_le_iff.2 hXl
          have HNX := hide hnX
          clear hap hXl hYl hX0 hYX hXu hgcd hsum hX hY hW6 hk6 h0 h1 h2 h3 HS HA hnX
          refine HAP.out.mono ?_
          rintro e w7 ⟨⟨v7, rfl⟩, kcX, kcY, kfX, kfY, hbl⟩
          have hbel := HU6.out.bel.trans (hbl w.heap.size HU6.out.nX HU6.out.nY HU6.out.bel.size)
          have hlX : bx < w7.heap.size := kcX.lt (by omega)
          have hlY : by' < w7.heap.size := kcY.lt (by omega)
          have htr := trim_block bx (m + 3) cx' X (by omega) HU.out.kX HXY.out.1 w7 kcX
          rw [HNX.out] at htr
          have HTR := hide htr
          have HK := hide (And.intro kcX (And.intro kcY (And.intro kfX (And.intro kfY (And.intro hbel (And.intro hlX hlY))))))
          clear htr kcX kcY kfX kfY hbel hlX hlY hbl
          go_wp2_with fail
          refine HTR.out.mono ?_
          rintro e w9 ⟨a9, c9, rfl, ha9, hc9, hb9⟩
          obtain rfl : a9 = some ⟨bx, 0, none⟩ := ha9.resolve_right (by omega)
          clear ha9
          have hnv0 : (0 : Int) ≤ (nX : Int) := by omega
          have hcyA : (nX : Int) ≤ (cy' : Int) := by have := HU.out.kY; omega
          go_wp2_with fail
          go_roundg (X + Y)
          case measure =>
           have h1 := HGK.out
           have h2 := HXY.out.2.2.2.2.2.2
           omega
          case rel =>
           obtain ⟨kcX, kcY, kfX, kfY, hbel, hlX, hlY⟩ := HK.out
           obtain ⟨hXl, hYl, hX0, hYX, hXu, hgcd, hsum⟩ := HXY.out
           exact ⟨X, Y, nX, bx, by', c9, cy', rfl, rfl, rfl, by omega, HNX.out.symm, hYX, hgcd.trans HU.out.gcd, (kcX.below hb9 (.inl (Nat.le_refl _))).mono hnXm, (kcY.below hb9 (.inl (Nat.le_refl _))).mono hnXm,
              fun j hj => kfX.below hb9 hlX j (by omega), fun j hj => kfY.below hb9 hlY j (by omega), HU.out.ne, HU.out.nX, HU.out.nY, Nat.lt_of_lt_of_le hlX hb9.size, Nat.lt_of_lt_of_le hlY hb9.size, hc9, by have := HU.out.kY; omega, hbel.trans (hb9.mono hbel.size)⟩
    · -- both are words
      have hul : u < 18446744073709551616 := Nat.lt_of_lt_of_le hU.ult (by rw [← bp_two]; exact bp_le h2)
      have hvl : v < 18446744073709551616 := Nat.lt_of_le_of_lt hU.le hul
      have hgl : Nat.gcd u v < 18446744073709551616 := by
       rcases Nat.eq_zero_or_pos u with h | h
       · rw [h, Nat.gcd_zero_left]; exact hvl
       · exact Nat.lt_of_le_of_lt (Nat.le_of_dvd h (Nat.gcd_dvd_left u v)) hul
      have j1 := join_any (some ⟨bx, 0, none⟩) n cx' (dgt u) h2 (fun _ _ => dgt_lt _ _) wr (.inr ⟨bx, 0, rfl, hU.cX⟩)
      have j2 := fun w' (hb : Below wr.heap.size wr w') => join_any (some ⟨by', 0, none⟩) n cy' (dgt v) h2 (fun _ _ => dgt_lt _ _) w' (.inr ⟨by', 0, rfl, hU.cY.below hb (.inl (Nat.le_refl _))⟩)
      rw [hU.valX] at j1
      rw [hU.valY] at j2
      have J1 := hide j1
      have J2 := hide j2
      have HL := hide (And.intro hul (And.intro hvl hgl))
      have hno : (n : Int) ≤ 2 := by omega
      clear hul hvl hgl j1 j2 hU h2
      go_wp2_with fail
      refine J1.out.mono ?_
      rintro e w4 ⟨rfl, hb4⟩
      go_wp2_with fail
      refine (J2.out w4 hb4).mono ?_
      rintro e w5 ⟨rfl, hb5⟩
      have hB5 := HU.out.bel.trans ((hb4.trans (hb5.mono hb4.size)).mono HU.out.bel.size)
      go_wp2_with fail
      refine (commonWord_any u v HL.out.1 HL.out.2.1 w5).mono ?_
      rintro e w6 ⟨rfl, hb6⟩
      have hB6 := hB5.trans (hb6.mono hB5.size)
      go_wp2_with fail
      refine (split_any (Nat.gcd u v) HL.out.2.2 w6).mono ?_
      rintro e w7 ⟨a7, n7, c7, rfl, hd7, hc7, hf7, hb7⟩
      go_wp2
      go_ret
      exact ⟨a7, n7, c7, rfl, by rw [← HU.out.gcd]; exact hd7, hc7, hf7.imp id fun h ad e => Nat.le_trans hB6.size (h ad e), hB6.trans (hb7.mono hB6.size)⟩

theorem commonL_any (ax ay : Option Addr) (x y nx ny cx cy : Nat) (hnx : nx ≤ 100000000000) (hny : ny ≤ 100000000000) (w : World) (hx : IsD w ax nx x) (hy : IsD w ay ny y) :
 Calls Tryz.prog 107 #[.slice ax nx cx, .slice ay ny cy] w fun e w' => ∃ (a : Option Addr) (n cap : Nat), e = .returned (.slice a n cap) ∧ IsD w' a n (Nat.gcd x y) ∧ n ≤ cap ∧ (n = 0 ∨ Fresh w a) ∧ Below w.heap.size w w' := by
 rcases Nat.lt_or_ge x y with h | h
 · exact commonL_lt ax ay x y nx ny cx cy hnx hny h w hx hy
 · exact commonL_ge ax ay x y nx ny cx cy hnx hny h w hx hy
theorem gcd_num (sa sb : Bool) (aa ab : Option Addr) (na nb ca cb : Nat) (za zb : Int) (hna : na ≤ 64) (hnb : nb ≤ 64) (w : World) (ha : IsN w sa aa na za) (hb : IsN w sb ab nb zb) :
 Calls Tryz.prog 58 #[.agg #[.bool sa, .slice aa na ca], .agg #[.bool sb, .slice ab nb cb]] w (NumPost w (Int.gcd za zb)) :=
 gcd_of sa sb aa ab na nb ca cb za zb hna hnb w ha hb fun w1 hw => commonL_any aa ab _ _ na nb ca cb (by omega) (by omega) w1 (ha.dig.below hw) (hb.dig.below hw)
end Go.Proofs.YtgenaicmjddjcaaGreatDoor

