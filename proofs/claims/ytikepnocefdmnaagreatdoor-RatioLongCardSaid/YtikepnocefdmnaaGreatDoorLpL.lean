/- the law RatioLong: it is true. -/
import Derived.Test.YtikepnocefdmnaaGreatDoorLwS
import Derived.Test.YtikepnocefdmnaaGreatDoorLpP
namespace Go.Proofs.YtikepnocefdmnaaGreatDoor
open Go.RowKit Go.Shelf

/-- two fractions handed back are laid in two new variables -/
theorem rat_new2 {w Z W' : World} {s1 : Bool} {a1 : Option Addr} {n1 c1 : Nat} {s2 : Bool} {a2 : Option Addr} {n2 c2 : Nat} {o : Option Rat} {t1 : Bool} {b1 : Option Addr} {m1 e1 : Nat} {t2 : Bool} {b2 : Option Addr} {m2 e2 : Nat} {o2 : Option Rat} {t : TypeId}
 (hZ : (w.alloc (Obj.cells #[.bool false, .slice none 0 0, .bool false, .slice none 0 0] t)).alloc (Obj.cells #[.bool false, .slice none 0 0, .bool false, .slice none 0 0] t) = Z)
 (hW : (((((((Z.setCell ⟨w.heap.size, 0, none⟩ (.bool s1)).setCell ⟨w.heap.size, 1, none⟩ (.slice a1 n1 c1)).setCell ⟨w.heap.size, 2, none⟩ (.bool s2)).setCell ⟨w.heap.size, 3, none⟩ (.slice a2 n2 c2)).setCell ⟨w.heap.size + 1, 0, none⟩ (.bool t1)).setCell ⟨w.heap.size + 1, 1, none⟩ (.slice b1 m1 e1)).setCell ⟨w.heap.size + 1, 2, none⟩ (.bool t2)).setCell ⟨w.heap.size + 1, 3, none⟩ (.slice b2 m2 e2) = W')
 (N : RArg w s1 a1 n1 s2 a2 n2 o) (M : RArg w t1 b1 m1 t2 b2 m2 o2) :
 HeldR W' w.heap.size s1 a1 n1 c1 s2 a2 n2 c2 o ∧ HeldR W' (w.heap.size + 1) t1 b1 m1 e1 t2 b2 m2 e2 o2 ∧ Below w.heap.size w W' ∧ Quad Z w.heap.size (.bool false) (.slice none 0 0) (.bool false) (.slice none 0 0) ∧ Quad Z (w.heap.size + 1) (.bool false) (.slice none 0 0) (.bool false) (.slice none 0 0) := by
 have b1' : Quad Z w.heap.size (.bool false) (.slice none 0 0) (.bool false) (.slice none 0 0) := by rw [← hZ]; exact (Quad.new w _ _ _ _ t).below (below_alloc _ _)
 have b2' : Quad Z (w.heap.size + 1) (.bool false) (.slice none 0 0) (.bool false) (.slice none 0 0) := by
  rw [← hZ]; have := Quad.new (w.alloc (Obj.cells #[.bool false, .slice none 0 0, .bool false, .slice none 0 0] t)) (.bool false) (.slice none 0 0) (.bool false) (.slice none 0 0) t
  rw [World.size_alloc] at this; exact this
 have kZ : Below w.heap.size w Z := by rw [← hZ]; exact (below_alloc w _).trans ((below_alloc _ _).mono (by simp))
 obtain ⟨V, hV⟩ : ∃ V, (((Z.setCell ⟨w.heap.size, 0, none⟩ (.bool s1)).setCell ⟨w.heap.size, 1, none⟩ (.slice a1 n1 c1)).setCell ⟨w.heap.size, 2, none⟩ (.bool s2)).setCell ⟨w.heap.size, 3, none⟩ (.slice a2 n2 c2) = V := ⟨_, rfl⟩
 rw [hV] at hW
 obtain ⟨q1, t1'⟩ := b1'.set _ _ _ _ hV
 have b3 := b2'.touch (by omega) t1'
 obtain ⟨q2, t2'⟩ := b3.set _ _ _ _ hW
 have q1 := q1.touch (by omega) t2'
 have k1 : Below w.heap.size w V := kZ.trans ((t1'.below (Nat.le_refl _) kZ.size))
 have k2 : Below w.heap.size w W' := k1.trans (t2'.below (Nat.le_succ _) k1.size)
 exact ⟨⟨q1, N.below k2⟩, ⟨q2, M.below k2⟩, k2, b1', b2'⟩
theorem power_z (z : Int) (n : Nat) (h : n < 2048) (e : z = (n : Int)) (w : World) :
 Calls Tryz.prog 46 #[.int .i64 z] w (PowV w n) := by subst e; exact power_r n h w
set_option maxRecDepth 100000 in
set_option maxHeartbeats 32000000 in
theorem rlong_Aeq (z0 z1 : Int) (m n : Nat) (_h0 : 0 ≤ z0) (_h1 : z0 ≤ 65535) (_g0 : 0 ≤ z1) (_g1 : z1 ≤ 65535) (e0 : z0 % 2048 = (m : Int)) (e1 : z1 % 2048 = (n : Int)) (f0 : Int.tmod z0 2048 = (m : Int)) (f1 : Int.tmod z1 2048 = (n : Int)) (hm : m < 2048) (hn : n < 2048) (hmn : m + n < 2048) (he : m = n) (w : World) (ht : Pow10 w) (hsy : Syn w) :
 Calls Tryz.prog 9 #[.int .u16 z0, .int .u16 z1] w fun e w' => e = .returned (.bool true) ∧ Below w.heap.size w w' := by
 have HMul : Hid (mulRO (some (powR m)) (some (powR n)) = some (powR (m + n))) := mul_pow hmn
 have HQ1 := (quot_pow m n).1
 have HQ2 := (quot_pow m n).2
 have HDiv : Hid (divRO (some (powR m)) (some (powR n)) = some (Rat.divInt (powZ m) (powZ n))) := div_pow hm hn
 obtain ⟨Q, hQ⟩ : ∃ Q, Rat.divInt (powZ m) (powZ n) = Q := ⟨_, rfl⟩
 rw [hQ] at HQ1 HQ2 HDiv
 clear hQ
 obtain ⟨k, hk'⟩ : ∃ k, min m n = k := ⟨_, rfl⟩
 rw [hk'] at HQ1 HQ2
 obtain ⟨u, hu⟩ : ∃ u, m - k = u := ⟨_, rfl⟩
 obtain ⟨v, hv⟩ : ∃ v, n - k = v := ⟨_, rfl⟩
 rw [hu] at HQ1
 rw [hv] at HQ2
 obtain ⟨g, hg⟩ : ∃ g, max m n = g := ⟨_, rfl⟩
 have i1 : min (m : Int) (n : Int) = (k : Int) := by omega
 have i2 : max (m : Int) (n : Int) = (g : Int) := by omega
 have i3 : (m : Int) - (k : Int) = (u : Int) := by omega
 have i4 : (n : Int) - (k : Int) = (v : Int) := by omega
 have hu2 : u < 2048 := by omega
 have hv2 : v < 2048 := by omega
 have hQ1 := hide HQ1
 have hQ2 := hide HQ2
 clear HQ1 HQ2
 obtain ⟨O, hO⟩ : ∃ O, cmpZ (m : Int) (n : Int) = O := ⟨_, rfl⟩
 have K74 : Hid (cmpRO (some (powR m)) (some (powR n)) = O) := (cmp_pow m n).trans hO
 have K79 := hide hO
 clear hO
 have HAdd : Hid (addRO (some (powR m)) (some (powR n)) = some (powR (m + 1))) := by
  obtain rfl : n = m := by omega
  exact addR_same (by omega)
 have v1 : IntKind.i64.wrap ((m : Int) + 1) = (m : Int) + 1 := by simp only [IntKind.wrap, IntKind.bits, IntKind.signed]; simp; omega
 have v2 : IntKind.i64.wrap ((m : Int) + (n : Int)) = (m : Int) + (n : Int) := by simp only [IntKind.wrap, IntKind.bits, IntKind.signed]; simp; omega
 have t86 : decide ((g : Int) < 2047) = true := decide_eq_true (by omega)
 have t90 : ((m : Int) == (n : Int)) = true := by simp; omega
 have tn1 : ((m : Int) != (n : Int)) = false := by simp; omega
 have tn2 : decide ((m : Int) = (n : Int)) = true := decide_eq_true (by omega)
 have t122 : decide ((m : Int) + (n : Int) < 2048) = true := decide_eq_true (by omega)
 have hm1 : m + 1 < 2048 := by omega
 clear hu hv hg hk' he
 go_enter Tryz.func9, Tryz.ntmps9
 have hB := Below.refl w.heap.size w
 go_wp2_with fail
 have cc := sanity3_true w ht hsy
 refine cc.mono ?_
 rintro e w1 ⟨rfl, hk⟩
 have hB := hB.trans (hk.mono hB.size)
 clear hk
 clear cc
 go_wp2_with fail
 have cc := power_z ((m : Int)) m (by omega) (by omega) w1
 refine cc.mono ?_
 rintro e w2 ⟨s27, a27, n27, c27, rfl, N25, k25, hk⟩
 have hB := hB.trans (hk.mono hB.size)
 clear hk
 clear cc
 go_wp2_with fail
 have cc := power_z (0) 0 (by omega) (by omega) w2
 refine cc.mono ?_
 rintro e w3 ⟨t27, b27, m27, d27, rfl, N26, k26, hk⟩
 have hB := hB.trans (hk.mono hB.size)
 have N25 := N25.below hk
 clear hk
 clear cc
 go_wp2_with fail
 have cc := power_z ((n : Int)) n (by omega) (by omega) w3
 refine cc.mono ?_
 rintro e w4 ⟨s31, a31, n31, c31, rfl, N29, k29, hk⟩
 have hB := hB.trans (hk.mono hB.size)
 have N25 := N25.below hk
 have N26 := N26.below hk
 clear hk
 clear cc
 go_wp2_with fail
 have cc := power_z (0) 0 (by omega) (by omega) w4
 refine cc.mono ?_
 rintro e w5 ⟨t31, b31, m31, d31, rfl, N30, k30, hk⟩
 have hB := hB.trans (hk.mono hB.size)
 have N25 := N25.below hk
 have N26 := N26.below hk
 have N29 := N29.below hk
 clear hk
 clear cc
 obtain ⟨Z27, hZ27⟩ : ∃ Z, (w5.alloc (Obj.cells #[.bool false, .slice none 0 0, .bool false, .slice none 0 0] 27)).alloc (Obj.cells #[.bool false, .slice none 0 0, .bool false, .slice none 0 0] 27) = Z := ⟨_, rfl⟩
 obtain ⟨W27, hW27⟩ : ∃ W, (((((((Z27.setCell ⟨w5.heap.size, 0, none⟩ (.bool s27)).setCell ⟨w5.heap.size, 1, none⟩ (.slice a27 n27 c27)).setCell ⟨w5.heap.size, 2, none⟩ (.bool t27)).setCell ⟨w5.heap.size, 3, none⟩ (.slice b27 m27 d27)).setCell ⟨w5.heap.size + 1, 0, none⟩ (.bool s31)).setCell ⟨w5.heap.size + 1, 1, none⟩ (.slice a31 n31 c31)).setCell ⟨w5.heap.size + 1, 2, none⟩ (.bool t31)).setCell ⟨w5.heap.size + 1, 3, none⟩ (.slice b31 m31 d31) = W := ⟨_, rfl⟩
 obtain ⟨H8, H9, hk, bx27, bx31⟩ := rat_new2 (c1 := c27) (c2 := d27) (e1 := c31) (e2 := d31) hZ27 hW27 (RArg.of (x := (powR m)) N25 N26 k25 k26) (RArg.of (x := (powR n)) N29 N30 k29 k30)
 obtain ⟨B8, hB27⟩ : ∃ B, w5.heap.size = B := ⟨_, rfl⟩
 have l8 : w.heap.size ≤ B8 := by rw [← hB27]; exact hB.size
 have l8_9 : B8 < B8 + 1 := by omega
 have l9 : w.heap.size ≤ B8 + 1 := by omega
 have hB := hB.trans (hk.mono hB.size)
 have N25 := N25.below hk
 have N26 := N26.below hk
 have N29 := N29.below hk
 have N30 := N30.below hk
 clear hk
 rw [hB27] at hW27 H8 H9 bx27 bx31
 obtain ⟨⟨y0, y1, y2, y3⟩, yz0, yz1, yz2, yz3⟩ := id bx27
 obtain ⟨⟨y0', y1', y2', y3'⟩, yz0', yz1', yz2', yz3'⟩ := id bx31
 obtain ⟨⟨x20, x21, x22, x23⟩, xz20, xz21, xz22, xz23⟩ := id H8.box
 obtain ⟨⟨x30, x31, x32, x33⟩, xz30, xz31, xz32, xz33⟩ := id H9.box
 go_wp2_with fail
 try rw [hW27]
 try rw [hB27]
 clear hW27 hB27
 clear y0 y1 y2 y3 yz0 yz1 yz2 yz3 y0' y1' y2' y3' yz0' yz1' yz2' yz3' x20 x21 x22 x23 xz20 xz21 xz22 xz23 x30 x31 x32 x33 xz30 xz31 xz32 xz33
 have cc := mul_r s27 t27 s31 t31 a27 b27 a31 b31 n27 m27 n31 m31 c27 d27 c31 d31 (some (powR m)) (some (powR n)) W27 H8.arg H9.arg
 rw [HMul.out] at cc
 refine cc.mono ?_
 rintro e w6 ⟨s35, a35, n35, c35, t35, b35, m35, d35, rfl, P1, P2, k1, k2, hk⟩
 have hB := hB.trans (hk.mono hB.size)
 have N25 := N25.below hk
 have N26 := N26.below hk
 have N29 := N29.below hk
 have N30 := N30.below hk
 have H8 := H8.below hk
 have H9 := H9.below hk
 clear hk
 clear cc
 have R35 := rarg_of (some (powR (m + n))) P1 P2 k1 k2
 clear P1 P2 k1 k2
 obtain ⟨Z35, hZ35⟩ : ∃ Z, w6.alloc (Obj.cells #[.bool false, .slice none 0 0, .bool false, .slice none 0 0] 27) = Z := ⟨_, rfl⟩
 obtain ⟨W35, hW35⟩ : ∃ W, (((Z35.setCell ⟨w6.heap.size, 0, none⟩ (.bool s35)).setCell ⟨w6.heap.size, 1, none⟩ (.slice a35 n35 c35)).setCell ⟨w6.heap.size, 2, none⟩ (.bool t35)).setCell ⟨w6.heap.size, 3, none⟩ (.slice b35 m35 d35) = W := ⟨_, rfl⟩
 obtain ⟨H10, hk, bx35⟩ := rat_new (c1 := c35) (c2 := d35) hZ35 hW35 R35
 obtain ⟨B10, hB35⟩ : ∃ B, w6.heap.size = B := ⟨_, rfl⟩
 have l10 : w.heap.size ≤ B10 := by rw [← hB35]; exact hB.size
 have l8_10 : B8 < B10 := by rw [← hB35]; exact H8.box.lt
 have l9_10 : B8 + 1 < B10 := by rw [← hB35]; exact H9.box.lt
 have hB := hB.trans (hk.mono hB.size)
 have N25 := N25.below hk
 have N26 := N26.below hk
 have N29 := N29.below hk
 have N30 := N30.below hk
 have H8 := H8.below hk
 have H9 := H9.below hk
 have R35 := R35.below hk
 clear hk
 rw [hB35] at hW35 H10 bx35
 clear R35
 clear N25
 clear N26
 clear N29
 clear N30
 obtain ⟨⟨y0, y1, y2, y3⟩, yz0, yz1, yz2, yz3⟩ := id bx35
 obtain ⟨⟨x10, x11, x12, x13⟩, xz10, xz11, xz12, xz13⟩ := id H8.box
 obtain ⟨⟨x20, x21, x22, x23⟩, xz20, xz21, xz22, xz23⟩ := id H9.box
 go_wp2_with fail
 try rw [hW35]
 try rw [hB35]
 clear hW35 hB35
 clear y0 y1 y2 y3 yz0 yz1 yz2 yz3 x10 x11 x12 x13 xz10 xz11 xz12 xz13 x20 x21 x22 x23 xz20 xz21 xz22 xz23
 have cc := div_r s27 t27 s31 t31 a27 b27 a31 b31 n27 m27 n31 m31 c27 d27 c31 d31 (some (powR m)) (some (powR n)) W35 H8.arg H9.arg
 rw [HDiv.out] at cc
 refine cc.mono ?_
 rintro e w7 ⟨s41, a41, n41, c41, t41, b41, m41, d41, rfl, P1, P2, k1, k2, hk⟩
 have hB := hB.trans (hk.mono hB.size)
 have H8 := H8.below hk
 have H9 := H9.below hk
 have H10 := H10.below hk
 clear hk
 clear cc
 have R41 := rarg_of (some Q) P1 P2 k1 k2
 clear P1 P2 k1 k2
 obtain ⟨Z41, hZ41⟩ : ∃ Z, w7.alloc (Obj.cells #[.bool false, .slice none 0 0, .bool false, .slice none 0 0] 27) = Z := ⟨_, rfl⟩
 obtain ⟨W41, hW41⟩ : ∃ W, (((Z41.setCell ⟨w7.heap.size, 0, none⟩ (.bool s41)).setCell ⟨w7.heap.size, 1, none⟩ (.slice a41 n41 c41)).setCell ⟨w7.heap.size, 2, none⟩ (.bool t41)).setCell ⟨w7.heap.size, 3, none⟩ (.slice b41 m41 d41) = W := ⟨_, rfl⟩
 obtain ⟨H12, hk, bx41⟩ := rat_new (c1 := c41) (c2 := d41) hZ41 hW41 R41
 obtain ⟨B12, hB41⟩ : ∃ B, w7.heap.size = B := ⟨_, rfl⟩
 have l12 : w.heap.size ≤ B12 := by rw [← hB41]; exact hB.size
 have l8_12 : B8 < B12 := by rw [← hB41]; exact H8.box.lt
 have l9_12 : B8 + 1 < B12 := by rw [← hB41]; exact H9.box.lt
 have l10_12 : B10 < B12 := by rw [← hB41]; exact H10.box.lt
 have hB := hB.trans (hk.mono hB.size)
 have H8 := H8.below hk
 have H9 := H9.below hk
 have H10 := H10.below hk
 have R41 := R41.below hk
 clear hk
 rw [hB41] at hW41 H12 bx41
 clear R41
 obtain ⟨⟨y0, y1, y2, y3⟩, yz0, yz1, yz2, yz3⟩ := id bx41
 obtain ⟨⟨x10, x11, x12, x13⟩, xz10, xz11, xz12, xz13⟩ := id H8.box
 obtain ⟨⟨x20, x21, x22, x23⟩, xz20, xz21, xz22, xz23⟩ := id H9.box
 go_wp2_with fail
 try rw [hW41]
 try rw [hB41]
 clear hW41 hB41
 clear y0 y1 y2 y3 yz0 yz1 yz2 yz3 x10 x11 x12 x13 xz10 xz11 xz12 xz13 x20 x21 x22 x23 xz20 xz21 xz22 xz23
 have cc := add_r s27 t27 s31 t31 a27 b27 a31 b31 n27 m27 n31 m31 c27 d27 c31 d31 (some (powR m)) (some (powR n)) W41 H8.arg H9.arg
 rw [HAdd.out] at cc
 refine cc.mono ?_
 rintro e w8 ⟨s47, a47, n47, c47, t47, b47, m47, d47, rfl, P1, P2, k1, k2, hk⟩
 have hB := hB.trans (hk.mono hB.size)
 have H8 := H8.below hk
 have H9 := H9.below hk
 have H10 := H10.below hk
 have H12 := H12.below hk
 clear hk
 clear cc
 have R47 := rarg_of (some (powR (m + 1))) P1 P2 k1 k2
 clear P1 P2 k1 k2
 obtain ⟨Z47, hZ47⟩ : ∃ Z, w8.alloc (Obj.cells #[.bool false, .slice none 0 0, .bool false, .slice none 0 0] 27) = Z := ⟨_, rfl⟩
 obtain ⟨W47, hW47⟩ : ∃ W, (((Z47.setCell ⟨w8.heap.size, 0, none⟩ (.bool s47)).setCell ⟨w8.heap.size, 1, none⟩ (.slice a47 n47 c47)).setCell ⟨w8.heap.size, 2, none⟩ (.bool t47)).setCell ⟨w8.heap.size, 3, none⟩ (.slice b47 m47 d47) = W := ⟨_, rfl⟩
 obtain ⟨H14, hk, bx47⟩ := rat_new (c1 := c47) (c2 := d47) hZ47 hW47 R47
 obtain ⟨B14, hB47⟩ : ∃ B, w8.heap.size = B := ⟨_, rfl⟩
 have l14 : w.heap.size ≤ B14 := by rw [← hB47]; exact hB.size
 have l8_14 : B8 < B14 := by rw [← hB47]; exact H8.box.lt
 have l9_14 : B8 + 1 < B14 := by rw [← hB47]; exact H9.box.lt
 have l10_14 : B10 < B14 := by rw [← hB47]; exact H10.box.lt
 have l12_14 : B12 < B14 := by rw [← hB47]; exact H12.box.lt
 have hB := hB.trans (hk.mono hB.size)
 have H8 := H8.below hk
 have H9 := H9.below hk
 have H10 := H10.below hk
 have H12 := H12.below hk
 have R47 := R47.below hk
 clear hk
 rw [hB47] at hW47 H14 bx47
 clear R47
 obtain ⟨⟨y0, y1, y2, y3⟩, yz0, yz1, yz2, yz3⟩ := id bx47
 go_wp2_with fail
 try rw [hW47]
 try rw [hB47]
 clear hW47 hB47
 clear y0 y1 y2 y3 yz0 yz1 yz2 yz3
 have cc := power_z ((u : Int)) u (by omega) (by omega) W47
 refine cc.mono ?_
 rintro e w9 ⟨s62, a62, n62, c62, rfl, N55, k55, hk⟩
 have hB := hB.trans (hk.mono hB.size)
 have H8 := H8.below hk
 have H9 := H9.below hk
 have H10 := H10.below hk
 have H12 := H12.below hk
 have H14 := H14.below hk
 clear hk
 clear cc
 go_wp2_with fail
 have cc := power_z ((v : Int)) v (by omega) (by omega) w9
 refine cc.mono ?_
 rintro e w10 ⟨t62, b62, m62, d62, rfl, N61, k61, hk⟩
 have hB := hB.trans (hk.mono hB.size)
 have H8 := H8.below hk
 have H9 := H9.below hk
 have H10 := H10.below hk
 have H12 := H12.below hk
 have H14 := H14.below hk
 have N55 := N55.below hk
 clear hk
 clear cc
 obtain ⟨Z62, hZ62⟩ : ∃ Z, w10.alloc (Obj.cells #[.bool false, .slice none 0 0, .bool false, .slice none 0 0] 27) = Z := ⟨_, rfl⟩
 obtain ⟨W62, hW62⟩ : ∃ W, (((Z62.setCell ⟨w10.heap.size, 0, none⟩ (.bool s62)).setCell ⟨w10.heap.size, 1, none⟩ (.slice a62 n62 c62)).setCell ⟨w10.heap.size, 2, none⟩ (.bool t62)).setCell ⟨w10.heap.size, 3, none⟩ (.slice b62 m62 d62) = W := ⟨_, rfl⟩
 obtain ⟨H16, hk, bx62⟩ := rat_new (c1 := c62) (c2 := d62) hZ62 hW62 (RArg.of (x := Q) (by rw [hQ1.out]; exact N55) (by rw [hQ2.out]; exact N61) k55 k61)
 obtain ⟨B16, hB62⟩ : ∃ B, w10.heap.size = B := ⟨_, rfl⟩
 have l16 : w.heap.size ≤ B16 := by rw [← hB62]; exact hB.size
 have l8_16 : B8 < B16 := by rw [← hB62]; exact H8.box.lt
 have l9_16 : B8 + 1 < B16 := by rw [← hB62]; exact H9.box.lt
 have l10_16 : B10 < B16 := by rw [← hB62]; exact H10.box.lt
 have l12_16 : B12 < B16 := by rw [← hB62]; exact H12.box.lt
 have l14_16 : B14 < B16 := by rw [← hB62]; exact H14.box.lt
 have hB := hB.trans (hk.mono hB.size)
 have H8 := H8.below hk
 have H9 := H9.below hk
 have H10 := H10.below hk
 have H12 := H12.below hk
 have H14 := H14.below hk
 have N55 := N55.below hk
 have N61 := N61.below hk
 clear hk
 rw [hB62] at hW62 H16 bx62
 obtain ⟨⟨y0, y1, y2, y3⟩, yz0, yz1, yz2, yz3⟩ := id bx62
 obtain ⟨⟨x10, x11, x12, x13⟩, xz10, xz11, xz12, xz13⟩ := id H12.box
 obtain ⟨⟨x20, x21, x22, x23⟩, xz20, xz21, xz22, xz23⟩ := id H16.box
 go_wp2_with fail
 try rw [hW62]
 try rw [hB62]
 clear hW62 hB62
 clear y0 y1 y2 y3 yz0 yz1 yz2 yz3 x10 x11 x12 x13 xz10 xz11 xz12 xz13 x20 x21 x22 x23 xz20 xz21 xz22 xz23
 have cc := same_r s41 t41 s62 t62 a41 b41 a62 b62 n41 m41 n62 m62 c41 d41 c62 d62 _ _ H12.arg.l1 H12.arg.l2 W62 H12.arg.num H12.arg.den H16.arg.num H16.arg.den
 refine cc.mono ?_
 rintro e w11 ⟨rfl, hk⟩
 have hB := hB.trans (hk.mono hB.size)
 have H8 := H8.below hk
 have H9 := H9.below hk
 have H10 := H10.below hk
 have H12 := H12.below hk
 have H14 := H14.below hk
 have N55 := N55.below hk
 have N61 := N61.below hk
 have H16 := H16.below hk
 clear hk
 clear cc
 obtain ⟨⟨x00, x01, x02, x03⟩, xz00, xz01, xz02, xz03⟩ := id H8.box
 obtain ⟨⟨x10, x11, x12, x13⟩, xz10, xz11, xz12, xz13⟩ := id H9.box
 go_wp2_with fail
 clear x00 x01 x02 x03 xz00 xz01 xz02 xz03 x10 x11 x12 x13 xz10 xz11 xz12 xz13
 have cc := cmp_r s27 t27 s31 t31 a27 b27 a31 b31 n27 m27 n31 m31 c27 d27 c31 d31 (some (powR m)) (some (powR n)) w11 H8.arg H9.arg
 rw [K74.out] at cc
 refine cc.mono ?_
 rintro e w12 ⟨rfl, hk⟩
 have hB := hB.trans (hk.mono hB.size)
 have H8 := H8.below hk
 have H9 := H9.below hk
 have H10 := H10.below hk
 have H12 := H12.below hk
 have H14 := H14.below hk
 have N55 := N55.below hk
 have N61 := N61.below hk
 have H16 := H16.below hk
 clear hk
 clear cc
 go_wp2_with fail
 have cc := of_any (m : Int) (by omega) (by omega) w12
 refine cc.mono ?_
 rintro e w13 ⟨s76, a76, n76, c76, rfl, N76, hk⟩
 have k76 := of_len N76 (by omega) (by omega)
 have hB := hB.trans (hk.mono hB.size)
 have H8 := H8.below hk
 have H9 := H9.below hk
 have H10 := H10.below hk
 have H12 := H12.below hk
 have H14 := H14.below hk
 have N55 := N55.below hk
 have N61 := N61.below hk
 have H16 := H16.below hk
 clear hk
 clear cc
 go_wp2_with fail
 have cc := of_any (n : Int) (by omega) (by omega) w13
 refine cc.mono ?_
 rintro e w14 ⟨s78, a78, n78, c78, rfl, N78, hk⟩
 have k78 := of_len N78 (by omega) (by omega)
 have hB := hB.trans (hk.mono hB.size)
 have H8 := H8.below hk
 have H9 := H9.below hk
 have H10 := H10.below hk
 have H12 := H12.below hk
 have H14 := H14.below hk
 have N55 := N55.below hk
 have N61 := N61.below hk
 have H16 := H16.below hk
 have N76 := N76.below hk
 clear hk
 clear cc
 go_wp2_with fail
 have cc := cmp_any s76 s78 a76 a78 n76 n78 c76 c78 (m : Int) (n : Int) k76 k78 w14 N76 N78
 rw [K79.out] at cc
 refine cc.mono ?_
 rintro e w15 ⟨rfl, hk⟩
 have hB := hB.trans (hk.mono hB.size)
 have H8 := H8.below hk
 have H9 := H9.below hk
 have H10 := H10.below hk
 have H12 := H12.below hk
 have H14 := H14.below hk
 have N55 := N55.below hk
 have N61 := N61.below hk
 have H16 := H16.below hk
 have N76 := N76.below hk
 have N78 := N78.below hk
 clear hk
 clear cc
 clear N55
 clear N61
 clear N76
 clear N78
 go_wp2_with fail
 obtain ⟨S12, hS12⟩ : ∃ b, w15.drew.heap.size = b := ⟨_, rfl⟩
 have lS : S12 ≤ w15.drew.heap.size := by omega
 have l14E : B14 < S12 := by rw [← hS12]; exact H14.box.lt
 clear hS12
 have hB := hB.drew
 have H8 := H8.below (Below.drew (Below.refl w15.heap.size w15))
 have H9 := H9.below (Below.drew (Below.refl w15.heap.size w15))
 have H10 := H10.below (Below.drew (Below.refl w15.heap.size w15))
 have H12 := H12.below (Below.drew (Below.refl w15.heap.size w15))
 have H14 := H14.below (Below.drew (Below.refl w15.heap.size w15))
 have H16 := H16.below (Below.drew (Below.refl w15.heap.size w15))
 refine wp_region_held_drew (S := fun w' => Below (S12) w15.drew w') (by kernel_rfl) (Below.refl _ _) (fun hHeld => ?_)
 obtain ⟨E12, hWE⟩ : ∃ W, w15.drew = W := ⟨_, rfl⟩
 rw [hWE] at hB H8 H9 H10 H12 H14 H16 hHeld lS ⊢
 clear hWE
 have hE := Below.refl E12.heap.size E12
 have hS : Below S12 E12 E12 := Below.refl _ _
 obtain ⟨⟨x14_0, x14_1, x14_2, x14_3⟩, -, -, -, -⟩ := id H14.box
 refine tk 0 (.int .i64 (m : Int)) 103 rfl rfl ?_
 simp only [Act.put, pA, pB, pC]
 refine tk 1 (.int .i64 (n : Int)) 104 rfl rfl ?_
 simp only [Act.put, pA, pB, pC]
 refine tk 2 (.bool true) 105 rfl rfl ?_
 simp only [Act.put, pA, pB, pC]
 refine tk 3 (.bool true) 106 rfl rfl ?_
 simp only [Act.put, pA, pB, pC]
 refine tk 4 (.bool true) 107 rfl rfl ?_
 simp only [Act.put, pA, pB, pC]
 refine tk 5 (.bool true) 108 rfl rfl ?_
 simp only [Act.put, pA, pB, pC]
 refine tk 6 (.bool true) 109 rfl rfl ?_
 simp only [Act.put, pA, pB, pC]
 refine tk 7 (.agg #[.bool s47, .slice a47 n47 c47, .bool t47, .slice b47 m47 d47]) 110 rfl rfl ?_ (Or.inl ⟨by rfl, fun w' hSw => by have z0 := (hSw.cell (p := ⟨B14, 0, none⟩) l14E).trans x14_0; have z1 := (hSw.cell (p := ⟨B14, 1, none⟩) l14E).trans x14_1; have z2 := (hSw.cell (p := ⟨B14, 2, none⟩) l14E).trans x14_2; have z3 := (hSw.cell (p := ⟨B14, 3, none⟩) l14E).trans x14_3; go_simp⟩)
 simp only [Act.put, pA, pB, pC]
 refine tk 8 (.int .i64 (m : Int)) 111 rfl rfl ?_
 simp only [Act.put, pA, pB, pC]
 refine tk 9 (.int .i64 ((m : Int) + 1)) 112 rfl rfl ?_
 simp only [Act.put, pA, pB, pC]
 refine wpAnyH_one 10 (by kernel_rfl) ?_
 have cc := power_z (((m : Int) + 1)) (m + 1) (by omega) (by omega) E12
 refine wpOp_call (i := 10) (f := 46) (args := #[.int .i64 ((m : Int) + 1)]) 113 rfl rfl (by rfl) (by go_simp) ?_
 refine (cc).mono ?_
 rintro e r1 ⟨s115, a115, n115, c115, rfl, N113, k113, hk⟩
 clear cc
 have hE := hE.trans (hk.mono hE.size)
 have H8 := H8.below hk
 have H9 := H9.below hk
 have H10 := H10.below hk
 have H12 := H12.below hk
 have H14 := H14.below hk
 have H16 := H16.below hk
 have hS : Below S12 E12 r1 := hE.mono lS
 refine ⟨_, rfl, hS, ?_⟩
 simp only [Act.put, pA, pB, pC]
 refine wpAnyH_one 11 (by kernel_rfl) ?_
 have cc := power_z (0) 0 (by omega) (by omega) r1
 refine wpOp_call (i := 11) (f := 46) (args := #[.int .i64 0]) 114 rfl rfl (by rfl) (by go_simp) ?_
 refine (cc).mono ?_
 rintro e r2 ⟨t115, b115, m115, d115, rfl, N114, k114, hk⟩
 clear cc
 have hE := hE.trans (hk.mono hE.size)
 have H8 := H8.below hk
 have H9 := H9.below hk
 have H10 := H10.below hk
 have H12 := H12.below hk
 have H14 := H14.below hk
 have H16 := H16.below hk
 have N113 := N113.below hk
 have hS : Below S12 E12 r2 := hE.mono lS
 refine ⟨_, rfl, hS, ?_⟩
 simp only [Act.put, pA, pB, pC]
 refine tk 12 (.agg #[.bool s115, .slice a115 n115 c115, .bool t115, .slice b115 m115 d115]) 115 rfl rfl ?_
 simp only [Act.put, pA, pB, pC]
 refine wpAnyH_one 13 (by kernel_rfl) ?_
 have cc := same_r s47 t47 s115 t115 a47 b47 a115 b115 n47 m47 n115 m115 c47 d47 c115 d115 _ _ H14.arg.l1 H14.arg.l2 r2 H14.arg.num H14.arg.den (RArg.of (x := (powR (m + 1))) N113 N114 k113 k114).num (RArg.of (x := (powR (m + 1))) N113 N114 k113 k114).den
 refine wpOp_call (i := 13) (f := 26) (args := #[.agg #[.bool s47, .slice a47 n47 c47, .bool t47, .slice b47 m47 d47], .agg #[.bool s115, .slice a115 n115 c115, .bool t115, .slice b115 m115 d115]]) 116 rfl rfl (by rfl) (by go_simp) ?_
 refine (cc).mono ?_
 rintro e r3 ⟨rfl, hk⟩
 clear cc
 have hE := hE.trans (hk.mono hE.size)
 have H8 := H8.below hk
 have H9 := H9.below hk
 have H10 := H10.below hk
 have H12 := H12.below hk
 have H14 := H14.below hk
 have H16 := H16.below hk
 have N113 := N113.below hk
 have N114 := N114.below hk
 have hS : Below S12 E12 r3 := hE.mono lS
 refine ⟨_, rfl, hS, ?_⟩
 simp only [Act.put, pA, pB, pC]
 refine tk 14 (.bool false) 117 rfl rfl ?_
 simp only [Act.put, pA, pB, pC]
 refine tk 15 (.bool false) 118 rfl rfl ?_
 simp only [Act.put, pA, pB, pC]
 refine wpAnyH_done (by kernel_rfl) ?_ _
 have hB := hB.trans (hE.mono hB.size)
 clear x14_0 x14_1 x14_2 x14_3
 go_wp2_with fail
 obtain ⟨S15, hS15⟩ : ∃ b, r3.drew.heap.size = b := ⟨_, rfl⟩
 have lS : S15 ≤ r3.drew.heap.size := by omega
 have l10E : B10 < S15 := by rw [← hS15]; exact H10.box.lt
 clear hS15
 have hB := hB.drew
 have H8 := H8.below (Below.drew (Below.refl r3.heap.size r3))
 have H9 := H9.below (Below.drew (Below.refl r3.heap.size r3))
 have H10 := H10.below (Below.drew (Below.refl r3.heap.size r3))
 have H12 := H12.below (Below.drew (Below.refl r3.heap.size r3))
 have H14 := H14.below (Below.drew (Below.refl r3.heap.size r3))
 have H16 := H16.below (Below.drew (Below.refl r3.heap.size r3))
 have N113 := N113.below (Below.drew (Below.refl r3.heap.size r3))
 have N114 := N114.below (Below.drew (Below.refl r3.heap.size r3))
 refine wp_region_held_drew (S := fun w' => Below (S15) r3.drew w') (by kernel_rfl) (Below.refl _ _) (fun hHeld => ?_)
 obtain ⟨E15, hWE⟩ : ∃ W, r3.drew = W := ⟨_, rfl⟩
 rw [hWE] at hB H8 H9 H10 H12 H14 H16 N113 N114 hHeld lS ⊢
 clear hWE
 have hE := Below.refl E15.heap.size E15
 have hS : Below S15 E15 E15 := Below.refl _ _
 obtain ⟨⟨x10_0, x10_1, x10_2, x10_3⟩, -, -, -, -⟩ := id H10.box
 refine tk 0 (.bool true) 123 rfl rfl ?_
 simp only [Act.put, pA, pB, pC]
 refine tk 1 (.bool true) 124 rfl rfl ?_
 simp only [Act.put, pA, pB, pC]
 refine tk 2 (.bool true) 125 rfl rfl ?_
 simp only [Act.put, pA, pB, pC]
 refine tk 3 (.bool true) 126 rfl rfl ?_
 simp only [Act.put, pA, pB, pC]
 refine tk 4 (.bool true) 127 rfl rfl ?_
 simp only [Act.put, pA, pB, pC]
 refine tk 5 (.agg #[.bool s35, .slice a35 n35 c35, .bool t35, .slice b35 m35 d35]) 128 rfl rfl ?_ (Or.inl ⟨by rfl, fun w' hSw => by have z0 := (hSw.cell (p := ⟨B10, 0, none⟩) l10E).trans x10_0; have z1 := (hSw.cell (p := ⟨B10, 1, none⟩) l10E).trans x10_1; have z2 := (hSw.cell (p := ⟨B10, 2, none⟩) l10E).trans x10_2; have z3 := (hSw.cell (p := ⟨B10, 3, none⟩) l10E).trans x10_3; go_simp⟩)
 simp only [Act.put, pA, pB, pC]
 refine tk 6 (.int .i64 (m : Int)) 129 rfl rfl ?_
 simp only [Act.put, pA, pB, pC]
 refine tk 7 (.int .i64 (n : Int)) 130 rfl rfl ?_
 simp only [Act.put, pA, pB, pC]
 refine tk 8 (.int .i64 ((m : Int) + (n : Int))) 131 rfl rfl ?_
 simp only [Act.put, pA, pB, pC]
 refine wpAnyH_one 9 (by kernel_rfl) ?_
 have cc := power_z (((m : Int) + (n : Int))) (m + n) (by omega) (by omega) E15
 refine wpOp_call (i := 9) (f := 46) (args := #[.int .i64 ((m : Int) + (n : Int))]) 132 rfl rfl (by rfl) (by go_simp) ?_
 refine (cc).mono ?_
 rintro e r1 ⟨s134, a134, n134, c134, rfl, N132, k132, hk⟩
 clear cc
 have hE := hE.trans (hk.mono hE.size)
 have H8 := H8.below hk
 have H9 := H9.below hk
 have H10 := H10.below hk
 have H12 := H12.below hk
 have H14 := H14.below hk
 have H16 := H16.below hk
 have N113 := N113.below hk
 have N114 := N114.below hk
 have hS : Below S15 E15 r1 := hE.mono lS
 refine ⟨_, rfl, hS, ?_⟩
 simp only [Act.put, pA, pB, pC]
 refine wpAnyH_one 10 (by kernel_rfl) ?_
 have cc := power_z (0) 0 (by omega) (by omega) r1
 refine wpOp_call (i := 10) (f := 46) (args := #[.int .i64 0]) 133 rfl rfl (by rfl) (by go_simp) ?_
 refine (cc).mono ?_
 rintro e r2 ⟨t134, b134, m134, d134, rfl, N133, k133, hk⟩
 clear cc
 have hE := hE.trans (hk.mono hE.size)
 have H8 := H8.below hk
 have H9 := H9.below hk
 have H10 := H10.below hk
 have H12 := H12.below hk
 have H14 := H14.below hk
 have H16 := H16.below hk
 have N113 := N113.below hk
 have N114 := N114.below hk
 have N132 := N132.below hk
 have hS : Below S15 E15 r2 := hE.mono lS
 refine ⟨_, rfl, hS, ?_⟩
 simp only [Act.put, pA, pB, pC]
 refine tk 11 (.agg #[.bool s134, .slice a134 n134 c134, .bool t134, .slice b134 m134 d134]) 134 rfl rfl ?_
 simp only [Act.put, pA, pB, pC]
 refine wpAnyH_one 12 (by kernel_rfl) ?_
 have cc := same_r s35 t35 s134 t134 a35 b35 a134 b134 n35 m35 n134 m134 c35 d35 c134 d134 _ _ H10.arg.l1 H10.arg.l2 r2 H10.arg.num H10.arg.den (RArg.of (x := (powR (m + n))) N132 N133 k132 k133).num (RArg.of (x := (powR (m + n))) N132 N133 k132 k133).den
 refine wpOp_call (i := 12) (f := 26) (args := #[.agg #[.bool s35, .slice a35 n35 c35, .bool t35, .slice b35 m35 d35], .agg #[.bool s134, .slice a134 n134 c134, .bool t134, .slice b134 m134 d134]]) 135 rfl rfl (by rfl) (by go_simp) ?_
 refine (cc).mono ?_
 rintro e r3 ⟨rfl, hk⟩
 clear cc
 have hE := hE.trans (hk.mono hE.size)
 have H8 := H8.below hk
 have H9 := H9.below hk
 have H10 := H10.below hk
 have H12 := H12.below hk
 have H14 := H14.below hk
 have H16 := H16.below hk
 have N113 := N113.below hk
 have N114 := N114.below hk
 have N132 := N132.below hk
 have N133 := N133.below hk
 have hS : Below S15 E15 r3 := hE.mono lS
 refine ⟨_, rfl, hS, ?_⟩
 simp only [Act.put, pA, pB, pC]
 refine tk 13 (.bool true) 136 rfl rfl ?_
 simp only [Act.put, pA, pB, pC]
 refine tk 14 (.bool true) 4 rfl rfl ?_
 simp only [Act.put, pA, pB, pC]
 refine wpAnyH_done (by kernel_rfl) ?_ _
 have hB := hB.trans (hE.mono hB.size)
 clear x10_0 x10_1 x10_2 x10_3
 go_wp2
 go_ret
 exact ⟨rfl, hB⟩
set_option maxRecDepth 100000 in
set_option maxHeartbeats 32000000 in
theorem rlong_Anelo (z0 z1 : Int) (m n : Nat) (_h0 : 0 ≤ z0) (_h1 : z0 ≤ 65535) (_g0 : 0 ≤ z1) (_g1 : z1 ≤ 65535) (e0 : z0 % 2048 = (m : Int)) (e1 : z1 % 2048 = (n : Int)) (f0 : Int.tmod z0 2048 = (m : Int)) (f1 : Int.tmod z1 2048 = (n : Int)) (hm : m < 2048) (hn : n < 2048) (hmn : m + n < 2048) (hne : m ≠ n) (hg0 : max m n < 2047) (w : World) (ht : Pow10 w) (hsy : Syn w) :
 Calls Tryz.prog 9 #[.int .u16 z0, .int .u16 z1] w fun e w' => e = .returned (.bool true) ∧ Below w.heap.size w w' := by
 have HMul : Hid (mulRO (some (powR m)) (some (powR n)) = some (powR (m + n))) := mul_pow hmn
 have HQ1 := (quot_pow m n).1
 have HQ2 := (quot_pow m n).2
 have HDiv : Hid (divRO (some (powR m)) (some (powR n)) = some (Rat.divInt (powZ m) (powZ n))) := div_pow hm hn
 obtain ⟨Q, hQ⟩ : ∃ Q, Rat.divInt (powZ m) (powZ n) = Q := ⟨_, rfl⟩
 rw [hQ] at HQ1 HQ2 HDiv
 clear hQ
 obtain ⟨k, hk'⟩ : ∃ k, min m n = k := ⟨_, rfl⟩
 rw [hk'] at HQ1 HQ2
 obtain ⟨u, hu⟩ : ∃ u, m - k = u := ⟨_, rfl⟩
 obtain ⟨v, hv⟩ : ∃ v, n - k = v := ⟨_, rfl⟩
 rw [hu] at HQ1
 rw [hv] at HQ2
 obtain ⟨g, hg⟩ : ∃ g, max m n = g := ⟨_, rfl⟩
 have i1 : min (m : Int) (n : Int) = (k : Int) := by omega
 have i2 : max (m : Int) (n : Int) = (g : Int) := by omega
 have i3 : (m : Int) - (k : Int) = (u : Int) := by omega
 have i4 : (n : Int) - (k : Int) = (v : Int) := by omega
 have hu2 : u < 2048 := by omega
 have hv2 : v < 2048 := by omega
 have hQ1 := hide HQ1
 have hQ2 := hide HQ2
 clear HQ1 HQ2
 obtain ⟨O, hO⟩ : ∃ O, cmpZ (m : Int) (n : Int) = O := ⟨_, rfl⟩
 have K74 : Hid (cmpRO (some (powR m)) (some (powR n)) = O) := (cmp_pow m n).trans hO
 have K79 := hide hO
 clear hO
 obtain ⟨sz, hsz⟩ := addR_other hm hn hne
 have HAdd : Hid (addRO (some (powR m)) (some (powR n)) = some sz) := hide hsz
 clear hsz
 have v1 : IntKind.i64.wrap ((m : Int) + 1) = (m : Int) + 1 := by simp only [IntKind.wrap, IntKind.bits, IntKind.signed]; simp; omega
 have v2 : IntKind.i64.wrap ((m : Int) + (n : Int)) = (m : Int) + (n : Int) := by simp only [IntKind.wrap, IntKind.bits, IntKind.signed]; simp; omega
 have t86 : decide ((g : Int) < 2047) = true := decide_eq_true (by omega)
 have t90 : ((m : Int) == (n : Int)) = false := by simp; omega
 have tn1 : ((m : Int) != (n : Int)) = true := by simp; omega
 have tn2 : decide ((m : Int) = (n : Int)) = false := decide_eq_false (by omega)
 have t122 : decide ((m : Int) + (n : Int) < 2048) = true := decide_eq_true (by omega)
 clear hu hv hg hk'  hg0
 go_enter Tryz.func9, Tryz.ntmps9
 have hB := Below.refl w.heap.size w
 go_wp2_with fail
 have cc := sanity3_true w ht hsy
 refine cc.mono ?_
 rintro e w1 ⟨rfl, hk⟩
 have hB := hB.trans (hk.mono hB.size)
 clear hk
 clear cc
 go_wp2_with fail
 have cc := power_z ((m : Int)) m (by omega) (by omega) w1
 refine cc.mono ?_
 rintro e w2 ⟨s27, a27, n27, c27, rfl, N25, k25, hk⟩
 have hB := hB.trans (hk.mono hB.size)
 clear hk
 clear cc
 go_wp2_with fail
 have cc := power_z (0) 0 (by omega) (by omega) w2
 refine cc.mono ?_
 rintro e w3 ⟨t27, b27, m27, d27, rfl, N26, k26, hk⟩
 have hB := hB.trans (hk.mono hB.size)
 have N25 := N25.below hk
 clear hk
 clear cc
 go_wp2_with fail
 have cc := power_z ((n : Int)) n (by omega) (by omega) w3
 refine cc.mono ?_
 rintro e w4 ⟨s31, a31, n31, c31, rfl, N29, k29, hk⟩
 have hB := hB.trans (hk.mono hB.size)
 have N25 := N25.below hk
 have N26 := N26.below hk
 clear hk
 clear cc
 go_wp2_with fail
 have cc := power_z (0) 0 (by omega) (by omega) w4
 refine cc.mono ?_
 rintro e w5 ⟨t31, b31, m31, d31, rfl, N30, k30, hk⟩
 have hB := hB.trans (hk.mono hB.size)
 have N25 := N25.below hk
 have N26 := N26.below hk
 have N29 := N29.below hk
 clear hk
 clear cc
 obtain ⟨Z27, hZ27⟩ : ∃ Z, (w5.alloc (Obj.cells #[.bool false, .slice none 0 0, .bool false, .slice none 0 0] 27)).alloc (Obj.cells #[.bool false, .slice none 0 0, .bool false, .slice none 0 0] 27) = Z := ⟨_, rfl⟩
 obtain ⟨W27, hW27⟩ : ∃ W, (((((((Z27.setCell ⟨w5.heap.size, 0, none⟩ (.bool s27)).setCell ⟨w5.heap.size, 1, none⟩ (.slice a27 n27 c27)).setCell ⟨w5.heap.size, 2, none⟩ (.bool t27)).setCell ⟨w5.heap.size, 3, none⟩ (.slice b27 m27 d27)).setCell ⟨w5.heap.size + 1, 0, none⟩ (.bool s31)).setCell ⟨w5.heap.size + 1, 1, none⟩ (.slice a31 n31 c31)).setCell ⟨w5.heap.size + 1, 2, none⟩ (.bool t31)).setCell ⟨w5.heap.size + 1, 3, none⟩ (.slice b31 m31 d31) = W := ⟨_, rfl⟩
 obtain ⟨H8, H9, hk, bx27, bx31⟩ := rat_new2 (c1 := c27) (c2 := d27) (e1 := c31) (e2 := d31) hZ27 hW27 (RArg.of (x := (powR m)) N25 N26 k25 k26) (RArg.of (x := (powR n)) N29 N30 k29 k30)
 obtain ⟨B8, hB27⟩ : ∃ B, w5.heap.size = B := ⟨_, rfl⟩
 have l8 : w.heap.size ≤ B8 := by rw [← hB27]; exact hB.size
 have l8_9 : B8 < B8 + 1 := by omega
 have l9 : w.heap.size ≤ B8 + 1 := by omega
 have hB := hB.trans (hk.mono hB.size)
 have N25 := N25.below hk
 have N26 := N26.below hk
 have N29 := N29.below hk
 have N30 := N30.below hk
 clear hk
 rw [hB27] at hW27 H8 H9 bx27 bx31
 obtain ⟨⟨y0, y1, y2, y3⟩, yz0, yz1, yz2, yz3⟩ := id bx27
 obtain ⟨⟨y0', y1', y2', y3'⟩, yz0', yz1', yz2', yz3'⟩ := id bx31
 obtain ⟨⟨x20, x21, x22, x23⟩, xz20, xz21, xz22, xz23⟩ := id H8.box
 obtain ⟨⟨x30, x31, x32, x33⟩, xz30, xz31, xz32, xz33⟩ := id H9.box
 go_wp2_with fail
 try rw [hW27]
 try rw [hB27]
 clear hW27 hB27
 clear y0 y1 y2 y3 yz0 yz1 yz2 yz3 y0' y1' y2' y3' yz0' yz1' yz2' yz3' x20 x21 x22 x23 xz20 xz21 xz22 xz23 x30 x31 x32 x33 xz30 xz31 xz32 xz33
 have cc := mul_r s27 t27 s31 t31 a27 b27 a31 b31 n27 m27 n31 m31 c27 d27 c31 d31 (some (powR m)) (some (powR n)) W27 H8.arg H9.arg
 rw [HMul.out] at cc
 refine cc.mono ?_
 rintro e w6 ⟨s35, a35, n35, c35, t35, b35, m35, d35, rfl, P1, P2, k1, k2, hk⟩
 have hB := hB.trans (hk.mono hB.size)
 have N25 := N25.below hk
 have N26 := N26.below hk
 have N29 := N29.below hk
 have N30 := N30.below hk
 have H8 := H8.below hk
 have H9 := H9.below hk
 clear hk
 clear cc
 have R35 := rarg_of (some (powR (m + n))) P1 P2 k1 k2
 clear P1 P2 k1 k2
 obtain ⟨Z35, hZ35⟩ : ∃ Z, w6.alloc (Obj.cells #[.bool false, .slice none 0 0, .bool false, .slice none 0 0] 27) = Z := ⟨_, rfl⟩
 obtain ⟨W35, hW35⟩ : ∃ W, (((Z35.setCell ⟨w6.heap.size, 0, none⟩ (.bool s35)).setCell ⟨w6.heap.size, 1, none⟩ (.slice a35 n35 c35)).setCell ⟨w6.heap.size, 2, none⟩ (.bool t35)).setCell ⟨w6.heap.size, 3, none⟩ (.slice b35 m35 d35) = W := ⟨_, rfl⟩
 obtain ⟨H10, hk, bx35⟩ := rat_new (c1 := c35) (c2 := d35) hZ35 hW35 R35
 obtain ⟨B10, hB35⟩ : ∃ B, w6.heap.size = B := ⟨_, rfl⟩
 have l10 : w.heap.size ≤ B10 := by rw [← hB35]; exact hB.size
 have l8_10 : B8 < B10 := by rw [← hB35]; exact H8.box.lt
 have l9_10 : B8 + 1 < B10 := by rw [← hB35]; exact H9.box.lt
 have hB := hB.trans (hk.mono hB.size)
 have N25 := N25.below hk
 have N26 := N26.below hk
 have N29 := N29.below hk
 have N30 := N30.below hk
 have H8 := H8.below hk
 have H9 := H9.below hk
 have R35 := R35.below hk
 clear hk
 rw [hB35] at hW35 H10 bx35
 clear R35
 clear N25
 clear N26
 clear N29
 clear N30
 obtain ⟨⟨y0, y1, y2, y3⟩, yz0, yz1, yz2, yz3⟩ := id bx35
 obtain ⟨⟨x10, x11, x12, x13⟩, xz10, xz11, xz12, xz13⟩ := id H8.box
 obtain ⟨⟨x20, x21, x22, x23⟩, xz20, xz21, xz22, xz23⟩ := id H9.box
 go_wp2_with fail
 try rw [hW35]
 try rw [hB35]
 clear hW35 hB35
 clear y0 y1 y2 y3 yz0 yz1 yz2 yz3 x10 x11 x12 x13 xz10 xz11 xz12 xz13 x20 x21 x22 x23 xz20 xz21 xz22 xz23
 have cc := div_r s27 t27 s31 t31 a27 b27 a31 b31 n27 m27 n31 m31 c27 d27 c31 d31 (some (powR m)) (some (powR n)) W35 H8.arg H9.arg
 rw [HDiv.out] at cc
 refine cc.mono ?_
 rintro e w7 ⟨s41, a41, n41, c41, t41, b41, m41, d41, rfl, P1, P2, k1, k2, hk⟩
 have hB := hB.trans (hk.mono hB.size)
 have H8 := H8.below hk
 have H9 := H9.below hk
 have H10 := H10.below hk
 clear hk
 clear cc
 have R41 := rarg_of (some Q) P1 P2 k1 k2
 clear P1 P2 k1 k2
 obtain ⟨Z41, hZ41⟩ : ∃ Z, w7.alloc (Obj.cells #[.bool false, .slice none 0 0, .bool false, .slice none 0 0] 27) = Z := ⟨_, rfl⟩
 obtain ⟨W41, hW41⟩ : ∃ W, (((Z41.setCell ⟨w7.heap.size, 0, none⟩ (.bool s41)).setCell ⟨w7.heap.size, 1, none⟩ (.slice a41 n41 c41)).setCell ⟨w7.heap.size, 2, none⟩ (.bool t41)).setCell ⟨w7.heap.size, 3, none⟩ (.slice b41 m41 d41) = W := ⟨_, rfl⟩
 obtain ⟨H12, hk, bx41⟩ := rat_new (c1 := c41) (c2 := d41) hZ41 hW41 R41
 obtain ⟨B12, hB41⟩ : ∃ B, w7.heap.size = B := ⟨_, rfl⟩
 have l12 : w.heap.size ≤ B12 := by rw [← hB41]; exact hB.size
 have l8_12 : B8 < B12 := by rw [← hB41]; exact H8.box.lt
 have l9_12 : B8 + 1 < B12 := by rw [← hB41]; exact H9.box.lt
 have l10_12 : B10 < B12 := by rw [← hB41]; exact H10.box.lt
 have hB := hB.trans (hk.mono hB.size)
 have H8 := H8.below hk
 have H9 := H9.below hk
 have H10 := H10.below hk
 have R41 := R41.below hk
 clear hk
 rw [hB41] at hW41 H12 bx41
 clear R41
 obtain ⟨⟨y0, y1, y2, y3⟩, yz0, yz1, yz2, yz3⟩ := id bx41
 obtain ⟨⟨x10, x11, x12, x13⟩, xz10, xz11, xz12, xz13⟩ := id H8.box
 obtain ⟨⟨x20, x21, x22, x23⟩, xz20, xz21, xz22, xz23⟩ := id H9.box
 go_wp2_with fail
 try rw [hW41]
 try rw [hB41]
 clear hW41 hB41
 clear y0 y1 y2 y3 yz0 yz1 yz2 yz3 x10 x11 x12 x13 xz10 xz11 xz12 xz13 x20 x21 x22 x23 xz20 xz21 xz22 xz23
 have cc := add_r s27 t27 s31 t31 a27 b27 a31 b31 n27 m27 n31 m31 c27 d27 c31 d31 (some (powR m)) (some (powR n)) W41 H8.arg H9.arg
 rw [HAdd.out] at cc
 refine cc.mono ?_
 rintro e w8 ⟨s47, a47, n47, c47, t47, b47, m47, d47, rfl, P1, P2, k1, k2, hk⟩
 have hB := hB.trans (hk.mono hB.size)
 have H8 := H8.below hk
 have H9 := H9.below hk
 have H10 := H10.below hk
 have H12 := H12.below hk
 clear hk
 clear cc
 have R47 := rarg_of (some sz) P1 P2 k1 k2
 clear P1 P2 k1 k2
 obtain ⟨Z47, hZ47⟩ : ∃ Z, w8.alloc (Obj.cells #[.bool false, .slice none 0 0, .bool false, .slice none 0 0] 27) = Z := ⟨_, rfl⟩
 obtain ⟨W47, hW47⟩ : ∃ W, (((Z47.setCell ⟨w8.heap.size, 0, none⟩ (.bool s47)).setCell ⟨w8.heap.size, 1, none⟩ (.slice a47 n47 c47)).setCell ⟨w8.heap.size, 2, none⟩ (.bool t47)).setCell ⟨w8.heap.size, 3, none⟩ (.slice b47 m47 d47) = W := ⟨_, rfl⟩
 obtain ⟨H14, hk, bx47⟩ := rat_new (c1 := c47) (c2 := d47) hZ47 hW47 R47
 obtain ⟨B14, hB47⟩ : ∃ B, w8.heap.size = B := ⟨_, rfl⟩
 have l14 : w.heap.size ≤ B14 := by rw [← hB47]; exact hB.size
 have l8_14 : B8 < B14 := by rw [← hB47]; exact H8.box.lt
 have l9_14 : B8 + 1 < B14 := by rw [← hB47]; exact H9.box.lt
 have l10_14 : B10 < B14 := by rw [← hB47]; exact H10.box.lt
 have l12_14 : B12 < B14 := by rw [← hB47]; exact H12.box.lt
 have hB := hB.trans (hk.mono hB.size)
 have H8 := H8.below hk
 have H9 := H9.below hk
 have H10 := H10.below hk
 have H12 := H12.below hk
 have R47 := R47.below hk
 clear hk
 rw [hB47] at hW47 H14 bx47
 clear R47
 obtain ⟨⟨y0, y1, y2, y3⟩, yz0, yz1, yz2, yz3⟩ := id bx47
 go_wp2_with fail
 try rw [hW47]
 try rw [hB47]
 clear hW47 hB47
 clear y0 y1 y2 y3 yz0 yz1 yz2 yz3
 have cc := power_z ((u : Int)) u (by omega) (by omega) W47
 refine cc.mono ?_
 rintro e w9 ⟨s62, a62, n62, c62, rfl, N55, k55, hk⟩
 have hB := hB.trans (hk.mono hB.size)
 have H8 := H8.below hk
 have H9 := H9.below hk
 have H10 := H10.below hk
 have H12 := H12.below hk
 have H14 := H14.below hk
 clear hk
 clear cc
 go_wp2_with fail
 have cc := power_z ((v : Int)) v (by omega) (by omega) w9
 refine cc.mono ?_
 rintro e w10 ⟨t62, b62, m62, d62, rfl, N61, k61, hk⟩
 have hB := hB.trans (hk.mono hB.size)
 have H8 := H8.below hk
 have H9 := H9.below hk
 have H10 := H10.below hk
 have H12 := H12.below hk
 have H14 := H14.below hk
 have N55 := N55.below hk
 clear hk
 clear cc
 obtain ⟨Z62, hZ62⟩ : ∃ Z, w10.alloc (Obj.cells #[.bool false, .slice none 0 0, .bool false, .slice none 0 0] 27) = Z := ⟨_, rfl⟩
 obtain ⟨W62, hW62⟩ : ∃ W, (((Z62.setCell ⟨w10.heap.size, 0, none⟩ (.bool s62)).setCell ⟨w10.heap.size, 1, none⟩ (.slice a62 n62 c62)).setCell ⟨w10.heap.size, 2, none⟩ (.bool t62)).setCell ⟨w10.heap.size, 3, none⟩ (.slice b62 m62 d62) = W := ⟨_, rfl⟩
 obtain ⟨H16, hk, bx62⟩ := rat_new (c1 := c62) (c2 := d62) hZ62 hW62 (RArg.of (x := Q) (by rw [hQ1.out]; exact N55) (by rw [hQ2.out]; exact N61) k55 k61)
 obtain ⟨B16, hB62⟩ : ∃ B, w10.heap.size = B := ⟨_, rfl⟩
 have l16 : w.heap.size ≤ B16 := by rw [← hB62]; exact hB.size
 have l8_16 : B8 < B16 := by rw [← hB62]; exact H8.box.lt
 have l9_16 : B8 + 1 < B16 := by rw [← hB62]; exact H9.box.lt
 have l10_16 : B10 < B16 := by rw [← hB62]; exact H10.box.lt
 have l12_16 : B12 < B16 := by rw [← hB62]; exact H12.box.lt
 have l14_16 : B14 < B16 := by rw [← hB62]; exact H14.box.lt
 have hB := hB.trans (hk.mono hB.size)
 have H8 := H8.below hk
 have H9 := H9.below hk
 have H10 := H10.below hk
 have H12 := H12.below hk
 have H14 := H14.below hk
 have N55 := N55.below hk
 have N61 := N61.below hk
 clear hk
 rw [hB62] at hW62 H16 bx62
 obtain ⟨⟨y0, y1, y2, y3⟩, yz0, yz1, yz2, yz3⟩ := id bx62
 obtain ⟨⟨x10, x11, x12, x13⟩, xz10, xz11, xz12, xz13⟩ := id H12.box
 obtain ⟨⟨x20, x21, x22, x23⟩, xz20, xz21, xz22, xz23⟩ := id H16.box
 go_wp2_with fail
 try rw [hW62]
 try rw [hB62]
 clear hW62 hB62
 clear y0 y1 y2 y3 yz0 yz1 yz2 yz3 x10 x11 x12 x13 xz10 xz11 xz12 xz13 x20 x21 x22 x23 xz20 xz21 xz22 xz23
 have cc := same_r s41 t41 s62 t62 a41 b41 a62 b62 n41 m41 n62 m62 c41 d41 c62 d62 _ _ H12.arg.l1 H12.arg.l2 W62 H12.arg.num H12.arg.den H16.arg.num H16.arg.den
 refine cc.mono ?_
 rintro e w11 ⟨rfl, hk⟩
 have hB := hB.trans (hk.mono hB.size)
 have H8 := H8.below hk
 have H9 := H9.below hk
 have H10 := H10.below hk
 have H12 := H12.below hk
 have H14 := H14.below hk
 have N55 := N55.below hk
 have N61 := N61.below hk
 have H16 := H16.below hk
 clear hk
 clear cc
 obtain ⟨⟨x00, x01, x02, x03⟩, xz00, xz01, xz02, xz03⟩ := id H8.box
 obtain ⟨⟨x10, x11, x12, x13⟩, xz10, xz11, xz12, xz13⟩ := id H9.box
 go_wp2_with fail
 clear x00 x01 x02 x03 xz00 xz01 xz02 xz03 x10 x11 x12 x13 xz10 xz11 xz12 xz13
 have cc := cmp_r s27 t27 s31 t31 a27 b27 a31 b31 n27 m27 n31 m31 c27 d27 c31 d31 (some (powR m)) (some (powR n)) w11 H8.arg H9.arg
 rw [K74.out] at cc
 refine cc.mono ?_
 rintro e w12 ⟨rfl, hk⟩
 have hB := hB.trans (hk.mono hB.size)
 have H8 := H8.below hk
 have H9 := H9.below hk
 have H10 := H10.below hk
 have H12 := H12.below hk
 have H14 := H14.below hk
 have N55 := N55.below hk
 have N61 := N61.below hk
 have H16 := H16.below hk
 clear hk
 clear cc
 go_wp2_with fail
 have cc := of_any (m : Int) (by omega) (by omega) w12
 refine cc.mono ?_
 rintro e w13 ⟨s76, a76, n76, c76, rfl, N76, hk⟩
 have k76 := of_len N76 (by omega) (by omega)
 have hB := hB.trans (hk.mono hB.size)
 have H8 := H8.below hk
 have H9 := H9.below hk
 have H10 := H10.below hk
 have H12 := H12.below hk
 have H14 := H14.below hk
 have N55 := N55.below hk
 have N61 := N61.below hk
 have H16 := H16.below hk
 clear hk
 clear cc
 go_wp2_with fail
 have cc := of_any (n : Int) (by omega) (by omega) w13
 refine cc.mono ?_
 rintro e w14 ⟨s78, a78, n78, c78, rfl, N78, hk⟩
 have k78 := of_len N78 (by omega) (by omega)
 have hB := hB.trans (hk.mono hB.size)
 have H8 := H8.below hk
 have H9 := H9.below hk
 have H10 := H10.below hk
 have H12 := H12.below hk
 have H14 := H14.below hk
 have N55 := N55.below hk
 have N61 := N61.below hk
 have H16 := H16.below hk
 have N76 := N76.below hk
 clear hk
 clear cc
 go_wp2_with fail
 have cc := cmp_any s76 s78 a76 a78 n76 n78 c76 c78 (m : Int) (n : Int) k76 k78 w14 N76 N78
 rw [K79.out] at cc
 refine cc.mono ?_
 rintro e w15 ⟨rfl, hk⟩
 have hB := hB.trans (hk.mono hB.size)
 have H8 := H8.below hk
 have H9 := H9.below hk
 have H10 := H10.below hk
 have H12 := H12.below hk
 have H14 := H14.below hk
 have N55 := N55.below hk
 have N61 := N61.below hk
 have H16 := H16.below hk
 have N76 := N76.below hk
 have N78 := N78.below hk
 clear hk
 clear cc
 clear N55
 clear N61
 clear N76
 clear N78
 go_wp2_with fail
 obtain ⟨S12, hS12⟩ : ∃ b, w15.drew.heap.size = b := ⟨_, rfl⟩
 have lS : S12 ≤ w15.drew.heap.size := by omega
 clear hS12
 have hB := hB.drew
 have H8 := H8.below (Below.drew (Below.refl w15.heap.size w15))
 have H9 := H9.below (Below.drew (Below.refl w15.heap.size w15))
 have H10 := H10.below (Below.drew (Below.refl w15.heap.size w15))
 have H12 := H12.below (Below.drew (Below.refl w15.heap.size w15))
 have H14 := H14.below (Below.drew (Below.refl w15.heap.size w15))
 have H16 := H16.below (Below.drew (Below.refl w15.heap.size w15))
 refine wp_region_held_drew (S := fun w' => Below (S12) w15.drew w') (by kernel_rfl) (Below.refl _ _) (fun hHeld => ?_)
 obtain ⟨E12, hWE⟩ : ∃ W, w15.drew = W := ⟨_, rfl⟩
 rw [hWE] at hB H8 H9 H10 H12 H14 H16 hHeld lS ⊢
 clear hWE
 have hE := Below.refl E12.heap.size E12
 have hS : Below S12 E12 E12 := Below.refl _ _
 refine tk 0 (.int .i64 (m : Int)) 103 rfl rfl ?_
 simp only [Act.put, pA, pB, pC]
 refine tk 1 (.int .i64 (n : Int)) 104 rfl rfl ?_
 simp only [Act.put, pA, pB, pC]
 refine tk 2 (.bool false) 105 rfl rfl ?_
 simp only [Act.put, pA, pB, pC]
 refine tk 3 (.bool false) 106 rfl rfl ?_
 simp only [Act.put, pA, pB, pC]
 refine tk 4 (undef) 107 rfl rfl ?_ (Or.inr ⟨by rfl, rfl⟩)
 simp only [Act.put, pA, pB, pC]
 refine tk 5 (.bool false) 108 rfl rfl ?_
 simp only [Act.put, pA, pB, pC]
 refine tk 6 (.bool false) 109 rfl rfl ?_
 simp only [Act.put, pA, pB, pC]
 refine tk 7 (undef) 110 rfl rfl ?_ (Or.inr ⟨by rfl, rfl⟩)
 simp only [Act.put, pA, pB, pC]
 refine tk 8 (undef) 111 rfl rfl ?_ (Or.inr ⟨by rfl, rfl⟩)
 simp only [Act.put, pA, pB, pC]
 refine tk 9 (undef) 112 rfl rfl ?_ (Or.inr ⟨by rfl, rfl⟩)
 simp only [Act.put, pA, pB, pC]
 refine tk 10 (undef) 113 rfl rfl ?_ (Or.inr ⟨by rfl, rfl⟩)
 simp only [Act.put, pA, pB, pC]
 refine tk 11 (undef) 114 rfl rfl ?_ (Or.inr ⟨by rfl, rfl⟩)
 simp only [Act.put, pA, pB, pC]
 refine tk 12 (undef) 115 rfl rfl ?_ (Or.inr ⟨by rfl, rfl⟩)
 simp only [Act.put, pA, pB, pC]
 refine tk 13 (undef) 116 rfl rfl ?_ (Or.inr ⟨by rfl, rfl⟩)
 simp only [Act.put, pA, pB, pC]
 refine tk 14 (undef) 117 rfl rfl ?_ (Or.inr ⟨by rfl, rfl⟩)
 simp only [Act.put, pA, pB, pC]
 refine tk 15 (.bool false) 118 rfl rfl ?_
 simp only [Act.put, pA, pB, pC]
 refine wpAnyH_done (by kernel_rfl) ?_ _
 have hB := hB.trans (hE.mono hB.size)
 go_wp2_with fail
 obtain ⟨S15, hS15⟩ : ∃ b, E12.drew.heap.size = b := ⟨_, rfl⟩
 have lS : S15 ≤ E12.drew.heap.size := by omega
 have l10E : B10 < S15 := by rw [← hS15]; exact H10.box.lt
 clear hS15
 have hB := hB.drew
 have H8 := H8.below (Below.drew (Below.refl E12.heap.size E12))
 have H9 := H9.below (Below.drew (Below.refl E12.heap.size E12))
 have H10 := H10.below (Below.drew (Below.refl E12.heap.size E12))
 have H12 := H12.below (Below.drew (Below.refl E12.heap.size E12))
 have H14 := H14.below (Below.drew (Below.refl E12.heap.size E12))
 have H16 := H16.below (Below.drew (Below.refl E12.heap.size E12))
 refine wp_region_held_drew (S := fun w' => Below (S15) E12.drew w') (by kernel_rfl) (Below.refl _ _) (fun hHeld => ?_)
 obtain ⟨E15, hWE⟩ : ∃ W, E12.drew = W := ⟨_, rfl⟩
 rw [hWE] at hB H8 H9 H10 H12 H14 H16 hHeld lS ⊢
 clear hWE
 have hE := Below.refl E15.heap.size E15
 have hS : Below S15 E15 E15 := Below.refl _ _
 obtain ⟨⟨x10_0, x10_1, x10_2, x10_3⟩, -, -, -, -⟩ := id H10.box
 refine tk 0 (.bool true) 123 rfl rfl ?_
 simp only [Act.put, pA, pB, pC]
 refine tk 1 (.bool true) 124 rfl rfl ?_
 simp only [Act.put, pA, pB, pC]
 refine tk 2 (.bool true) 125 rfl rfl ?_
 simp only [Act.put, pA, pB, pC]
 refine tk 3 (.bool true) 126 rfl rfl ?_
 simp only [Act.put, pA, pB, pC]
 refine tk 4 (.bool true) 127 rfl rfl ?_
 simp only [Act.put, pA, pB, pC]
 refine tk 5 (.agg #[.bool s35, .slice a35 n35 c35, .bool t35, .slice b35 m35 d35]) 128 rfl rfl ?_ (Or.inl ⟨by rfl, fun w' hSw => by have z0 := (hSw.cell (p := ⟨B10, 0, none⟩) l10E).trans x10_0; have z1 := (hSw.cell (p := ⟨B10, 1, none⟩) l10E).trans x10_1; have z2 := (hSw.cell (p := ⟨B10, 2, none⟩) l10E).trans x10_2; have z3 := (hSw.cell (p := ⟨B10, 3, none⟩) l10E).trans x10_3; go_simp⟩)
 simp only [Act.put, pA, pB, pC]
 refine tk 6 (.int .i64 (m : Int)) 129 rfl rfl ?_
 simp only [Act.put, pA, pB, pC]
 refine tk 7 (.int .i64 (n : Int)) 130 rfl rfl ?_
 simp only [Act.put, pA, pB, pC]
 refine tk 8 (.int .i64 ((m : Int) + (n : Int))) 131 rfl rfl ?_
 simp only [Act.put, pA, pB, pC]
 refine wpAnyH_one 9 (by kernel_rfl) ?_
 have cc := power_z (((m : Int) + (n : Int))) (m + n) (by omega) (by omega) E15
 refine wpOp_call (i := 9) (f := 46) (args := #[.int .i64 ((m : Int) + (n : Int))]) 132 rfl rfl (by rfl) (by go_simp) ?_
 refine (cc).mono ?_
 rintro e r1 ⟨s134, a134, n134, c134, rfl, N132, k132, hk⟩
 clear cc
 have hE := hE.trans (hk.mono hE.size)
 have H8 := H8.below hk
 have H9 := H9.below hk
 have H10 := H10.below hk
 have H12 := H12.below hk
 have H14 := H14.below hk
 have H16 := H16.below hk
 have hS : Below S15 E15 r1 := hE.mono lS
 refine ⟨_, rfl, hS, ?_⟩
 simp only [Act.put, pA, pB, pC]
 refine wpAnyH_one 10 (by kernel_rfl) ?_
 have cc := power_z (0) 0 (by omega) (by omega) r1
 refine wpOp_call (i := 10) (f := 46) (args := #[.int .i64 0]) 133 rfl rfl (by rfl) (by go_simp) ?_
 refine (cc).mono ?_
 rintro e r2 ⟨t134, b134, m134, d134, rfl, N133, k133, hk⟩
 clear cc
 have hE := hE.trans (hk.mono hE.size)
 have H8 := H8.below hk
 have H9 := H9.below hk
 have H10 := H10.below hk
 have H12 := H12.below hk
 have H14 := H14.below hk
 have H16 := H16.below hk
 have N132 := N132.below hk
 have hS : Below S15 E15 r2 := hE.mono lS
 refine ⟨_, rfl, hS, ?_⟩
 simp only [Act.put, pA, pB, pC]
 refine tk 11 (.agg #[.bool s134, .slice a134 n134 c134, .bool t134, .slice b134 m134 d134]) 134 rfl rfl ?_
 simp only [Act.put, pA, pB, pC]
 refine wpAnyH_one 12 (by kernel_rfl) ?_
 have cc := same_r s35 t35 s134 t134 a35 b35 a134 b134 n35 m35 n134 m134 c35 d35 c134 d134 _ _ H10.arg.l1 H10.arg.l2 r2 H10.arg.num H10.arg.den (RArg.of (x := (powR (m + n))) N132 N133 k132 k133).num (RArg.of (x := (powR (m + n))) N132 N133 k132 k133).den
 refine wpOp_call (i := 12) (f := 26) (args := #[.agg #[.bool s35, .slice a35 n35 c35, .bool t35, .slice b35 m35 d35], .agg #[.bool s134, .slice a134 n134 c134, .bool t134, .slice b134 m134 d134]]) 135 rfl rfl (by rfl) (by go_simp) ?_
 refine (cc).mono ?_
 rintro e r3 ⟨rfl, hk⟩
 clear cc
 have hE := hE.trans (hk.mono hE.size)
 have H8 := H8.below hk
 have H9 := H9.below hk
 have H10 := H10.below hk
 have H12 := H12.below hk
 have H14 := H14.below hk
 have H16 := H16.below hk
 have N132 := N132.below hk
 have N133 := N133.below hk
 have hS : Below S15 E15 r3 := hE.mono lS
 refine ⟨_, rfl, hS, ?_⟩
 simp only [Act.put, pA, pB, pC]
 refine tk 13 (.bool true) 136 rfl rfl ?_
 simp only [Act.put, pA, pB, pC]
 refine tk 14 (.bool true) 4 rfl rfl ?_
 simp only [Act.put, pA, pB, pC]
 refine wpAnyH_done (by kernel_rfl) ?_ _
 have hB := hB.trans (hE.mono hB.size)
 clear x10_0 x10_1 x10_2 x10_3
 go_wp2
 go_ret
 exact ⟨rfl, hB⟩
set_option maxRecDepth 100000 in
set_option maxHeartbeats 32000000 in
theorem rlong_Anehi (z0 z1 : Int) (m n : Nat) (_h0 : 0 ≤ z0) (_h1 : z0 ≤ 65535) (_g0 : 0 ≤ z1) (_g1 : z1 ≤ 65535) (e0 : z0 % 2048 = (m : Int)) (e1 : z1 % 2048 = (n : Int)) (f0 : Int.tmod z0 2048 = (m : Int)) (f1 : Int.tmod z1 2048 = (n : Int)) (hm : m < 2048) (hn : n < 2048) (hmn : m + n < 2048) (hne : m ≠ n) (hg0 : ¬ max m n < 2047) (w : World) (ht : Pow10 w) (hsy : Syn w) :
 Calls Tryz.prog 9 #[.int .u16 z0, .int .u16 z1] w fun e w' => e = .returned (.bool true) ∧ Below w.heap.size w w' := by
 have HMul : Hid (mulRO (some (powR m)) (some (powR n)) = some (powR (m + n))) := mul_pow hmn
 have HQ1 := (quot_pow m n).1
 have HQ2 := (quot_pow m n).2
 have HDiv : Hid (divRO (some (powR m)) (some (powR n)) = some (Rat.divInt (powZ m) (powZ n))) := div_pow hm hn
 obtain ⟨Q, hQ⟩ : ∃ Q, Rat.divInt (powZ m) (powZ n) = Q := ⟨_, rfl⟩
 rw [hQ] at HQ1 HQ2 HDiv
 clear hQ
 obtain ⟨k, hk'⟩ : ∃ k, min m n = k := ⟨_, rfl⟩
 rw [hk'] at HQ1 HQ2
 obtain ⟨u, hu⟩ : ∃ u, m - k = u := ⟨_, rfl⟩
 obtain ⟨v, hv⟩ : ∃ v, n - k = v := ⟨_, rfl⟩
 rw [hu] at HQ1
 rw [hv] at HQ2
 obtain ⟨g, hg⟩ : ∃ g, max m n = g := ⟨_, rfl⟩
 have i1 : min (m : Int) (n : Int) = (k : Int) := by omega
 have i2 : max (m : Int) (n : Int) = (g : Int) := by omega
 have i3 : (m : Int) - (k : Int) = (u : Int) := by omega
 have i4 : (n : Int) - (k : Int) = (v : Int) := by omega
 have hu2 : u < 2048 := by omega
 have hv2 : v < 2048 := by omega
 have hQ1 := hide HQ1
 have hQ2 := hide HQ2
 clear HQ1 HQ2
 obtain ⟨O, hO⟩ : ∃ O, cmpZ (m : Int) (n : Int) = O := ⟨_, rfl⟩
 have K74 : Hid (cmpRO (some (powR m)) (some (powR n)) = O) := (cmp_pow m n).trans hO
 have K79 := hide hO
 clear hO
 obtain ⟨sz, hsz⟩ := addR_other hm hn hne
 have HAdd : Hid (addRO (some (powR m)) (some (powR n)) = some sz) := hide hsz
 clear hsz
 have v1 : IntKind.i64.wrap ((m : Int) + 1) = (m : Int) + 1 := by simp only [IntKind.wrap, IntKind.bits, IntKind.signed]; simp; omega
 have v2 : IntKind.i64.wrap ((m : Int) + (n : Int)) = (m : Int) + (n : Int) := by simp only [IntKind.wrap, IntKind.bits, IntKind.signed]; simp; omega
 have t86 : decide ((g : Int) < 2047) = false := decide_eq_false (by omega)
 have t90 : ((m : Int) == (n : Int)) = false := by simp; omega
 have tn1 : ((m : Int) != (n : Int)) = true := by simp; omega
 have tn2 : decide ((m : Int) = (n : Int)) = false := decide_eq_false (by omega)
 have t122 : decide ((m : Int) + (n : Int) < 2048) = true := decide_eq_true (by omega)
 clear hu hv hg hk'  hg0
 go_enter Tryz.func9, Tryz.ntmps9
 have hB := Below.refl w.heap.size w
 go_wp2_with fail
 have cc := sanity3_true w ht hsy
 refine cc.mono ?_
 rintro e w1 ⟨rfl, hk⟩
 have hB := hB.trans (hk.mono hB.size)
 clear hk
 clear cc
 go_wp2_with fail
 have cc := power_z ((m : Int)) m (by omega) (by omega) w1
 refine cc.mono ?_
 rintro e w2 ⟨s27, a27, n27, c27, rfl, N25, k25, hk⟩
 have hB := hB.trans (hk.mono hB.size)
 clear hk
 clear cc
 go_wp2_with fail
 have cc := power_z (0) 0 (by omega) (by omega) w2
 refine cc.mono ?_
 rintro e w3 ⟨t27, b27, m27, d27, rfl, N26, k26, hk⟩
 have hB := hB.trans (hk.mono hB.size)
 have N25 := N25.below hk
 clear hk
 clear cc
 go_wp2_with fail
 have cc := power_z ((n : Int)) n (by omega) (by omega) w3
 refine cc.mono ?_
 rintro e w4 ⟨s31, a31, n31, c31, rfl, N29, k29, hk⟩
 have hB := hB.trans (hk.mono hB.size)
 have N25 := N25.below hk
 have N26 := N26.below hk
 clear hk
 clear cc
 go_wp2_with fail
 have cc := power_z (0) 0 (by omega) (by omega) w4
 refine cc.mono ?_
 rintro e w5 ⟨t31, b31, m31, d31, rfl, N30, k30, hk⟩
 have hB := hB.trans (hk.mono hB.size)
 have N25 := N25.below hk
 have N26 := N26.below hk
 have N29 := N29.below hk
 clear hk
 clear cc
 obtain ⟨Z27, hZ27⟩ : ∃ Z, (w5.alloc (Obj.cells #[.bool false, .slice none 0 0, .bool false, .slice none 0 0] 27)).alloc (Obj.cells #[.bool false, .slice none 0 0, .bool false, .slice none 0 0] 27) = Z := ⟨_, rfl⟩
 obtain ⟨W27, hW27⟩ : ∃ W, (((((((Z27.setCell ⟨w5.heap.size, 0, none⟩ (.bool s27)).setCell ⟨w5.heap.size, 1, none⟩ (.slice a27 n27 c27)).setCell ⟨w5.heap.size, 2, none⟩ (.bool t27)).setCell ⟨w5.heap.size, 3, none⟩ (.slice b27 m27 d27)).setCell ⟨w5.heap.size + 1, 0, none⟩ (.bool s31)).setCell ⟨w5.heap.size + 1, 1, none⟩ (.slice a31 n31 c31)).setCell ⟨w5.heap.size + 1, 2, none⟩ (.bool t31)).setCell ⟨w5.heap.size + 1, 3, none⟩ (.slice b31 m31 d31) = W := ⟨_, rfl⟩
 obtain ⟨H8, H9, hk, bx27, bx31⟩ := rat_new2 (c1 := c27) (c2 := d27) (e1 := c31) (e2 := d31) hZ27 hW27 (RArg.of (x := (powR m)) N25 N26 k25 k26) (RArg.of (x := (powR n)) N29 N30 k29 k30)
 obtain ⟨B8, hB27⟩ : ∃ B, w5.heap.size = B := ⟨_, rfl⟩
 have l8 : w.heap.size ≤ B8 := by rw [← hB27]; exact hB.size
 have l8_9 : B8 < B8 + 1 := by omega
 have l9 : w.heap.size ≤ B8 + 1 := by omega
 have hB := hB.trans (hk.mono hB.size)
 have N25 := N25.below hk
 have N26 := N26.below hk
 have N29 := N29.below hk
 have N30 := N30.below hk
 clear hk
 rw [hB27] at hW27 H8 H9 bx27 bx31
 obtain ⟨⟨y0, y1, y2, y3⟩, yz0, yz1, yz2, yz3⟩ := id bx27
 obtain ⟨⟨y0', y1', y2', y3'⟩, yz0', yz1', yz2', yz3'⟩ := id bx31
 obtain ⟨⟨x20, x21, x22, x23⟩, xz20, xz21, xz22, xz23⟩ := id H8.box
 obtain ⟨⟨x30, x31, x32, x33⟩, xz30, xz31, xz32, xz33⟩ := id H9.box
 go_wp2_with fail
 try rw [hW27]
 try rw [hB27]
 clear hW27 hB27
 clear y0 y1 y2 y3 yz0 yz1 yz2 yz3 y0' y1' y2' y3' yz0' yz1' yz2' yz3' x20 x21 x22 x23 xz20 xz21 xz22 xz23 x30 x31 x32 x33 xz30 xz31 xz32 xz33
 have cc := mul_r s27 t27 s31 t31 a27 b27 a31 b31 n27 m27 n31 m31 c27 d27 c31 d31 (some (powR m)) (some (powR n)) W27 H8.arg H9.arg
 rw [HMul.out] at cc
 refine cc.mono ?_
 rintro e w6 ⟨s35, a35, n35, c35, t35, b35, m35, d35, rfl, P1, P2, k1, k2, hk⟩
 have hB := hB.trans (hk.mono hB.size)
 have N25 := N25.below hk
 have N26 := N26.below hk
 have N29 := N29.below hk
 have N30 := N30.below hk
 have H8 := H8.below hk
 have H9 := H9.below hk
 clear hk
 clear cc
 have R35 := rarg_of (some (powR (m + n))) P1 P2 k1 k2
 clear P1 P2 k1 k2
 obtain ⟨Z35, hZ35⟩ : ∃ Z, w6.alloc (Obj.cells #[.bool false, .slice none 0 0, .bool false, .slice none 0 0] 27) = Z := ⟨_, rfl⟩
 obtain ⟨W35, hW35⟩ : ∃ W, (((Z35.setCell ⟨w6.heap.size, 0, none⟩ (.bool s35)).setCell ⟨w6.heap.size, 1, none⟩ (.slice a35 n35 c35)).setCell ⟨w6.heap.size, 2, none⟩ (.bool t35)).setCell ⟨w6.heap.size, 3, none⟩ (.slice b35 m35 d35) = W := ⟨_, rfl⟩
 obtain ⟨H10, hk, bx35⟩ := rat_new (c1 := c35) (c2 := d35) hZ35 hW35 R35
 obtain ⟨B10, hB35⟩ : ∃ B, w6.heap.size = B := ⟨_, rfl⟩
 have l10 : w.heap.size ≤ B10 := by rw [← hB35]; exact hB.size
 have l8_10 : B8 < B10 := by rw [← hB35]; exact H8.box.lt
 have l9_10 : B8 + 1 < B10 := by rw [← hB35]; exact H9.box.lt
 have hB := hB.trans (hk.mono hB.size)
 have N25 := N25.below hk
 have N26 := N26.below hk
 have N29 := N29.below hk
 have N30 := N30.below hk
 have H8 := H8.below hk
 have H9 := H9.below hk
 have R35 := R35.below hk
 clear hk
 rw [hB35] at hW35 H10 bx35
 clear R35
 clear N25
 clear N26
 clear N29
 clear N30
 obtain ⟨⟨y0, y1, y2, y3⟩, yz0, yz1, yz2, yz3⟩ := id bx35
 obtain ⟨⟨x10, x11, x12, x13⟩, xz10, xz11, xz12, xz13⟩ := id H8.box
 obtain ⟨⟨x20, x21, x22, x23⟩, xz20, xz21, xz22, xz23⟩ := id H9.box
 go_wp2_with fail
 try rw [hW35]
 try rw [hB35]
 clear hW35 hB35
 clear y0 y1 y2 y3 yz0 yz1 yz2 yz3 x10 x11 x12 x13 xz10 xz11 xz12 xz13 x20 x21 x22 x23 xz20 xz21 xz22 xz23
 have cc := div_r s27 t27 s31 t31 a27 b27 a31 b31 n27 m27 n31 m31 c27 d27 c31 d31 (some (powR m)) (some (powR n)) W35 H8.arg H9.arg
 rw [HDiv.out] at cc
 refine cc.mono ?_
 rintro e w7 ⟨s41, a41, n41, c41, t41, b41, m41, d41, rfl, P1, P2, k1, k2, hk⟩
 have hB := hB.trans (hk.mono hB.size)
 have H8 := H8.below hk
 have H9 := H9.below hk
 have H10 := H10.below hk
 clear hk
 clear cc
 have R41 := rarg_of (some Q) P1 P2 k1 k2
 clear P1 P2 k1 k2
 obtain ⟨Z41, hZ41⟩ : ∃ Z, w7.alloc (Obj.cells #[.bool false, .slice none 0 0, .bool false, .slice none 0 0] 27) = Z := ⟨_, rfl⟩
 obtain ⟨W41, hW41⟩ : ∃ W, (((Z41.setCell ⟨w7.heap.size, 0, none⟩ (.bool s41)).setCell ⟨w7.heap.size, 1, none⟩ (.slice a41 n41 c41)).setCell ⟨w7.heap.size, 2, none⟩ (.bool t41)).setCell ⟨w7.heap.size, 3, none⟩ (.slice b41 m41 d41) = W := ⟨_, rfl⟩
 obtain ⟨H12, hk, bx41⟩ := rat_new (c1 := c41) (c2 := d41) hZ41 hW41 R41
 obtain ⟨B12, hB41⟩ : ∃ B, w7.heap.size = B := ⟨_, rfl⟩
 have l12 : w.heap.size ≤ B12 := by rw [← hB41]; exact hB.size
 have l8_12 : B8 < B12 := by rw [← hB41]; exact H8.box.lt
 have l9_12 : B8 + 1 < B12 := by rw [← hB41]; exact H9.box.lt
 have l10_12 : B10 < B12 := by rw [← hB41]; exact H10.box.lt
 have hB := hB.trans (hk.mono hB.size)
 have H8 := H8.below hk
 have H9 := H9.below hk
 have H10 := H10.below hk
 have R41 := R41.below hk
 clear hk
 rw [hB41] at hW41 H12 bx41
 clear R41
 obtain ⟨⟨y0, y1, y2, y3⟩, yz0, yz1, yz2, yz3⟩ := id bx41
 obtain ⟨⟨x10, x11, x12, x13⟩, xz10, xz11, xz12, xz13⟩ := id H8.box
 obtain ⟨⟨x20, x21, x22, x23⟩, xz20, xz21, xz22, xz23⟩ := id H9.box
 go_wp2_with fail
 try rw [hW41]
 try rw [hB41]
 clear hW41 hB41
 clear y0 y1 y2 y3 yz0 yz1 yz2 yz3 x10 x11 x12 x13 xz10 xz11 xz12 xz13 x20 x21 x22 x23 xz20 xz21 xz22 xz23
 have cc := add_r s27 t27 s31 t31 a27 b27 a31 b31 n27 m27 n31 m31 c27 d27 c31 d31 (some (powR m)) (some (powR n)) W41 H8.arg H9.arg
 rw [HAdd.out] at cc
 refine cc.mono ?_
 rintro e w8 ⟨s47, a47, n47, c47, t47, b47, m47, d47, rfl, P1, P2, k1, k2, hk⟩
 have hB := hB.trans (hk.mono hB.size)
 have H8 := H8.below hk
 have H9 := H9.below hk
 have H10 := H10.below hk
 have H12 := H12.below hk
 clear hk
 clear cc
 have R47 := rarg_of (some sz) P1 P2 k1 k2
 clear P1 P2 k1 k2
 obtain ⟨Z47, hZ47⟩ : ∃ Z, w8.alloc (Obj.cells #[.bool false, .slice none 0 0, .bool false, .slice none 0 0] 27) = Z := ⟨_, rfl⟩
 obtain ⟨W47, hW47⟩ : ∃ W, (((Z47.setCell ⟨w8.heap.size, 0, none⟩ (.bool s47)).setCell ⟨w8.heap.size, 1, none⟩ (.slice a47 n47 c47)).setCell ⟨w8.heap.size, 2, none⟩ (.bool t47)).setCell ⟨w8.heap.size, 3, none⟩ (.slice b47 m47 d47) = W := ⟨_, rfl⟩
 obtain ⟨H14, hk, bx47⟩ := rat_new (c1 := c47) (c2 := d47) hZ47 hW47 R47
 obtain ⟨B14, hB47⟩ : ∃ B, w8.heap.size = B := ⟨_, rfl⟩
 have l14 : w.heap.size ≤ B14 := by rw [← hB47]; exact hB.size
 have l8_14 : B8 < B14 := by rw [← hB47]; exact H8.box.lt
 have l9_14 : B8 + 1 < B14 := by rw [← hB47]; exact H9.box.lt
 have l10_14 : B10 < B14 := by rw [← hB47]; exact H10.box.lt
 have l12_14 : B12 < B14 := by rw [← hB47]; exact H12.box.lt
 have hB := hB.trans (hk.mono hB.size)
 have H8 := H8.below hk
 have H9 := H9.below hk
 have H10 := H10.below hk
 have H12 := H12.below hk
 have R47 := R47.below hk
 clear hk
 rw [hB47] at hW47 H14 bx47
 clear R47
 obtain ⟨⟨y0, y1, y2, y3⟩, yz0, yz1, yz2, yz3⟩ := id bx47
 go_wp2_with fail
 try rw [hW47]
 try rw [hB47]
 clear hW47 hB47
 clear y0 y1 y2 y3 yz0 yz1 yz2 yz3
 have cc := power_z ((u : Int)) u (by omega) (by omega) W47
 refine cc.mono ?_
 rintro e w9 ⟨s62, a62, n62, c62, rfl, N55, k55, hk⟩
 have hB := hB.trans (hk.mono hB.size)
 have H8 := H8.below hk
 have H9 := H9.below hk
 have H10 := H10.below hk
 have H12 := H12.below hk
 have H14 := H14.below hk
 clear hk
 clear cc
 go_wp2_with fail
 have cc := power_z ((v : Int)) v (by omega) (by omega) w9
 refine cc.mono ?_
 rintro e w10 ⟨t62, b62, m62, d62, rfl, N61, k61, hk⟩
 have hB := hB.trans (hk.mono hB.size)
 have H8 := H8.below hk
 have H9 := H9.below hk
 have H10 := H10.below hk
 have H12 := H12.below hk
 have H14 := H14.below hk
 have N55 := N55.below hk
 clear hk
 clear cc
 obtain ⟨Z62, hZ62⟩ : ∃ Z, w10.alloc (Obj.cells #[.bool false, .slice none 0 0, .bool false, .slice none 0 0] 27) = Z := ⟨_, rfl⟩
 obtain ⟨W62, hW62⟩ : ∃ W, (((Z62.setCell ⟨w10.heap.size, 0, none⟩ (.bool s62)).setCell ⟨w10.heap.size, 1, none⟩ (.slice a62 n62 c62)).setCell ⟨w10.heap.size, 2, none⟩ (.bool t62)).setCell ⟨w10.heap.size, 3, none⟩ (.slice b62 m62 d62) = W := ⟨_, rfl⟩
 obtain ⟨H16, hk, bx62⟩ := rat_new (c1 := c62) (c2 := d62) hZ62 hW62 (RArg.of (x := Q) (by rw [hQ1.out]; exact N55) (by rw [hQ2.out]; exact N61) k55 k61)
 obtain ⟨B16, hB62⟩ : ∃ B, w10.heap.size = B := ⟨_, rfl⟩
 have l16 : w.heap.size ≤ B16 := by rw [← hB62]; exact hB.size
 have l8_16 : B8 < B16 := by rw [← hB62]; exact H8.box.lt
 have l9_16 : B8 + 1 < B16 := by rw [← hB62]; exact H9.box.lt
 have l10_16 : B10 < B16 := by rw [← hB62]; exact H10.box.lt
 have l12_16 : B12 < B16 := by rw [← hB62]; exact H12.box.lt
 have l14_16 : B14 < B16 := by rw [← hB62]; exact H14.box.lt
 have hB := hB.trans (hk.mono hB.size)
 have H8 := H8.below hk
 have H9 := H9.below hk
 have H10 := H10.below hk
 have H12 := H12.below hk
 have H14 := H14.below hk
 have N55 := N55.below hk
 have N61 := N61.below hk
 clear hk
 rw [hB62] at hW62 H16 bx62
 obtain ⟨⟨y0, y1, y2, y3⟩, yz0, yz1, yz2, yz3⟩ := id bx62
 obtain ⟨⟨x10, x11, x12, x13⟩, xz10, xz11, xz12, xz13⟩ := id H12.box
 obtain ⟨⟨x20, x21, x22, x23⟩, xz20, xz21, xz22, xz23⟩ := id H16.box
 go_wp2_with fail
 try rw [hW62]
 try rw [hB62]
 clear hW62 hB62
 clear y0 y1 y2 y3 yz0 yz1 yz2 yz3 x10 x11 x12 x13 xz10 xz11 xz12 xz13 x20 x21 x22 x23 xz20 xz21 xz22 xz23
 have cc := same_r s41 t41 s62 t62 a41 b41 a62 b62 n41 m41 n62 m62 c41 d41 c62 d62 _ _ H12.arg.l1 H12.arg.l2 W62 H12.arg.num H12.arg.den H16.arg.num H16.arg.den
 refine cc.mono ?_
 rintro e w11 ⟨rfl, hk⟩
 have hB := hB.trans (hk.mono hB.size)
 have H8 := H8.below hk
 have H9 := H9.below hk
 have H10 := H10.below hk
 have H12 := H12.below hk
 have H14 := H14.below hk
 have N55 := N55.below hk
 have N61 := N61.below hk
 have H16 := H16.below hk
 clear hk
 clear cc
 obtain ⟨⟨x00, x01, x02, x03⟩, xz00, xz01, xz02, xz03⟩ := id H8.box
 obtain ⟨⟨x10, x11, x12, x13⟩, xz10, xz11, xz12, xz13⟩ := id H9.box
 go_wp2_with fail
 clear x00 x01 x02 x03 xz00 xz01 xz02 xz03 x10 x11 x12 x13 xz10 xz11 xz12 xz13
 have cc := cmp_r s27 t27 s31 t31 a27 b27 a31 b31 n27 m27 n31 m31 c27 d27 c31 d31 (some (powR m)) (some (powR n)) w11 H8.arg H9.arg
 rw [K74.out] at cc
 refine cc.mono ?_
 rintro e w12 ⟨rfl, hk⟩
 have hB := hB.trans (hk.mono hB.size)
 have H8 := H8.below hk
 have H9 := H9.below hk
 have H10 := H10.below hk
 have H12 := H12.below hk
 have H14 := H14.below hk
 have N55 := N55.below hk
 have N61 := N61.below hk
 have H16 := H16.below hk
 clear hk
 clear cc
 go_wp2_with fail
 have cc := of_any (m : Int) (by omega) (by omega) w12
 refine cc.mono ?_
 rintro e w13 ⟨s76, a76, n76, c76, rfl, N76, hk⟩
 have k76 := of_len N76 (by omega) (by omega)
 have hB := hB.trans (hk.mono hB.size)
 have H8 := H8.below hk
 have H9 := H9.below hk
 have H10 := H10.below hk
 have H12 := H12.below hk
 have H14 := H14.below hk
 have N55 := N55.below hk
 have N61 := N61.below hk
 have H16 := H16.below hk
 clear hk
 clear cc
 go_wp2_with fail
 have cc := of_any (n : Int) (by omega) (by omega) w13
 refine cc.mono ?_
 rintro e w14 ⟨s78, a78, n78, c78, rfl, N78, hk⟩
 have k78 := of_len N78 (by omega) (by omega)
 have hB := hB.trans (hk.mono hB.size)
 have H8 := H8.below hk
 have H9 := H9.below hk
 have H10 := H10.below hk
 have H12 := H12.below hk
 have H14 := H14.below hk
 have N55 := N55.below hk
 have N61 := N61.below hk
 have H16 := H16.below hk
 have N76 := N76.below hk
 clear hk
 clear cc
 go_wp2_with fail
 have cc := cmp_any s76 s78 a76 a78 n76 n78 c76 c78 (m : Int) (n : Int) k76 k78 w14 N76 N78
 rw [K79.out] at cc
 refine cc.mono ?_
 rintro e w15 ⟨rfl, hk⟩
 have hB := hB.trans (hk.mono hB.size)
 have H8 := H8.below hk
 have H9 := H9.below hk
 have H10 := H10.below hk
 have H12 := H12.below hk
 have H14 := H14.below hk
 have N55 := N55.below hk
 have N61 := N61.below hk
 have H16 := H16.below hk
 have N76 := N76.below hk
 have N78 := N78.below hk
 clear hk
 clear cc
 clear N55
 clear N61
 clear N76
 clear N78
 go_wp2_with fail
 obtain ⟨S12, hS12⟩ : ∃ b, w15.drew.heap.size = b := ⟨_, rfl⟩
 have lS : S12 ≤ w15.drew.heap.size := by omega
 clear hS12
 have hB := hB.drew
 have H8 := H8.below (Below.drew (Below.refl w15.heap.size w15))
 have H9 := H9.below (Below.drew (Below.refl w15.heap.size w15))
 have H10 := H10.below (Below.drew (Below.refl w15.heap.size w15))
 have H12 := H12.below (Below.drew (Below.refl w15.heap.size w15))
 have H14 := H14.below (Below.drew (Below.refl w15.heap.size w15))
 have H16 := H16.below (Below.drew (Below.refl w15.heap.size w15))
 refine wp_region_held_drew (S := fun w' => Below (S12) w15.drew w') (by kernel_rfl) (Below.refl _ _) (fun hHeld => ?_)
 obtain ⟨E12, hWE⟩ : ∃ W, w15.drew = W := ⟨_, rfl⟩
 rw [hWE] at hB H8 H9 H10 H12 H14 H16 hHeld lS ⊢
 clear hWE
 have hE := Below.refl E12.heap.size E12
 have hS : Below S12 E12 E12 := Below.refl _ _
 refine tk 0 (.int .i64 (m : Int)) 103 rfl rfl ?_
 simp only [Act.put, pA, pB, pC]
 refine tk 1 (.int .i64 (n : Int)) 104 rfl rfl ?_
 simp only [Act.put, pA, pB, pC]
 refine tk 2 (.bool false) 105 rfl rfl ?_
 simp only [Act.put, pA, pB, pC]
 refine tk 3 (.bool false) 106 rfl rfl ?_
 simp only [Act.put, pA, pB, pC]
 refine tk 4 (undef) 107 rfl rfl ?_ (Or.inr ⟨by rfl, rfl⟩)
 simp only [Act.put, pA, pB, pC]
 refine tk 5 (.bool false) 108 rfl rfl ?_
 simp only [Act.put, pA, pB, pC]
 refine tk 6 (.bool false) 109 rfl rfl ?_
 simp only [Act.put, pA, pB, pC]
 refine tk 7 (undef) 110 rfl rfl ?_ (Or.inr ⟨by rfl, rfl⟩)
 simp only [Act.put, pA, pB, pC]
 refine tk 8 (undef) 111 rfl rfl ?_ (Or.inr ⟨by rfl, rfl⟩)
 simp only [Act.put, pA, pB, pC]
 refine tk 9 (undef) 112 rfl rfl ?_ (Or.inr ⟨by rfl, rfl⟩)
 simp only [Act.put, pA, pB, pC]
 refine tk 10 (undef) 113 rfl rfl ?_ (Or.inr ⟨by rfl, rfl⟩)
 simp only [Act.put, pA, pB, pC]
 refine tk 11 (undef) 114 rfl rfl ?_ (Or.inr ⟨by rfl, rfl⟩)
 simp only [Act.put, pA, pB, pC]
 refine tk 12 (undef) 115 rfl rfl ?_ (Or.inr ⟨by rfl, rfl⟩)
 simp only [Act.put, pA, pB, pC]
 refine tk 13 (undef) 116 rfl rfl ?_ (Or.inr ⟨by rfl, rfl⟩)
 simp only [Act.put, pA, pB, pC]
 refine tk 14 (undef) 117 rfl rfl ?_ (Or.inr ⟨by rfl, rfl⟩)
 simp only [Act.put, pA, pB, pC]
 refine tk 15 (.bool false) 118 rfl rfl ?_
 simp only [Act.put, pA, pB, pC]
 refine wpAnyH_done (by kernel_rfl) ?_ _
 have hB := hB.trans (hE.mono hB.size)
 go_wp2_with fail
 obtain ⟨S15, hS15⟩ : ∃ b, E12.drew.heap.size = b := ⟨_, rfl⟩
 have lS : S15 ≤ E12.drew.heap.size := by omega
 have l10E : B10 < S15 := by rw [← hS15]; exact H10.box.lt
 clear hS15
 have hB := hB.drew
 have H8 := H8.below (Below.drew (Below.refl E12.heap.size E12))
 have H9 := H9.below (Below.drew (Below.refl E12.heap.size E12))
 have H10 := H10.below (Below.drew (Below.refl E12.heap.size E12))
 have H12 := H12.below (Below.drew (Below.refl E12.heap.size E12))
 have H14 := H14.below (Below.drew (Below.refl E12.heap.size E12))
 have H16 := H16.below (Below.drew (Below.refl E12.heap.size E12))
 refine wp_region_held_drew (S := fun w' => Below (S15) E12.drew w') (by kernel_rfl) (Below.refl _ _) (fun hHeld => ?_)
 obtain ⟨E15, hWE⟩ : ∃ W, E12.drew = W := ⟨_, rfl⟩
 rw [hWE] at hB H8 H9 H10 H12 H14 H16 hHeld lS ⊢
 clear hWE
 have hE := Below.refl E15.heap.size E15
 have hS : Below S15 E15 E15 := Below.refl _ _
 obtain ⟨⟨x10_0, x10_1, x10_2, x10_3⟩, -, -, -, -⟩ := id H10.box
 refine tk 0 (.bool true) 123 rfl rfl ?_
 simp only [Act.put, pA, pB, pC]
 refine tk 1 (.bool true) 124 rfl rfl ?_
 simp only [Act.put, pA, pB, pC]
 refine tk 2 (.bool true) 125 rfl rfl ?_
 simp only [Act.put, pA, pB, pC]
 refine tk 3 (.bool true) 126 rfl rfl ?_
 simp only [Act.put, pA, pB, pC]
 refine tk 4 (.bool true) 127 rfl rfl ?_
 simp only [Act.put, pA, pB, pC]
 refine tk 5 (.agg #[.bool s35, .slice a35 n35 c35, .bool t35, .slice b35 m35 d35]) 128 rfl rfl ?_ (Or.inl ⟨by rfl, fun w' hSw => by have z0 := (hSw.cell (p := ⟨B10, 0, none⟩) l10E).trans x10_0; have z1 := (hSw.cell (p := ⟨B10, 1, none⟩) l10E).trans x10_1; have z2 := (hSw.cell (p := ⟨B10, 2, none⟩) l10E).trans x10_2; have z3 := (hSw.cell (p := ⟨B10, 3, none⟩) l10E).trans x10_3; go_simp⟩)
 simp only [Act.put, pA, pB, pC]
 refine tk 6 (.int .i64 (m : Int)) 129 rfl rfl ?_
 simp only [Act.put, pA, pB, pC]
 refine tk 7 (.int .i64 (n : Int)) 130 rfl rfl ?_
 simp only [Act.put, pA, pB, pC]
 refine tk 8 (.int .i64 ((m : Int) + (n : Int))) 131 rfl rfl ?_
 simp only [Act.put, pA, pB, pC]
 refine wpAnyH_one 9 (by kernel_rfl) ?_
 have cc := power_z (((m : Int) + (n : Int))) (m + n) (by omega) (by omega) E15
 refine wpOp_call (i := 9) (f := 46) (args := #[.int .i64 ((m : Int) + (n : Int))]) 132 rfl rfl (by rfl) (by go_simp) ?_
 refine (cc).mono ?_
 rintro e r1 ⟨s134, a134, n134, c134, rfl, N132, k132, hk⟩
 clear cc
 have hE := hE.trans (hk.mono hE.size)
 have H8 := H8.below hk
 have H9 := H9.below hk
 have H10 := H10.below hk
 have H12 := H12.below hk
 have H14 := H14.below hk
 have H16 := H16.below hk
 have hS : Below S15 E15 r1 := hE.mono lS
 refine ⟨_, rfl, hS, ?_⟩
 simp only [Act.put, pA, pB, pC]
 refine wpAnyH_one 10 (by kernel_rfl) ?_
 have cc := power_z (0) 0 (by omega) (by omega) r1
 refine wpOp_call (i := 10) (f := 46) (args := #[.int .i64 0]) 133 rfl rfl (by rfl) (by go_simp) ?_
 refine (cc).mono ?_
 rintro e r2 ⟨t134, b134, m134, d134, rfl, N133, k133, hk⟩
 clear cc
 have hE := hE.trans (hk.mono hE.size)
 have H8 := H8.below hk
 have H9 := H9.below hk
 have H10 := H10.below hk
 have H12 := H12.below hk
 have H14 := H14.below hk
 have H16 := H16.below hk
 have N132 := N132.below hk
 have hS : Below S15 E15 r2 := hE.mono lS
 refine ⟨_, rfl, hS, ?_⟩
 simp only [Act.put, pA, pB, pC]
 refine tk 11 (.agg #[.bool s134, .slice a134 n134 c134, .bool t134, .slice b134 m134 d134]) 134 rfl rfl ?_
 simp only [Act.put, pA, pB, pC]
 refine wpAnyH_one 12 (by kernel_rfl) ?_
 have cc := same_r s35 t35 s134 t134 a35 b35 a134 b134 n35 m35 n134 m134 c35 d35 c134 d134 _ _ H10.arg.l1 H10.arg.l2 r2 H10.arg.num H10.arg.den (RArg.of (x := (powR (m + n))) N132 N133 k132 k133).num (RArg.of (x := (powR (m + n))) N132 N133 k132 k133).den
 refine wpOp_call (i := 12) (f := 26) (args := #[.agg #[.bool s35, .slice a35 n35 c35, .bool t35, .slice b35 m35 d35], .agg #[.bool s134, .slice a134 n134 c134, .bool t134, .slice b134 m134 d134]]) 135 rfl rfl (by rfl) (by go_simp) ?_
 refine (cc).mono ?_
 rintro e r3 ⟨rfl, hk⟩
 clear cc
 have hE := hE.trans (hk.mono hE.size)
 have H8 := H8.below hk
 have H9 := H9.below hk
 have H10 := H10.below hk
 have H12 := H12.below hk
 have H14 := H14.below hk
 have H16 := H16.below hk
 have N132 := N132.below hk
 have N133 := N133.below hk
 have hS : Below S15 E15 r3 := hE.mono lS
 refine ⟨_, rfl, hS, ?_⟩
 simp only [Act.put, pA, pB, pC]
 refine tk 13 (.bool true) 136 rfl rfl ?_
 simp only [Act.put, pA, pB, pC]
 refine tk 14 (.bool true) 4 rfl rfl ?_
 simp only [Act.put, pA, pB, pC]
 refine wpAnyH_done (by kernel_rfl) ?_ _
 have hB := hB.trans (hE.mono hB.size)
 clear x10_0 x10_1 x10_2 x10_3
 go_wp2
 go_ret
 exact ⟨rfl, hB⟩
set_option maxRecDepth 100000 in
set_option maxHeartbeats 32000000 in
theorem rlong_Beq (z0 z1 : Int) (m n : Nat) (_h0 : 0 ≤ z0) (_h1 : z0 ≤ 65535) (_g0 : 0 ≤ z1) (_g1 : z1 ≤ 65535) (e0 : z0 % 2048 = (m : Int)) (e1 : z1 % 2048 = (n : Int)) (f0 : Int.tmod z0 2048 = (m : Int)) (f1 : Int.tmod z1 2048 = (n : Int)) (hm : m < 2048) (hn : n < 2048) (hmn : ¬ m + n < 2048) (he : m = n) (hg0 : max m n < 2047) (w : World) (ht : Pow10 w) (hsy : Syn w) :
 Calls Tryz.prog 9 #[.int .u16 z0, .int .u16 z1] w fun e w' => e = .returned (.bool true) ∧ Below w.heap.size w w' := by
 have HMul : Hid (mulRO (some (powR m)) (some (powR n)) = none) := mul_pow_none hmn
 have HQ1 := (quot_pow m n).1
 have HQ2 := (quot_pow m n).2
 have HDiv : Hid (divRO (some (powR m)) (some (powR n)) = some (Rat.divInt (powZ m) (powZ n))) := div_pow hm hn
 obtain ⟨Q, hQ⟩ : ∃ Q, Rat.divInt (powZ m) (powZ n) = Q := ⟨_, rfl⟩
 rw [hQ] at HQ1 HQ2 HDiv
 clear hQ
 obtain ⟨k, hk'⟩ : ∃ k, min m n = k := ⟨_, rfl⟩
 rw [hk'] at HQ1 HQ2
 obtain ⟨u, hu⟩ : ∃ u, m - k = u := ⟨_, rfl⟩
 obtain ⟨v, hv⟩ : ∃ v, n - k = v := ⟨_, rfl⟩
 rw [hu] at HQ1
 rw [hv] at HQ2
 obtain ⟨g, hg⟩ : ∃ g, max m n = g := ⟨_, rfl⟩
 have i1 : min (m : Int) (n : Int) = (k : Int) := by omega
 have i2 : max (m : Int) (n : Int) = (g : Int) := by omega
 have i3 : (m : Int) - (k : Int) = (u : Int) := by omega
 have i4 : (n : Int) - (k : Int) = (v : Int) := by omega
 have hu2 : u < 2048 := by omega
 have hv2 : v < 2048 := by omega
 have hQ1 := hide HQ1
 have hQ2 := hide HQ2
 clear HQ1 HQ2
 obtain ⟨O, hO⟩ : ∃ O, cmpZ (m : Int) (n : Int) = O := ⟨_, rfl⟩
 have K74 : Hid (cmpRO (some (powR m)) (some (powR n)) = O) := (cmp_pow m n).trans hO
 have K79 := hide hO
 clear hO
 have HAdd : Hid (addRO (some (powR m)) (some (powR n)) = some (powR (m + 1))) := by
  obtain rfl : n = m := by omega
  exact addR_same (by omega)
 have v1 : IntKind.i64.wrap ((m : Int) + 1) = (m : Int) + 1 := by simp only [IntKind.wrap, IntKind.bits, IntKind.signed]; simp; omega
 have v2 : IntKind.i64.wrap ((m : Int) + (n : Int)) = (m : Int) + (n : Int) := by simp only [IntKind.wrap, IntKind.bits, IntKind.signed]; simp; omega
 have t86 : decide ((g : Int) < 2047) = true := decide_eq_true (by omega)
 have t90 : ((m : Int) == (n : Int)) = true := by simp; omega
 have tn1 : ((m : Int) != (n : Int)) = false := by simp; omega
 have tn2 : decide ((m : Int) = (n : Int)) = true := decide_eq_true (by omega)
 have t122 : decide ((m : Int) + (n : Int) < 2048) = false := decide_eq_false (by omega)
 have hm1 : m + 1 < 2048 := by omega
 clear hu hv hg hk' he hg0
 go_enter Tryz.func9, Tryz.ntmps9
 have hB := Below.refl w.heap.size w
 go_wp2_with fail
 have cc := sanity3_true w ht hsy
 refine cc.mono ?_
 rintro e w1 ⟨rfl, hk⟩
 have hB := hB.trans (hk.mono hB.size)
 clear hk
 clear cc
 go_wp2_with fail
 have cc := power_z ((m : Int)) m (by omega) (by omega) w1
 refine cc.mono ?_
 rintro e w2 ⟨s27, a27, n27, c27, rfl, N25, k25, hk⟩
 have hB := hB.trans (hk.mono hB.size)
 clear hk
 clear cc
 go_wp2_with fail
 have cc := power_z (0) 0 (by omega) (by omega) w2
 refine cc.mono ?_
 rintro e w3 ⟨t27, b27, m27, d27, rfl, N26, k26, hk⟩
 have hB := hB.trans (hk.mono hB.size)
 have N25 := N25.below hk
 clear hk
 clear cc
 go_wp2_with fail
 have cc := power_z ((n : Int)) n (by omega) (by omega) w3
 refine cc.mono ?_
 rintro e w4 ⟨s31, a31, n31, c31, rfl, N29, k29, hk⟩
 have hB := hB.trans (hk.mono hB.size)
 have N25 := N25.below hk
 have N26 := N26.below hk
 clear hk
 clear cc
 go_wp2_with fail
 have cc := power_z (0) 0 (by omega) (by omega) w4
 refine cc.mono ?_
 rintro e w5 ⟨t31, b31, m31, d31, rfl, N30, k30, hk⟩
 have hB := hB.trans (hk.mono hB.size)
 have N25 := N25.below hk
 have N26 := N26.below hk
 have N29 := N29.below hk
 clear hk
 clear cc
 obtain ⟨Z27, hZ27⟩ : ∃ Z, (w5.alloc (Obj.cells #[.bool false, .slice none 0 0, .bool false, .slice none 0 0] 27)).alloc (Obj.cells #[.bool false, .slice none 0 0, .bool false, .slice none 0 0] 27) = Z := ⟨_, rfl⟩
 obtain ⟨W27, hW27⟩ : ∃ W, (((((((Z27.setCell ⟨w5.heap.size, 0, none⟩ (.bool s27)).setCell ⟨w5.heap.size, 1, none⟩ (.slice a27 n27 c27)).setCell ⟨w5.heap.size, 2, none⟩ (.bool t27)).setCell ⟨w5.heap.size, 3, none⟩ (.slice b27 m27 d27)).setCell ⟨w5.heap.size + 1, 0, none⟩ (.bool s31)).setCell ⟨w5.heap.size + 1, 1, none⟩ (.slice a31 n31 c31)).setCell ⟨w5.heap.size + 1, 2, none⟩ (.bool t31)).setCell ⟨w5.heap.size + 1, 3, none⟩ (.slice b31 m31 d31) = W := ⟨_, rfl⟩
 obtain ⟨H8, H9, hk, bx27, bx31⟩ := rat_new2 (c1 := c27) (c2 := d27) (e1 := c31) (e2 := d31) hZ27 hW27 (RArg.of (x := (powR m)) N25 N26 k25 k26) (RArg.of (x := (powR n)) N29 N30 k29 k30)
 obtain ⟨B8, hB27⟩ : ∃ B, w5.heap.size = B := ⟨_, rfl⟩
 have l8 : w.heap.size ≤ B8 := by rw [← hB27]; exact hB.size
 have l8_9 : B8 < B8 + 1 := by omega
 have l9 : w.heap.size ≤ B8 + 1 := by omega
 have hB := hB.trans (hk.mono hB.size)
 have N25 := N25.below hk
 have N26 := N26.below hk
 have N29 := N29.below hk
 have N30 := N30.below hk
 clear hk
 rw [hB27] at hW27 H8 H9 bx27 bx31
 obtain ⟨⟨y0, y1, y2, y3⟩, yz0, yz1, yz2, yz3⟩ := id bx27
 obtain ⟨⟨y0', y1', y2', y3'⟩, yz0', yz1', yz2', yz3'⟩ := id bx31
 obtain ⟨⟨x20, x21, x22, x23⟩, xz20, xz21, xz22, xz23⟩ := id H8.box
 obtain ⟨⟨x30, x31, x32, x33⟩, xz30, xz31, xz32, xz33⟩ := id H9.box
 go_wp2_with fail
 try rw [hW27]
 try rw [hB27]
 clear hW27 hB27
 clear y0 y1 y2 y3 yz0 yz1 yz2 yz3 y0' y1' y2' y3' yz0' yz1' yz2' yz3' x20 x21 x22 x23 xz20 xz21 xz22 xz23 x30 x31 x32 x33 xz30 xz31 xz32 xz33
 have cc := mul_r s27 t27 s31 t31 a27 b27 a31 b31 n27 m27 n31 m31 c27 d27 c31 d31 (some (powR m)) (some (powR n)) W27 H8.arg H9.arg
 rw [HMul.out] at cc
 refine cc.mono ?_
 rintro e w6 ⟨s35, a35, n35, c35, t35, b35, m35, d35, rfl, P1, P2, k1, k2, hk⟩
 have hB := hB.trans (hk.mono hB.size)
 have N25 := N25.below hk
 have N26 := N26.below hk
 have N29 := N29.below hk
 have N30 := N30.below hk
 have H8 := H8.below hk
 have H9 := H9.below hk
 clear hk
 clear cc
 have R35 := rarg_of (none) P1 P2 k1 k2
 have P35 := P1
 have Q35 := P2
 have kk35 := k1
 have ll35 := k2
 clear P1 P2 k1 k2
 obtain ⟨Z35, hZ35⟩ : ∃ Z, w6.alloc (Obj.cells #[.bool false, .slice none 0 0, .bool false, .slice none 0 0] 27) = Z := ⟨_, rfl⟩
 obtain ⟨W35, hW35⟩ : ∃ W, (((Z35.setCell ⟨w6.heap.size, 0, none⟩ (.bool s35)).setCell ⟨w6.heap.size, 1, none⟩ (.slice a35 n35 c35)).setCell ⟨w6.heap.size, 2, none⟩ (.bool t35)).setCell ⟨w6.heap.size, 3, none⟩ (.slice b35 m35 d35) = W := ⟨_, rfl⟩
 obtain ⟨H10, hk, bx35⟩ := rat_new (c1 := c35) (c2 := d35) hZ35 hW35 R35
 obtain ⟨B10, hB35⟩ : ∃ B, w6.heap.size = B := ⟨_, rfl⟩
 have l10 : w.heap.size ≤ B10 := by rw [← hB35]; exact hB.size
 have l8_10 : B8 < B10 := by rw [← hB35]; exact H8.box.lt
 have l9_10 : B8 + 1 < B10 := by rw [← hB35]; exact H9.box.lt
 have hB := hB.trans (hk.mono hB.size)
 have N25 := N25.below hk
 have N26 := N26.below hk
 have N29 := N29.below hk
 have N30 := N30.below hk
 have H8 := H8.below hk
 have H9 := H9.below hk
 have R35 := R35.below hk
 have P35 := P35.below hk
 have Q35 := Q35.below hk
 clear hk
 rw [hB35] at hW35 H10 bx35
 clear R35
 clear N25
 clear N26
 clear N29
 clear N30
 obtain ⟨⟨y0, y1, y2, y3⟩, yz0, yz1, yz2, yz3⟩ := id bx35
 obtain ⟨⟨x10, x11, x12, x13⟩, xz10, xz11, xz12, xz13⟩ := id H8.box
 obtain ⟨⟨x20, x21, x22, x23⟩, xz20, xz21, xz22, xz23⟩ := id H9.box
 go_wp2_with fail
 try rw [hW35]
 try rw [hB35]
 clear hW35 hB35
 clear y0 y1 y2 y3 yz0 yz1 yz2 yz3 x10 x11 x12 x13 xz10 xz11 xz12 xz13 x20 x21 x22 x23 xz20 xz21 xz22 xz23
 have cc := div_r s27 t27 s31 t31 a27 b27 a31 b31 n27 m27 n31 m31 c27 d27 c31 d31 (some (powR m)) (some (powR n)) W35 H8.arg H9.arg
 rw [HDiv.out] at cc
 refine cc.mono ?_
 rintro e w7 ⟨s41, a41, n41, c41, t41, b41, m41, d41, rfl, P1, P2, k1, k2, hk⟩
 have hB := hB.trans (hk.mono hB.size)
 have H8 := H8.below hk
 have H9 := H9.below hk
 have P35 := P35.below hk
 have Q35 := Q35.below hk
 have H10 := H10.below hk
 clear hk
 clear cc
 have R41 := rarg_of (some Q) P1 P2 k1 k2
 clear P1 P2 k1 k2
 obtain ⟨Z41, hZ41⟩ : ∃ Z, w7.alloc (Obj.cells #[.bool false, .slice none 0 0, .bool false, .slice none 0 0] 27) = Z := ⟨_, rfl⟩
 obtain ⟨W41, hW41⟩ : ∃ W, (((Z41.setCell ⟨w7.heap.size, 0, none⟩ (.bool s41)).setCell ⟨w7.heap.size, 1, none⟩ (.slice a41 n41 c41)).setCell ⟨w7.heap.size, 2, none⟩ (.bool t41)).setCell ⟨w7.heap.size, 3, none⟩ (.slice b41 m41 d41) = W := ⟨_, rfl⟩
 obtain ⟨H12, hk, bx41⟩ := rat_new (c1 := c41) (c2 := d41) hZ41 hW41 R41
 obtain ⟨B12, hB41⟩ : ∃ B, w7.heap.size = B := ⟨_, rfl⟩
 have l12 : w.heap.size ≤ B12 := by rw [← hB41]; exact hB.size
 have l8_12 : B8 < B12 := by rw [← hB41]; exact H8.box.lt
 have l9_12 : B8 + 1 < B12 := by rw [← hB41]; exact H9.box.lt
 have l10_12 : B10 < B12 := by rw [← hB41]; exact H10.box.lt
 have hB := hB.trans (hk.mono hB.size)
 have H8 := H8.below hk
 have H9 := H9.below hk
 have P35 := P35.below hk
 have Q35 := Q35.below hk
 have H10 := H10.below hk
 have R41 := R41.below hk
 clear hk
 rw [hB41] at hW41 H12 bx41
 clear R41
 obtain ⟨⟨y0, y1, y2, y3⟩, yz0, yz1, yz2, yz3⟩ := id bx41
 obtain ⟨⟨x10, x11, x12, x13⟩, xz10, xz11, xz12, xz13⟩ := id H8.box
 obtain ⟨⟨x20, x21, x22, x23⟩, xz20, xz21, xz22, xz23⟩ := id H9.box
 go_wp2_with fail
 try rw [hW41]
 try rw [hB41]
 clear hW41 hB41
 clear y0 y1 y2 y3 yz0 yz1 yz2 yz3 x10 x11 x12 x13 xz10 xz11 xz12 xz13 x20 x21 x22 x23 xz20 xz21 xz22 xz23
 have cc := add_r s27 t27 s31 t31 a27 b27 a31 b31 n27 m27 n31 m31 c27 d27 c31 d31 (some (powR m)) (some (powR n)) W41 H8.arg H9.arg
 rw [HAdd.out] at cc
 refine cc.mono ?_
 rintro e w8 ⟨s47, a47, n47, c47, t47, b47, m47, d47, rfl, P1, P2, k1, k2, hk⟩
 have hB := hB.trans (hk.mono hB.size)
 have H8 := H8.below hk
 have H9 := H9.below hk
 have P35 := P35.below hk
 have Q35 := Q35.below hk
 have H10 := H10.below hk
 have H12 := H12.below hk
 clear hk
 clear cc
 have R47 := rarg_of (some (powR (m + 1))) P1 P2 k1 k2
 clear P1 P2 k1 k2
 obtain ⟨Z47, hZ47⟩ : ∃ Z, w8.alloc (Obj.cells #[.bool false, .slice none 0 0, .bool false, .slice none 0 0] 27) = Z := ⟨_, rfl⟩
 obtain ⟨W47, hW47⟩ : ∃ W, (((Z47.setCell ⟨w8.heap.size, 0, none⟩ (.bool s47)).setCell ⟨w8.heap.size, 1, none⟩ (.slice a47 n47 c47)).setCell ⟨w8.heap.size, 2, none⟩ (.bool t47)).setCell ⟨w8.heap.size, 3, none⟩ (.slice b47 m47 d47) = W := ⟨_, rfl⟩
 obtain ⟨H14, hk, bx47⟩ := rat_new (c1 := c47) (c2 := d47) hZ47 hW47 R47
 obtain ⟨B14, hB47⟩ : ∃ B, w8.heap.size = B := ⟨_, rfl⟩
 have l14 : w.heap.size ≤ B14 := by rw [← hB47]; exact hB.size
 have l8_14 : B8 < B14 := by rw [← hB47]; exact H8.box.lt
 have l9_14 : B8 + 1 < B14 := by rw [← hB47]; exact H9.box.lt
 have l10_14 : B10 < B14 := by rw [← hB47]; exact H10.box.lt
 have l12_14 : B12 < B14 := by rw [← hB47]; exact H12.box.lt
 have hB := hB.trans (hk.mono hB.size)
 have H8 := H8.below hk
 have H9 := H9.below hk
 have P35 := P35.below hk
 have Q35 := Q35.below hk
 have H10 := H10.below hk
 have H12 := H12.below hk
 have R47 := R47.below hk
 clear hk
 rw [hB47] at hW47 H14 bx47
 clear R47
 obtain ⟨⟨y0, y1, y2, y3⟩, yz0, yz1, yz2, yz3⟩ := id bx47
 go_wp2_with fail
 try rw [hW47]
 try rw [hB47]
 clear hW47 hB47
 clear y0 y1 y2 y3 yz0 yz1 yz2 yz3
 have cc := power_z ((u : Int)) u (by omega) (by omega) W47
 refine cc.mono ?_
 rintro e w9 ⟨s62, a62, n62, c62, rfl, N55, k55, hk⟩
 have hB := hB.trans (hk.mono hB.size)
 have H8 := H8.below hk
 have H9 := H9.below hk
 have P35 := P35.below hk
 have Q35 := Q35.below hk
 have H10 := H10.below hk
 have H12 := H12.below hk
 have H14 := H14.below hk
 clear hk
 clear cc
 go_wp2_with fail
 have cc := power_z ((v : Int)) v (by omega) (by omega) w9
 refine cc.mono ?_
 rintro e w10 ⟨t62, b62, m62, d62, rfl, N61, k61, hk⟩
 have hB := hB.trans (hk.mono hB.size)
 have H8 := H8.below hk
 have H9 := H9.below hk
 have P35 := P35.below hk
 have Q35 := Q35.below hk
 have H10 := H10.below hk
 have H12 := H12.below hk
 have H14 := H14.below hk
 have N55 := N55.below hk
 clear hk
 clear cc
 obtain ⟨Z62, hZ62⟩ : ∃ Z, w10.alloc (Obj.cells #[.bool false, .slice none 0 0, .bool false, .slice none 0 0] 27) = Z := ⟨_, rfl⟩
 obtain ⟨W62, hW62⟩ : ∃ W, (((Z62.setCell ⟨w10.heap.size, 0, none⟩ (.bool s62)).setCell ⟨w10.heap.size, 1, none⟩ (.slice a62 n62 c62)).setCell ⟨w10.heap.size, 2, none⟩ (.bool t62)).setCell ⟨w10.heap.size, 3, none⟩ (.slice b62 m62 d62) = W := ⟨_, rfl⟩
 obtain ⟨H16, hk, bx62⟩ := rat_new (c1 := c62) (c2 := d62) hZ62 hW62 (RArg.of (x := Q) (by rw [hQ1.out]; exact N55) (by rw [hQ2.out]; exact N61) k55 k61)
 obtain ⟨B16, hB62⟩ : ∃ B, w10.heap.size = B := ⟨_, rfl⟩
 have l16 : w.heap.size ≤ B16 := by rw [← hB62]; exact hB.size
 have l8_16 : B8 < B16 := by rw [← hB62]; exact H8.box.lt
 have l9_16 : B8 + 1 < B16 := by rw [← hB62]; exact H9.box.lt
 have l10_16 : B10 < B16 := by rw [← hB62]; exact H10.box.lt
 have l12_16 : B12 < B16 := by rw [← hB62]; exact H12.box.lt
 have l14_16 : B14 < B16 := by rw [← hB62]; exact H14.box.lt
 have hB := hB.trans (hk.mono hB.size)
 have H8 := H8.below hk
 have H9 := H9.below hk
 have P35 := P35.below hk
 have Q35 := Q35.below hk
 have H10 := H10.below hk
 have H12 := H12.below hk
 have H14 := H14.below hk
 have N55 := N55.below hk
 have N61 := N61.below hk
 clear hk
 rw [hB62] at hW62 H16 bx62
 obtain ⟨⟨y0, y1, y2, y3⟩, yz0, yz1, yz2, yz3⟩ := id bx62
 obtain ⟨⟨x10, x11, x12, x13⟩, xz10, xz11, xz12, xz13⟩ := id H12.box
 obtain ⟨⟨x20, x21, x22, x23⟩, xz20, xz21, xz22, xz23⟩ := id H16.box
 go_wp2_with fail
 try rw [hW62]
 try rw [hB62]
 clear hW62 hB62
 clear y0 y1 y2 y3 yz0 yz1 yz2 yz3 x10 x11 x12 x13 xz10 xz11 xz12 xz13 x20 x21 x22 x23 xz20 xz21 xz22 xz23
 have cc := same_r s41 t41 s62 t62 a41 b41 a62 b62 n41 m41 n62 m62 c41 d41 c62 d62 _ _ H12.arg.l1 H12.arg.l2 W62 H12.arg.num H12.arg.den H16.arg.num H16.arg.den
 refine cc.mono ?_
 rintro e w11 ⟨rfl, hk⟩
 have hB := hB.trans (hk.mono hB.size)
 have H8 := H8.below hk
 have H9 := H9.below hk
 have P35 := P35.below hk
 have Q35 := Q35.below hk
 have H10 := H10.below hk
 have H12 := H12.below hk
 have H14 := H14.below hk
 have N55 := N55.below hk
 have N61 := N61.below hk
 have H16 := H16.below hk
 clear hk
 clear cc
 obtain ⟨⟨x00, x01, x02, x03⟩, xz00, xz01, xz02, xz03⟩ := id H8.box
 obtain ⟨⟨x10, x11, x12, x13⟩, xz10, xz11, xz12, xz13⟩ := id H9.box
 go_wp2_with fail
 clear x00 x01 x02 x03 xz00 xz01 xz02 xz03 x10 x11 x12 x13 xz10 xz11 xz12 xz13
 have cc := cmp_r s27 t27 s31 t31 a27 b27 a31 b31 n27 m27 n31 m31 c27 d27 c31 d31 (some (powR m)) (some (powR n)) w11 H8.arg H9.arg
 rw [K74.out] at cc
 refine cc.mono ?_
 rintro e w12 ⟨rfl, hk⟩
 have hB := hB.trans (hk.mono hB.size)
 have H8 := H8.below hk
 have H9 := H9.below hk
 have P35 := P35.below hk
 have Q35 := Q35.below hk
 have H10 := H10.below hk
 have H12 := H12.below hk
 have H14 := H14.below hk
 have N55 := N55.below hk
 have N61 := N61.below hk
 have H16 := H16.below hk
 clear hk
 clear cc
 go_wp2_with fail
 have cc := of_any (m : Int) (by omega) (by omega) w12
 refine cc.mono ?_
 rintro e w13 ⟨s76, a76, n76, c76, rfl, N76, hk⟩
 have k76 := of_len N76 (by omega) (by omega)
 have hB := hB.trans (hk.mono hB.size)
 have H8 := H8.below hk
 have H9 := H9.below hk
 have P35 := P35.below hk
 have Q35 := Q35.below hk
 have H10 := H10.below hk
 have H12 := H12.below hk
 have H14 := H14.below hk
 have N55 := N55.below hk
 have N61 := N61.below hk
 have H16 := H16.below hk
 clear hk
 clear cc
 go_wp2_with fail
 have cc := of_any (n : Int) (by omega) (by omega) w13
 refine cc.mono ?_
 rintro e w14 ⟨s78, a78, n78, c78, rfl, N78, hk⟩
 have k78 := of_len N78 (by omega) (by omega)
 have hB := hB.trans (hk.mono hB.size)
 have H8 := H8.below hk
 have H9 := H9.below hk
 have P35 := P35.below hk
 have Q35 := Q35.below hk
 have H10 := H10.below hk
 have H12 := H12.below hk
 have H14 := H14.below hk
 have N55 := N55.below hk
 have N61 := N61.below hk
 have H16 := H16.below hk
 have N76 := N76.below hk
 clear hk
 clear cc
 go_wp2_with fail
 have cc := cmp_any s76 s78 a76 a78 n76 n78 c76 c78 (m : Int) (n : Int) k76 k78 w14 N76 N78
 rw [K79.out] at cc
 refine cc.mono ?_
 rintro e w15 ⟨rfl, hk⟩
 have hB := hB.trans (hk.mono hB.size)
 have H8 := H8.below hk
 have H9 := H9.below hk
 have P35 := P35.below hk
 have Q35 := Q35.below hk
 have H10 := H10.below hk
 have H12 := H12.below hk
 have H14 := H14.below hk
 have N55 := N55.below hk
 have N61 := N61.below hk
 have H16 := H16.below hk
 have N76 := N76.below hk
 have N78 := N78.below hk
 clear hk
 clear cc
 clear N55
 clear N61
 clear N76
 clear N78
 go_wp2_with fail
 obtain ⟨S12, hS12⟩ : ∃ b, w15.drew.heap.size = b := ⟨_, rfl⟩
 have lS : S12 ≤ w15.drew.heap.size := by omega
 have l14E : B14 < S12 := by rw [← hS12]; exact H14.box.lt
 clear hS12
 have hB := hB.drew
 have H8 := H8.below (Below.drew (Below.refl w15.heap.size w15))
 have H9 := H9.below (Below.drew (Below.refl w15.heap.size w15))
 have P35 := P35.below (Below.drew (Below.refl w15.heap.size w15))
 have Q35 := Q35.below (Below.drew (Below.refl w15.heap.size w15))
 have H10 := H10.below (Below.drew (Below.refl w15.heap.size w15))
 have H12 := H12.below (Below.drew (Below.refl w15.heap.size w15))
 have H14 := H14.below (Below.drew (Below.refl w15.heap.size w15))
 have H16 := H16.below (Below.drew (Below.refl w15.heap.size w15))
 refine wp_region_held_drew (S := fun w' => Below (S12) w15.drew w') (by kernel_rfl) (Below.refl _ _) (fun hHeld => ?_)
 obtain ⟨E12, hWE⟩ : ∃ W, w15.drew = W := ⟨_, rfl⟩
 rw [hWE] at hB H8 H9 P35 Q35 H10 H12 H14 H16 hHeld lS ⊢
 clear hWE
 have hE := Below.refl E12.heap.size E12
 have hS : Below S12 E12 E12 := Below.refl _ _
 obtain ⟨⟨x14_0, x14_1, x14_2, x14_3⟩, -, -, -, -⟩ := id H14.box
 refine tk 0 (.int .i64 (m : Int)) 103 rfl rfl ?_
 simp only [Act.put, pA, pB, pC]
 refine tk 1 (.int .i64 (n : Int)) 104 rfl rfl ?_
 simp only [Act.put, pA, pB, pC]
 refine tk 2 (.bool true) 105 rfl rfl ?_
 simp only [Act.put, pA, pB, pC]
 refine tk 3 (.bool true) 106 rfl rfl ?_
 simp only [Act.put, pA, pB, pC]
 refine tk 4 (.bool true) 107 rfl rfl ?_
 simp only [Act.put, pA, pB, pC]
 refine tk 5 (.bool true) 108 rfl rfl ?_
 simp only [Act.put, pA, pB, pC]
 refine tk 6 (.bool true) 109 rfl rfl ?_
 simp only [Act.put, pA, pB, pC]
 refine tk 7 (.agg #[.bool s47, .slice a47 n47 c47, .bool t47, .slice b47 m47 d47]) 110 rfl rfl ?_ (Or.inl ⟨by rfl, fun w' hSw => by have z0 := (hSw.cell (p := ⟨B14, 0, none⟩) l14E).trans x14_0; have z1 := (hSw.cell (p := ⟨B14, 1, none⟩) l14E).trans x14_1; have z2 := (hSw.cell (p := ⟨B14, 2, none⟩) l14E).trans x14_2; have z3 := (hSw.cell (p := ⟨B14, 3, none⟩) l14E).trans x14_3; go_simp⟩)
 simp only [Act.put, pA, pB, pC]
 refine tk 8 (.int .i64 (m : Int)) 111 rfl rfl ?_
 simp only [Act.put, pA, pB, pC]
 refine tk 9 (.int .i64 ((m : Int) + 1)) 112 rfl rfl ?_
 simp only [Act.put, pA, pB, pC]
 refine wpAnyH_one 10 (by kernel_rfl) ?_
 have cc := power_z (((m : Int) + 1)) (m + 1) (by omega) (by omega) E12
 refine wpOp_call (i := 10) (f := 46) (args := #[.int .i64 ((m : Int) + 1)]) 113 rfl rfl (by rfl) (by go_simp) ?_
 refine (cc).mono ?_
 rintro e r1 ⟨s115, a115, n115, c115, rfl, N113, k113, hk⟩
 clear cc
 have hE := hE.trans (hk.mono hE.size)
 have H8 := H8.below hk
 have H9 := H9.below hk
 have P35 := P35.below hk
 have Q35 := Q35.below hk
 have H10 := H10.below hk
 have H12 := H12.below hk
 have H14 := H14.below hk
 have H16 := H16.below hk
 have hS : Below S12 E12 r1 := hE.mono lS
 refine ⟨_, rfl, hS, ?_⟩
 simp only [Act.put, pA, pB, pC]
 refine wpAnyH_one 11 (by kernel_rfl) ?_
 have cc := power_z (0) 0 (by omega) (by omega) r1
 refine wpOp_call (i := 11) (f := 46) (args := #[.int .i64 0]) 114 rfl rfl (by rfl) (by go_simp) ?_
 refine (cc).mono ?_
 rintro e r2 ⟨t115, b115, m115, d115, rfl, N114, k114, hk⟩
 clear cc
 have hE := hE.trans (hk.mono hE.size)
 have H8 := H8.below hk
 have H9 := H9.below hk
 have P35 := P35.below hk
 have Q35 := Q35.below hk
 have H10 := H10.below hk
 have H12 := H12.below hk
 have H14 := H14.below hk
 have H16 := H16.below hk
 have N113 := N113.below hk
 have hS : Below S12 E12 r2 := hE.mono lS
 refine ⟨_, rfl, hS, ?_⟩
 simp only [Act.put, pA, pB, pC]
 refine tk 12 (.agg #[.bool s115, .slice a115 n115 c115, .bool t115, .slice b115 m115 d115]) 115 rfl rfl ?_
 simp only [Act.put, pA, pB, pC]
 refine wpAnyH_one 13 (by kernel_rfl) ?_
 have cc := same_r s47 t47 s115 t115 a47 b47 a115 b115 n47 m47 n115 m115 c47 d47 c115 d115 _ _ H14.arg.l1 H14.arg.l2 r2 H14.arg.num H14.arg.den (RArg.of (x := (powR (m + 1))) N113 N114 k113 k114).num (RArg.of (x := (powR (m + 1))) N113 N114 k113 k114).den
 refine wpOp_call (i := 13) (f := 26) (args := #[.agg #[.bool s47, .slice a47 n47 c47, .bool t47, .slice b47 m47 d47], .agg #[.bool s115, .slice a115 n115 c115, .bool t115, .slice b115 m115 d115]]) 116 rfl rfl (by rfl) (by go_simp) ?_
 refine (cc).mono ?_
 rintro e r3 ⟨rfl, hk⟩
 clear cc
 have hE := hE.trans (hk.mono hE.size)
 have H8 := H8.below hk
 have H9 := H9.below hk
 have P35 := P35.below hk
 have Q35 := Q35.below hk
 have H10 := H10.below hk
 have H12 := H12.below hk
 have H14 := H14.below hk
 have H16 := H16.below hk
 have N113 := N113.below hk
 have N114 := N114.below hk
 have hS : Below S12 E12 r3 := hE.mono lS
 refine ⟨_, rfl, hS, ?_⟩
 simp only [Act.put, pA, pB, pC]
 refine tk 14 (.bool false) 117 rfl rfl ?_
 simp only [Act.put, pA, pB, pC]
 refine tk 15 (.bool false) 118 rfl rfl ?_
 simp only [Act.put, pA, pB, pC]
 refine wpAnyH_done (by kernel_rfl) ?_ _
 have hB := hB.trans (hE.mono hB.size)
 clear x14_0 x14_1 x14_2 x14_3
 obtain ⟨⟨x00, x01, x02, x03⟩, xz00, xz01, xz02, xz03⟩ := id H10.box
 go_wp2_with fail
 clear x00 x01 x02 x03 xz00 xz01 xz02 xz03
 have cc := none_yes s35 t35 a35 b35 n35 m35 c35 d35 kk35 ll35 r3 P35 Q35
 refine cc.mono ?_
 rintro e w16 ⟨rfl, hk⟩
 have hB := hB.trans (hk.mono hB.size)
 have H8 := H8.below hk
 have H9 := H9.below hk
 have P35 := P35.below hk
 have Q35 := Q35.below hk
 have H10 := H10.below hk
 have H12 := H12.below hk
 have H14 := H14.below hk
 have H16 := H16.below hk
 have N113 := N113.below hk
 have N114 := N114.below hk
 clear hk
 clear cc
 go_wp2
 go_ret
 exact ⟨rfl, hB⟩
set_option maxRecDepth 100000 in
set_option maxHeartbeats 32000000 in
theorem rlong_Btop (z0 z1 : Int) (m n : Nat) (_h0 : 0 ≤ z0) (_h1 : z0 ≤ 65535) (_g0 : 0 ≤ z1) (_g1 : z1 ≤ 65535) (e0 : z0 % 2048 = (m : Int)) (e1 : z1 % 2048 = (n : Int)) (f0 : Int.tmod z0 2048 = (m : Int)) (f1 : Int.tmod z1 2048 = (n : Int)) (hm : m < 2048) (hn : n < 2048) (hmn : ¬ m + n < 2048) (he : m = n) (hg0 : ¬ max m n < 2047) (w : World) (ht : Pow10 w) (hsy : Syn w) :
 Calls Tryz.prog 9 #[.int .u16 z0, .int .u16 z1] w fun e w' => e = .returned (.bool true) ∧ Below w.heap.size w w' := by
 have HMul : Hid (mulRO (some (powR m)) (some (powR n)) = none) := mul_pow_none hmn
 have HQ1 := (quot_pow m n).1
 have HQ2 := (quot_pow m n).2
 have HDiv : Hid (divRO (some (powR m)) (some (powR n)) = some (Rat.divInt (powZ m) (powZ n))) := div_pow hm hn
 obtain ⟨Q, hQ⟩ : ∃ Q, Rat.divInt (powZ m) (powZ n) = Q := ⟨_, rfl⟩
 rw [hQ] at HQ1 HQ2 HDiv
 clear hQ
 obtain ⟨k, hk'⟩ : ∃ k, min m n = k := ⟨_, rfl⟩
 rw [hk'] at HQ1 HQ2
 obtain ⟨u, hu⟩ : ∃ u, m - k = u := ⟨_, rfl⟩
 obtain ⟨v, hv⟩ : ∃ v, n - k = v := ⟨_, rfl⟩
 rw [hu] at HQ1
 rw [hv] at HQ2
 obtain ⟨g, hg⟩ : ∃ g, max m n = g := ⟨_, rfl⟩
 have i1 : min (m : Int) (n : Int) = (k : Int) := by omega
 have i2 : max (m : Int) (n : Int) = (g : Int) := by omega
 have i3 : (m : Int) - (k : Int) = (u : Int) := by omega
 have i4 : (n : Int) - (k : Int) = (v : Int) := by omega
 have hu2 : u < 2048 := by omega
 have hv2 : v < 2048 := by omega
 have hQ1 := hide HQ1
 have hQ2 := hide HQ2
 clear HQ1 HQ2
 obtain ⟨O, hO⟩ : ∃ O, cmpZ (m : Int) (n : Int) = O := ⟨_, rfl⟩
 have K74 : Hid (cmpRO (some (powR m)) (some (powR n)) = O) := (cmp_pow m n).trans hO
 have K79 := hide hO
 clear hO
 have HAdd : Hid (addRO (some (powR m)) (some (powR n)) = none) := by
  obtain rfl : m = 2047 := by omega
  obtain rfl : n = 2047 := by omega
  exact addR_over
 have v1 : IntKind.i64.wrap ((m : Int) + 1) = (m : Int) + 1 := by simp only [IntKind.wrap, IntKind.bits, IntKind.signed]; simp; omega
 have v2 : IntKind.i64.wrap ((m : Int) + (n : Int)) = (m : Int) + (n : Int) := by simp only [IntKind.wrap, IntKind.bits, IntKind.signed]; simp; omega
 have t86 : decide ((g : Int) < 2047) = false := decide_eq_false (by omega)
 have t90 : ((m : Int) == (n : Int)) = true := by simp; omega
 have tn1 : ((m : Int) != (n : Int)) = false := by simp; omega
 have tn2 : decide ((m : Int) = (n : Int)) = true := decide_eq_true (by omega)
 have t122 : decide ((m : Int) + (n : Int) < 2048) = false := decide_eq_false (by omega)
 clear hu hv hg hk' he hg0
 go_enter Tryz.func9, Tryz.ntmps9
 have hB := Below.refl w.heap.size w
 go_wp2_with fail
 have cc := sanity3_true w ht hsy
 refine cc.mono ?_
 rintro e w1 ⟨rfl, hk⟩
 have hB := hB.trans (hk.mono hB.size)
 clear hk
 clear cc
 go_wp2_with fail
 have cc := power_z ((m : Int)) m (by omega) (by omega) w1
 refine cc.mono ?_
 rintro e w2 ⟨s27, a27, n27, c27, rfl, N25, k25, hk⟩
 have hB := hB.trans (hk.mono hB.size)
 clear hk
 clear cc
 go_wp2_with fail
 have cc := power_z (0) 0 (by omega) (by omega) w2
 refine cc.mono ?_
 rintro e w3 ⟨t27, b27, m27, d27, rfl, N26, k26, hk⟩
 have hB := hB.trans (hk.mono hB.size)
 have N25 := N25.below hk
 clear hk
 clear cc
 go_wp2_with fail
 have cc := power_z ((n : Int)) n (by omega) (by omega) w3
 refine cc.mono ?_
 rintro e w4 ⟨s31, a31, n31, c31, rfl, N29, k29, hk⟩
 have hB := hB.trans (hk.mono hB.size)
 have N25 := N25.below hk
 have N26 := N26.below hk
 clear hk
 clear cc
 go_wp2_with fail
 have cc := power_z (0) 0 (by omega) (by omega) w4
 refine cc.mono ?_
 rintro e w5 ⟨t31, b31, m31, d31, rfl, N30, k30, hk⟩
 have hB := hB.trans (hk.mono hB.size)
 have N25 := N25.below hk
 have N26 := N26.below hk
 have N29 := N29.below hk
 clear hk
 clear cc
 obtain ⟨Z27, hZ27⟩ : ∃ Z, (w5.alloc (Obj.cells #[.bool false, .slice none 0 0, .bool false, .slice none 0 0] 27)).alloc (Obj.cells #[.bool false, .slice none 0 0, .bool false, .slice none 0 0] 27) = Z := ⟨_, rfl⟩
 obtain ⟨W27, hW27⟩ : ∃ W, (((((((Z27.setCell ⟨w5.heap.size, 0, none⟩ (.bool s27)).setCell ⟨w5.heap.size, 1, none⟩ (.slice a27 n27 c27)).setCell ⟨w5.heap.size, 2, none⟩ (.bool t27)).setCell ⟨w5.heap.size, 3, none⟩ (.slice b27 m27 d27)).setCell ⟨w5.heap.size + 1, 0, none⟩ (.bool s31)).setCell ⟨w5.heap.size + 1, 1, none⟩ (.slice a31 n31 c31)).setCell ⟨w5.heap.size + 1, 2, none⟩ (.bool t31)).setCell ⟨w5.heap.size + 1, 3, none⟩ (.slice b31 m31 d31) = W := ⟨_, rfl⟩
 obtain ⟨H8, H9, hk, bx27, bx31⟩ := rat_new2 (c1 := c27) (c2 := d27) (e1 := c31) (e2 := d31) hZ27 hW27 (RArg.of (x := (powR m)) N25 N26 k25 k26) (RArg.of (x := (powR n)) N29 N30 k29 k30)
 obtain ⟨B8, hB27⟩ : ∃ B, w5.heap.size = B := ⟨_, rfl⟩
 have l8 : w.heap.size ≤ B8 := by rw [← hB27]; exact hB.size
 have l8_9 : B8 < B8 + 1 := by omega
 have l9 : w.heap.size ≤ B8 + 1 := by omega
 have hB := hB.trans (hk.mono hB.size)
 have N25 := N25.below hk
 have N26 := N26.below hk
 have N29 := N29.below hk
 have N30 := N30.below hk
 clear hk
 rw [hB27] at hW27 H8 H9 bx27 bx31
 obtain ⟨⟨y0, y1, y2, y3⟩, yz0, yz1, yz2, yz3⟩ := id bx27
 obtain ⟨⟨y0', y1', y2', y3'⟩, yz0', yz1', yz2', yz3'⟩ := id bx31
 obtain ⟨⟨x20, x21, x22, x23⟩, xz20, xz21, xz22, xz23⟩ := id H8.box
 obtain ⟨⟨x30, x31, x32, x33⟩, xz30, xz31, xz32, xz33⟩ := id H9.box
 go_wp2_with fail
 try rw [hW27]
 try rw [hB27]
 clear hW27 hB27
 clear y0 y1 y2 y3 yz0 yz1 yz2 yz3 y0' y1' y2' y3' yz0' yz1' yz2' yz3' x20 x21 x22 x23 xz20 xz21 xz22 xz23 x30 x31 x32 x33 xz30 xz31 xz32 xz33
 have cc := mul_r s27 t27 s31 t31 a27 b27 a31 b31 n27 m27 n31 m31 c27 d27 c31 d31 (some (powR m)) (some (powR n)) W27 H8.arg H9.arg
 rw [HMul.out] at cc
 refine cc.mono ?_
 rintro e w6 ⟨s35, a35, n35, c35, t35, b35, m35, d35, rfl, P1, P2, k1, k2, hk⟩
 have hB := hB.trans (hk.mono hB.size)
 have N25 := N25.below hk
 have N26 := N26.below hk
 have N29 := N29.below hk
 have N30 := N30.below hk
 have H8 := H8.below hk
 have H9 := H9.below hk
 clear hk
 clear cc
 have R35 := rarg_of (none) P1 P2 k1 k2
 have P35 := P1
 have Q35 := P2
 have kk35 := k1
 have ll35 := k2
 clear P1 P2 k1 k2
 obtain ⟨Z35, hZ35⟩ : ∃ Z, w6.alloc (Obj.cells #[.bool false, .slice none 0 0, .bool false, .slice none 0 0] 27) = Z := ⟨_, rfl⟩
 obtain ⟨W35, hW35⟩ : ∃ W, (((Z35.setCell ⟨w6.heap.size, 0, none⟩ (.bool s35)).setCell ⟨w6.heap.size, 1, none⟩ (.slice a35 n35 c35)).setCell ⟨w6.heap.size, 2, none⟩ (.bool t35)).setCell ⟨w6.heap.size, 3, none⟩ (.slice b35 m35 d35) = W := ⟨_, rfl⟩
 obtain ⟨H10, hk, bx35⟩ := rat_new (c1 := c35) (c2 := d35) hZ35 hW35 R35
 obtain ⟨B10, hB35⟩ : ∃ B, w6.heap.size = B := ⟨_, rfl⟩
 have l10 : w.heap.size ≤ B10 := by rw [← hB35]; exact hB.size
 have l8_10 : B8 < B10 := by rw [← hB35]; exact H8.box.lt
 have l9_10 : B8 + 1 < B10 := by rw [← hB35]; exact H9.box.lt
 have hB := hB.trans (hk.mono hB.size)
 have N25 := N25.below hk
 have N26 := N26.below hk
 have N29 := N29.below hk
 have N30 := N30.below hk
 have H8 := H8.below hk
 have H9 := H9.below hk
 have R35 := R35.below hk
 have P35 := P35.below hk
 have Q35 := Q35.below hk
 clear hk
 rw [hB35] at hW35 H10 bx35
 clear R35
 clear N25
 clear N26
 clear N29
 clear N30
 obtain ⟨⟨y0, y1, y2, y3⟩, yz0, yz1, yz2, yz3⟩ := id bx35
 obtain ⟨⟨x10, x11, x12, x13⟩, xz10, xz11, xz12, xz13⟩ := id H8.box
 obtain ⟨⟨x20, x21, x22, x23⟩, xz20, xz21, xz22, xz23⟩ := id H9.box
 go_wp2_with fail
 try rw [hW35]
 try rw [hB35]
 clear hW35 hB35
 clear y0 y1 y2 y3 yz0 yz1 yz2 yz3 x10 x11 x12 x13 xz10 xz11 xz12 xz13 x20 x21 x22 x23 xz20 xz21 xz22 xz23
 have cc := div_r s27 t27 s31 t31 a27 b27 a31 b31 n27 m27 n31 m31 c27 d27 c31 d31 (some (powR m)) (some (powR n)) W35 H8.arg H9.arg
 rw [HDiv.out] at cc
 refine cc.mono ?_
 rintro e w7 ⟨s41, a41, n41, c41, t41, b41, m41, d41, rfl, P1, P2, k1, k2, hk⟩
 have hB := hB.trans (hk.mono hB.size)
 have H8 := H8.below hk
 have H9 := H9.below hk
 have P35 := P35.below hk
 have Q35 := Q35.below hk
 have H10 := H10.below hk
 clear hk
 clear cc
 have R41 := rarg_of (some Q) P1 P2 k1 k2
 clear P1 P2 k1 k2
 obtain ⟨Z41, hZ41⟩ : ∃ Z, w7.alloc (Obj.cells #[.bool false, .slice none 0 0, .bool false, .slice none 0 0] 27) = Z := ⟨_, rfl⟩
 obtain ⟨W41, hW41⟩ : ∃ W, (((Z41.setCell ⟨w7.heap.size, 0, none⟩ (.bool s41)).setCell ⟨w7.heap.size, 1, none⟩ (.slice a41 n41 c41)).setCell ⟨w7.heap.size, 2, none⟩ (.bool t41)).setCell ⟨w7.heap.size, 3, none⟩ (.slice b41 m41 d41) = W := ⟨_, rfl⟩
 obtain ⟨H12, hk, bx41⟩ := rat_new (c1 := c41) (c2 := d41) hZ41 hW41 R41
 obtain ⟨B12, hB41⟩ : ∃ B, w7.heap.size = B := ⟨_, rfl⟩
 have l12 : w.heap.size ≤ B12 := by rw [← hB41]; exact hB.size
 have l8_12 : B8 < B12 := by rw [← hB41]; exact H8.box.lt
 have l9_12 : B8 + 1 < B12 := by rw [← hB41]; exact H9.box.lt
 have l10_12 : B10 < B12 := by rw [← hB41]; exact H10.box.lt
 have hB := hB.trans (hk.mono hB.size)
 have H8 := H8.below hk
 have H9 := H9.below hk
 have P35 := P35.below hk
 have Q35 := Q35.below hk
 have H10 := H10.below hk
 have R41 := R41.below hk
 clear hk
 rw [hB41] at hW41 H12 bx41
 clear R41
 obtain ⟨⟨y0, y1, y2, y3⟩, yz0, yz1, yz2, yz3⟩ := id bx41
 obtain ⟨⟨x10, x11, x12, x13⟩, xz10, xz11, xz12, xz13⟩ := id H8.box
 obtain ⟨⟨x20, x21, x22, x23⟩, xz20, xz21, xz22, xz23⟩ := id H9.box
 go_wp2_with fail
 try rw [hW41]
 try rw [hB41]
 clear hW41 hB41
 clear y0 y1 y2 y3 yz0 yz1 yz2 yz3 x10 x11 x12 x13 xz10 xz11 xz12 xz13 x20 x21 x22 x23 xz20 xz21 xz22 xz23
 have cc := add_r s27 t27 s31 t31 a27 b27 a31 b31 n27 m27 n31 m31 c27 d27 c31 d31 (some (powR m)) (some (powR n)) W41 H8.arg H9.arg
 rw [HAdd.out] at cc
 refine cc.mono ?_
 rintro e w8 ⟨s47, a47, n47, c47, t47, b47, m47, d47, rfl, P1, P2, k1, k2, hk⟩
 have hB := hB.trans (hk.mono hB.size)
 have H8 := H8.below hk
 have H9 := H9.below hk
 have P35 := P35.below hk
 have Q35 := Q35.below hk
 have H10 := H10.below hk
 have H12 := H12.below hk
 clear hk
 clear cc
 have R47 := rarg_of (none) P1 P2 k1 k2
 have P47 := P1
 have Q47 := P2
 have kk47 := k1
 have ll47 := k2
 clear P1 P2 k1 k2
 obtain ⟨Z47, hZ47⟩ : ∃ Z, w8.alloc (Obj.cells #[.bool false, .slice none 0 0, .bool false, .slice none 0 0] 27) = Z := ⟨_, rfl⟩
 obtain ⟨W47, hW47⟩ : ∃ W, (((Z47.setCell ⟨w8.heap.size, 0, none⟩ (.bool s47)).setCell ⟨w8.heap.size, 1, none⟩ (.slice a47 n47 c47)).setCell ⟨w8.heap.size, 2, none⟩ (.bool t47)).setCell ⟨w8.heap.size, 3, none⟩ (.slice b47 m47 d47) = W := ⟨_, rfl⟩
 obtain ⟨H14, hk, bx47⟩ := rat_new (c1 := c47) (c2 := d47) hZ47 hW47 R47
 obtain ⟨B14, hB47⟩ : ∃ B, w8.heap.size = B := ⟨_, rfl⟩
 have l14 : w.heap.size ≤ B14 := by rw [← hB47]; exact hB.size
 have l8_14 : B8 < B14 := by rw [← hB47]; exact H8.box.lt
 have l9_14 : B8 + 1 < B14 := by rw [← hB47]; exact H9.box.lt
 have l10_14 : B10 < B14 := by rw [← hB47]; exact H10.box.lt
 have l12_14 : B12 < B14 := by rw [← hB47]; exact H12.box.lt
 have hB := hB.trans (hk.mono hB.size)
 have H8 := H8.below hk
 have H9 := H9.below hk
 have P35 := P35.below hk
 have Q35 := Q35.below hk
 have H10 := H10.below hk
 have H12 := H12.below hk
 have R47 := R47.below hk
 have P47 := P47.below hk
 have Q47 := Q47.below hk
 clear hk
 rw [hB47] at hW47 H14 bx47
 clear R47
 obtain ⟨⟨y0, y1, y2, y3⟩, yz0, yz1, yz2, yz3⟩ := id bx47
 go_wp2_with fail
 try rw [hW47]
 try rw [hB47]
 clear hW47 hB47
 clear y0 y1 y2 y3 yz0 yz1 yz2 yz3
 have cc := power_z ((u : Int)) u (by omega) (by omega) W47
 refine cc.mono ?_
 rintro e w9 ⟨s62, a62, n62, c62, rfl, N55, k55, hk⟩
 have hB := hB.trans (hk.mono hB.size)
 have H8 := H8.below hk
 have H9 := H9.below hk
 have P35 := P35.below hk
 have Q35 := Q35.below hk
 have H10 := H10.below hk
 have H12 := H12.below hk
 have P47 := P47.below hk
 have Q47 := Q47.below hk
 have H14 := H14.below hk
 clear hk
 clear cc
 go_wp2_with fail
 have cc := power_z ((v : Int)) v (by omega) (by omega) w9
 refine cc.mono ?_
 rintro e w10 ⟨t62, b62, m62, d62, rfl, N61, k61, hk⟩
 have hB := hB.trans (hk.mono hB.size)
 have H8 := H8.below hk
 have H9 := H9.below hk
 have P35 := P35.below hk
 have Q35 := Q35.below hk
 have H10 := H10.below hk
 have H12 := H12.below hk
 have P47 := P47.below hk
 have Q47 := Q47.below hk
 have H14 := H14.below hk
 have N55 := N55.below hk
 clear hk
 clear cc
 obtain ⟨Z62, hZ62⟩ : ∃ Z, w10.alloc (Obj.cells #[.bool false, .slice none 0 0, .bool false, .slice none 0 0] 27) = Z := ⟨_, rfl⟩
 obtain ⟨W62, hW62⟩ : ∃ W, (((Z62.setCell ⟨w10.heap.size, 0, none⟩ (.bool s62)).setCell ⟨w10.heap.size, 1, none⟩ (.slice a62 n62 c62)).setCell ⟨w10.heap.size, 2, none⟩ (.bool t62)).setCell ⟨w10.heap.size, 3, none⟩ (.slice b62 m62 d62) = W := ⟨_, rfl⟩
 obtain ⟨H16, hk, bx62⟩ := rat_new (c1 := c62) (c2 := d62) hZ62 hW62 (RArg.of (x := Q) (by rw [hQ1.out]; exact N55) (by rw [hQ2.out]; exact N61) k55 k61)
 obtain ⟨B16, hB62⟩ : ∃ B, w10.heap.size = B := ⟨_, rfl⟩
 have l16 : w.heap.size ≤ B16 := by rw [← hB62]; exact hB.size
 have l8_16 : B8 < B16 := by rw [← hB62]; exact H8.box.lt
 have l9_16 : B8 + 1 < B16 := by rw [← hB62]; exact H9.box.lt
 have l10_16 : B10 < B16 := by rw [← hB62]; exact H10.box.lt
 have l12_16 : B12 < B16 := by rw [← hB62]; exact H12.box.lt
 have l14_16 : B14 < B16 := by rw [← hB62]; exact H14.box.lt
 have hB := hB.trans (hk.mono hB.size)
 have H8 := H8.below hk
 have H9 := H9.below hk
 have P35 := P35.below hk
 have Q35 := Q35.below hk
 have H10 := H10.below hk
 have H12 := H12.below hk
 have P47 := P47.below hk
 have Q47 := Q47.below hk
 have H14 := H14.below hk
 have N55 := N55.below hk
 have N61 := N61.below hk
 clear hk
 rw [hB62] at hW62 H16 bx62
 obtain ⟨⟨y0, y1, y2, y3⟩, yz0, yz1, yz2, yz3⟩ := id bx62
 obtain ⟨⟨x10, x11, x12, x13⟩, xz10, xz11, xz12, xz13⟩ := id H12.box
 obtain ⟨⟨x20, x21, x22, x23⟩, xz20, xz21, xz22, xz23⟩ := id H16.box
 go_wp2_with fail
 try rw [hW62]
 try rw [hB62]
 clear hW62 hB62
 clear y0 y1 y2 y3 yz0 yz1 yz2 yz3 x10 x11 x12 x13 xz10 xz11 xz12 xz13 x20 x21 x22 x23 xz20 xz21 xz22 xz23
 have cc := same_r s41 t41 s62 t62 a41 b41 a62 b62 n41 m41 n62 m62 c41 d41 c62 d62 _ _ H12.arg.l1 H12.arg.l2 W62 H12.arg.num H12.arg.den H16.arg.num H16.arg.den
 refine cc.mono ?_
 rintro e w11 ⟨rfl, hk⟩
 have hB := hB.trans (hk.mono hB.size)
 have H8 := H8.below hk
 have H9 := H9.below hk
 have P35 := P35.below hk
 have Q35 := Q35.below hk
 have H10 := H10.below hk
 have H12 := H12.below hk
 have P47 := P47.below hk
 have Q47 := Q47.below hk
 have H14 := H14.below hk
 have N55 := N55.below hk
 have N61 := N61.below hk
 have H16 := H16.below hk
 clear hk
 clear cc
 obtain ⟨⟨x00, x01, x02, x03⟩, xz00, xz01, xz02, xz03⟩ := id H8.box
 obtain ⟨⟨x10, x11, x12, x13⟩, xz10, xz11, xz12, xz13⟩ := id H9.box
 go_wp2_with fail
 clear x00 x01 x02 x03 xz00 xz01 xz02 xz03 x10 x11 x12 x13 xz10 xz11 xz12 xz13
 have cc := cmp_r s27 t27 s31 t31 a27 b27 a31 b31 n27 m27 n31 m31 c27 d27 c31 d31 (some (powR m)) (some (powR n)) w11 H8.arg H9.arg
 rw [K74.out] at cc
 refine cc.mono ?_
 rintro e w12 ⟨rfl, hk⟩
 have hB := hB.trans (hk.mono hB.size)
 have H8 := H8.below hk
 have H9 := H9.below hk
 have P35 := P35.below hk
 have Q35 := Q35.below hk
 have H10 := H10.below hk
 have H12 := H12.below hk
 have P47 := P47.below hk
 have Q47 := Q47.below hk
 have H14 := H14.below hk
 have N55 := N55.below hk
 have N61 := N61.below hk
 have H16 := H16.below hk
 clear hk
 clear cc
 go_wp2_with fail
 have cc := of_any (m : Int) (by omega) (by omega) w12
 refine cc.mono ?_
 rintro e w13 ⟨s76, a76, n76, c76, rfl, N76, hk⟩
 have k76 := of_len N76 (by omega) (by omega)
 have hB := hB.trans (hk.mono hB.size)
 have H8 := H8.below hk
 have H9 := H9.below hk
 have P35 := P35.below hk
 have Q35 := Q35.below hk
 have H10 := H10.below hk
 have H12 := H12.below hk
 have P47 := P47.below hk
 have Q47 := Q47.below hk
 have H14 := H14.below hk
 have N55 := N55.below hk
 have N61 := N61.below hk
 have H16 := H16.below hk
 clear hk
 clear cc
 go_wp2_with fail
 have cc := of_any (n : Int) (by omega) (by omega) w13
 refine cc.mono ?_
 rintro e w14 ⟨s78, a78, n78, c78, rfl, N78, hk⟩
 have k78 := of_len N78 (by omega) (by omega)
 have hB := hB.trans (hk.mono hB.size)
 have H8 := H8.below hk
 have H9 := H9.below hk
 have P35 := P35.below hk
 have Q35 := Q35.below hk
 have H10 := H10.below hk
 have H12 := H12.below hk
 have P47 := P47.below hk
 have Q47 := Q47.below hk
 have H14 := H14.below hk
 have N55 := N55.below hk
 have N61 := N61.below hk
 have H16 := H16.below hk
 have N76 := N76.below hk
 clear hk
 clear cc
 go_wp2_with fail
 have cc := cmp_any s76 s78 a76 a78 n76 n78 c76 c78 (m : Int) (n : Int) k76 k78 w14 N76 N78
 rw [K79.out] at cc
 refine cc.mono ?_
 rintro e w15 ⟨rfl, hk⟩
 have hB := hB.trans (hk.mono hB.size)
 have H8 := H8.below hk
 have H9 := H9.below hk
 have P35 := P35.below hk
 have Q35 := Q35.below hk
 have H10 := H10.below hk
 have H12 := H12.below hk
 have P47 := P47.below hk
 have Q47 := Q47.below hk
 have H14 := H14.below hk
 have N55 := N55.below hk
 have N61 := N61.below hk
 have H16 := H16.below hk
 have N76 := N76.below hk
 have N78 := N78.below hk
 clear hk
 clear cc
 clear N55
 clear N61
 clear N76
 clear N78
 obtain ⟨⟨x00, x01, x02, x03⟩, xz00, xz01, xz02, xz03⟩ := id H14.box
 go_wp2_with fail
 clear x00 x01 x02 x03 xz00 xz01 xz02 xz03
 have cc := none_yes s47 t47 a47 b47 n47 m47 c47 d47 kk47 ll47 w15 P47 Q47
 refine cc.mono ?_
 rintro e w16 ⟨rfl, hk⟩
 have hB := hB.trans (hk.mono hB.size)
 have H8 := H8.below hk
 have H9 := H9.below hk
 have P35 := P35.below hk
 have Q35 := Q35.below hk
 have H10 := H10.below hk
 have H12 := H12.below hk
 have P47 := P47.below hk
 have Q47 := Q47.below hk
 have H14 := H14.below hk
 have H16 := H16.below hk
 clear hk
 clear cc
 go_wp2_with fail
 obtain ⟨S12, hS12⟩ : ∃ b, w16.drew.heap.size = b := ⟨_, rfl⟩
 have lS : S12 ≤ w16.drew.heap.size := by omega
 clear hS12
 have hB := hB.drew
 have H8 := H8.below (Below.drew (Below.refl w16.heap.size w16))
 have H9 := H9.below (Below.drew (Below.refl w16.heap.size w16))
 have P35 := P35.below (Below.drew (Below.refl w16.heap.size w16))
 have Q35 := Q35.below (Below.drew (Below.refl w16.heap.size w16))
 have H10 := H10.below (Below.drew (Below.refl w16.heap.size w16))
 have H12 := H12.below (Below.drew (Below.refl w16.heap.size w16))
 have P47 := P47.below (Below.drew (Below.refl w16.heap.size w16))
 have Q47 := Q47.below (Below.drew (Below.refl w16.heap.size w16))
 have H14 := H14.below (Below.drew (Below.refl w16.heap.size w16))
 have H16 := H16.below (Below.drew (Below.refl w16.heap.size w16))
 refine wp_region_held_drew (S := fun w' => Below (S12) w16.drew w') (by kernel_rfl) (Below.refl _ _) (fun hHeld => ?_)
 obtain ⟨E12, hWE⟩ : ∃ W, w16.drew = W := ⟨_, rfl⟩
 rw [hWE] at hB H8 H9 P35 Q35 H10 H12 P47 Q47 H14 H16 hHeld lS ⊢
 clear hWE
 have hE := Below.refl E12.heap.size E12
 have hS : Below S12 E12 E12 := Below.refl _ _
 refine tk 0 (.int .i64 (m : Int)) 103 rfl rfl ?_
 simp only [Act.put, pA, pB, pC]
 refine tk 1 (.int .i64 (n : Int)) 104 rfl rfl ?_
 simp only [Act.put, pA, pB, pC]
 refine tk 2 (.bool true) 105 rfl rfl ?_
 simp only [Act.put, pA, pB, pC]
 refine tk 3 (.bool true) 106 rfl rfl ?_
 simp only [Act.put, pA, pB, pC]
 refine tk 4 (.bool false) 107 rfl rfl ?_
 simp only [Act.put, pA, pB, pC]
 refine tk 5 (.bool false) 108 rfl rfl ?_
 simp only [Act.put, pA, pB, pC]
 refine tk 6 (.bool false) 109 rfl rfl ?_
 simp only [Act.put, pA, pB, pC]
 refine tk 7 (undef) 110 rfl rfl ?_ (Or.inr ⟨by rfl, rfl⟩)
 simp only [Act.put, pA, pB, pC]
 refine tk 8 (undef) 111 rfl rfl ?_ (Or.inr ⟨by rfl, rfl⟩)
 simp only [Act.put, pA, pB, pC]
 refine tk 9 (undef) 112 rfl rfl ?_ (Or.inr ⟨by rfl, rfl⟩)
 simp only [Act.put, pA, pB, pC]
 refine tk 10 (undef) 113 rfl rfl ?_ (Or.inr ⟨by rfl, rfl⟩)
 simp only [Act.put, pA, pB, pC]
 refine tk 11 (undef) 114 rfl rfl ?_ (Or.inr ⟨by rfl, rfl⟩)
 simp only [Act.put, pA, pB, pC]
 refine tk 12 (undef) 115 rfl rfl ?_ (Or.inr ⟨by rfl, rfl⟩)
 simp only [Act.put, pA, pB, pC]
 refine tk 13 (undef) 116 rfl rfl ?_ (Or.inr ⟨by rfl, rfl⟩)
 simp only [Act.put, pA, pB, pC]
 refine tk 14 (undef) 117 rfl rfl ?_ (Or.inr ⟨by rfl, rfl⟩)
 simp only [Act.put, pA, pB, pC]
 refine tk 15 (.bool false) 118 rfl rfl ?_
 simp only [Act.put, pA, pB, pC]
 refine wpAnyH_done (by kernel_rfl) ?_ _
 have hB := hB.trans (hE.mono hB.size)
 obtain ⟨⟨x00, x01, x02, x03⟩, xz00, xz01, xz02, xz03⟩ := id H10.box
 go_wp2_with fail
 clear x00 x01 x02 x03 xz00 xz01 xz02 xz03
 have cc := none_yes s35 t35 a35 b35 n35 m35 c35 d35 kk35 ll35 E12 P35 Q35
 refine cc.mono ?_
 rintro e w17 ⟨rfl, hk⟩
 have hB := hB.trans (hk.mono hB.size)
 have H8 := H8.below hk
 have H9 := H9.below hk
 have P35 := P35.below hk
 have Q35 := Q35.below hk
 have H10 := H10.below hk
 have H12 := H12.below hk
 have P47 := P47.below hk
 have Q47 := Q47.below hk
 have H14 := H14.below hk
 have H16 := H16.below hk
 clear hk
 clear cc
 go_wp2
 go_ret
 exact ⟨rfl, hB⟩
set_option maxRecDepth 100000 in
set_option maxHeartbeats 32000000 in
theorem rlong_Bnelo (z0 z1 : Int) (m n : Nat) (_h0 : 0 ≤ z0) (_h1 : z0 ≤ 65535) (_g0 : 0 ≤ z1) (_g1 : z1 ≤ 65535) (e0 : z0 % 2048 = (m : Int)) (e1 : z1 % 2048 = (n : Int)) (f0 : Int.tmod z0 2048 = (m : Int)) (f1 : Int.tmod z1 2048 = (n : Int)) (hm : m < 2048) (hn : n < 2048) (hmn : ¬ m + n < 2048) (hne : m ≠ n) (hg0 : max m n < 2047) (w : World) (ht : Pow10 w) (hsy : Syn w) :
 Calls Tryz.prog 9 #[.int .u16 z0, .int .u16 z1] w fun e w' => e = .returned (.bool true) ∧ Below w.heap.size w w' := by
 have HMul : Hid (mulRO (some (powR m)) (some (powR n)) = none) := mul_pow_none hmn
 have HQ1 := (quot_pow m n).1
 have HQ2 := (quot_pow m n).2
 have HDiv : Hid (divRO (some (powR m)) (some (powR n)) = some (Rat.divInt (powZ m) (powZ n))) := div_pow hm hn
 obtain ⟨Q, hQ⟩ : ∃ Q, Rat.divInt (powZ m) (powZ n) = Q := ⟨_, rfl⟩
 rw [hQ] at HQ1 HQ2 HDiv
 clear hQ
 obtain ⟨k, hk'⟩ : ∃ k, min m n = k := ⟨_, rfl⟩
 rw [hk'] at HQ1 HQ2
 obtain ⟨u, hu⟩ : ∃ u, m - k = u := ⟨_, rfl⟩
 obtain ⟨v, hv⟩ : ∃ v, n - k = v := ⟨_, rfl⟩
 rw [hu] at HQ1
 rw [hv] at HQ2
 obtain ⟨g, hg⟩ : ∃ g, max m n = g := ⟨_, rfl⟩
 have i1 : min (m : Int) (n : Int) = (k : Int) := by omega
 have i2 : max (m : Int) (n : Int) = (g : Int) := by omega
 have i3 : (m : Int) - (k : Int) = (u : Int) := by omega
 have i4 : (n : Int) - (k : Int) = (v : Int) := by omega
 have hu2 : u < 2048 := by omega
 have hv2 : v < 2048 := by omega
 have hQ1 := hide HQ1
 have hQ2 := hide HQ2
 clear HQ1 HQ2
 obtain ⟨O, hO⟩ : ∃ O, cmpZ (m : Int) (n : Int) = O := ⟨_, rfl⟩
 have K74 : Hid (cmpRO (some (powR m)) (some (powR n)) = O) := (cmp_pow m n).trans hO
 have K79 := hide hO
 clear hO
 obtain ⟨sz, hsz⟩ := addR_other hm hn hne
 have HAdd : Hid (addRO (some (powR m)) (some (powR n)) = some sz) := hide hsz
 clear hsz
 have v1 : IntKind.i64.wrap ((m : Int) + 1) = (m : Int) + 1 := by simp only [IntKind.wrap, IntKind.bits, IntKind.signed]; simp; omega
 have v2 : IntKind.i64.wrap ((m : Int) + (n : Int)) = (m : Int) + (n : Int) := by simp only [IntKind.wrap, IntKind.bits, IntKind.signed]; simp; omega
 have t86 : decide ((g : Int) < 2047) = true := decide_eq_true (by omega)
 have t90 : ((m : Int) == (n : Int)) = false := by simp; omega
 have tn1 : ((m : Int) != (n : Int)) = true := by simp; omega
 have tn2 : decide ((m : Int) = (n : Int)) = false := decide_eq_false (by omega)
 have t122 : decide ((m : Int) + (n : Int) < 2048) = false := decide_eq_false (by omega)
 clear hu hv hg hk'  hg0
 go_enter Tryz.func9, Tryz.ntmps9
 have hB := Below.refl w.heap.size w
 go_wp2_with fail
 have cc := sanity3_true w ht hsy
 refine cc.mono ?_
 rintro e w1 ⟨rfl, hk⟩
 have hB := hB.trans (hk.mono hB.size)
 clear hk
 clear cc
 go_wp2_with fail
 have cc := power_z ((m : Int)) m (by omega) (by omega) w1
 refine cc.mono ?_
 rintro e w2 ⟨s27, a27, n27, c27, rfl, N25, k25, hk⟩
 have hB := hB.trans (hk.mono hB.size)
 clear hk
 clear cc
 go_wp2_with fail
 have cc := power_z (0) 0 (by omega) (by omega) w2
 refine cc.mono ?_
 rintro e w3 ⟨t27, b27, m27, d27, rfl, N26, k26, hk⟩
 have hB := hB.trans (hk.mono hB.size)
 have N25 := N25.below hk
 clear hk
 clear cc
 go_wp2_with fail
 have cc := power_z ((n : Int)) n (by omega) (by omega) w3
 refine cc.mono ?_
 rintro e w4 ⟨s31, a31, n31, c31, rfl, N29, k29, hk⟩
 have hB := hB.trans (hk.mono hB.size)
 have N25 := N25.below hk
 have N26 := N26.below hk
 clear hk
 clear cc
 go_wp2_with fail
 have cc := power_z (0) 0 (by omega) (by omega) w4
 refine cc.mono ?_
 rintro e w5 ⟨t31, b31, m31, d31, rfl, N30, k30, hk⟩
 have hB := hB.trans (hk.mono hB.size)
 have N25 := N25.below hk
 have N26 := N26.below hk
 have N29 := N29.below hk
 clear hk
 clear cc
 obtain ⟨Z27, hZ27⟩ : ∃ Z, (w5.alloc (Obj.cells #[.bool false, .slice none 0 0, .bool false, .slice none 0 0] 27)).alloc (Obj.cells #[.bool false, .slice none 0 0, .bool false, .slice none 0 0] 27) = Z := ⟨_, rfl⟩
 obtain ⟨W27, hW27⟩ : ∃ W, (((((((Z27.setCell ⟨w5.heap.size, 0, none⟩ (.bool s27)).setCell ⟨w5.heap.size, 1, none⟩ (.slice a27 n27 c27)).setCell ⟨w5.heap.size, 2, none⟩ (.bool t27)).setCell ⟨w5.heap.size, 3, none⟩ (.slice b27 m27 d27)).setCell ⟨w5.heap.size + 1, 0, none⟩ (.bool s31)).setCell ⟨w5.heap.size + 1, 1, none⟩ (.slice a31 n31 c31)).setCell ⟨w5.heap.size + 1, 2, none⟩ (.bool t31)).setCell ⟨w5.heap.size + 1, 3, none⟩ (.slice b31 m31 d31) = W := ⟨_, rfl⟩
 obtain ⟨H8, H9, hk, bx27, bx31⟩ := rat_new2 (c1 := c27) (c2 := d27) (e1 := c31) (e2 := d31) hZ27 hW27 (RArg.of (x := (powR m)) N25 N26 k25 k26) (RArg.of (x := (powR n)) N29 N30 k29 k30)
 obtain ⟨B8, hB27⟩ : ∃ B, w5.heap.size = B := ⟨_, rfl⟩
 have l8 : w.heap.size ≤ B8 := by rw [← hB27]; exact hB.size
 have l8_9 : B8 < B8 + 1 := by omega
 have l9 : w.heap.size ≤ B8 + 1 := by omega
 have hB := hB.trans (hk.mono hB.size)
 have N25 := N25.below hk
 have N26 := N26.below hk
 have N29 := N29.below hk
 have N30 := N30.below hk
 clear hk
 rw [hB27] at hW27 H8 H9 bx27 bx31
 obtain ⟨⟨y0, y1, y2, y3⟩, yz0, yz1, yz2, yz3⟩ := id bx27
 obtain ⟨⟨y0', y1', y2', y3'⟩, yz0', yz1', yz2', yz3'⟩ := id bx31
 obtain ⟨⟨x20, x21, x22, x23⟩, xz20, xz21, xz22, xz23⟩ := id H8.box
 obtain ⟨⟨x30, x31, x32, x33⟩, xz30, xz31, xz32, xz33⟩ := id H9.box
 go_wp2_with fail
 try rw [hW27]
 try rw [hB27]
 clear hW27 hB27
 clear y0 y1 y2 y3 yz0 yz1 yz2 yz3 y0' y1' y2' y3' yz0' yz1' yz2' yz3' x20 x21 x22 x23 xz20 xz21 xz22 xz23 x30 x31 x32 x33 xz30 xz31 xz32 xz33
 have cc := mul_r s27 t27 s31 t31 a27 b27 a31 b31 n27 m27 n31 m31 c27 d27 c31 d31 (some (powR m)) (some (powR n)) W27 H8.arg H9.arg
 rw [HMul.out] at cc
 refine cc.mono ?_
 rintro e w6 ⟨s35, a35, n35, c35, t35, b35, m35, d35, rfl, P1, P2, k1, k2, hk⟩
 have hB := hB.trans (hk.mono hB.size)
 have N25 := N25.below hk
 have N26 := N26.below hk
 have N29 := N29.below hk
 have N30 := N30.below hk
 have H8 := H8.below hk
 have H9 := H9.below hk
 clear hk
 clear cc
 have R35 := rarg_of (none) P1 P2 k1 k2
 have P35 := P1
 have Q35 := P2
 have kk35 := k1
 have ll35 := k2
 clear P1 P2 k1 k2
 obtain ⟨Z35, hZ35⟩ : ∃ Z, w6.alloc (Obj.cells #[.bool false, .slice none 0 0, .bool false, .slice none 0 0] 27) = Z := ⟨_, rfl⟩
 obtain ⟨W35, hW35⟩ : ∃ W, (((Z35.setCell ⟨w6.heap.size, 0, none⟩ (.bool s35)).setCell ⟨w6.heap.size, 1, none⟩ (.slice a35 n35 c35)).setCell ⟨w6.heap.size, 2, none⟩ (.bool t35)).setCell ⟨w6.heap.size, 3, none⟩ (.slice b35 m35 d35) = W := ⟨_, rfl⟩
 obtain ⟨H10, hk, bx35⟩ := rat_new (c1 := c35) (c2 := d35) hZ35 hW35 R35
 obtain ⟨B10, hB35⟩ : ∃ B, w6.heap.size = B := ⟨_, rfl⟩
 have l10 : w.heap.size ≤ B10 := by rw [← hB35]; exact hB.size
 have l8_10 : B8 < B10 := by rw [← hB35]; exact H8.box.lt
 have l9_10 : B8 + 1 < B10 := by rw [← hB35]; exact H9.box.lt
 have hB := hB.trans (hk.mono hB.size)
 have N25 := N25.below hk
 have N26 := N26.below hk
 have N29 := N29.below hk
 have N30 := N30.below hk
 have H8 := H8.below hk
 have H9 := H9.below hk
 have R35 := R35.below hk
 have P35 := P35.below hk
 have Q35 := Q35.below hk
 clear hk
 rw [hB35] at hW35 H10 bx35
 clear R35
 clear N25
 clear N26
 clear N29
 clear N30
 obtain ⟨⟨y0, y1, y2, y3⟩, yz0, yz1, yz2, yz3⟩ := id bx35
 obtain ⟨⟨x10, x11, x12, x13⟩, xz10, xz11, xz12, xz13⟩ := id H8.box
 obtain ⟨⟨x20, x21, x22, x23⟩, xz20, xz21, xz22, xz23⟩ := id H9.box
 go_wp2_with fail
 try rw [hW35]
 try rw [hB35]
 clear hW35 hB35
 clear y0 y1 y2 y3 yz0 yz1 yz2 yz3 x10 x11 x12 x13 xz10 xz11 xz12 xz13 x20 x21 x22 x23 xz20 xz21 xz22 xz23
 have cc := div_r s27 t27 s31 t31 a27 b27 a31 b31 n27 m27 n31 m31 c27 d27 c31 d31 (some (powR m)) (some (powR n)) W35 H8.arg H9.arg
 rw [HDiv.out] at cc
 refine cc.mono ?_
 rintro e w7 ⟨s41, a41, n41, c41, t41, b41, m41, d41, rfl, P1, P2, k1, k2, hk⟩
 have hB := hB.trans (hk.mono hB.size)
 have H8 := H8.below hk
 have H9 := H9.below hk
 have P35 := P35.below hk
 have Q35 := Q35.below hk
 have H10 := H10.below hk
 clear hk
 clear cc
 have R41 := rarg_of (some Q) P1 P2 k1 k2
 clear P1 P2 k1 k2
 obtain ⟨Z41, hZ41⟩ : ∃ Z, w7.alloc (Obj.cells #[.bool false, .slice none 0 0, .bool false, .slice none 0 0] 27) = Z := ⟨_, rfl⟩
 obtain ⟨W41, hW41⟩ : ∃ W, (((Z41.setCell ⟨w7.heap.size, 0, none⟩ (.bool s41)).setCell ⟨w7.heap.size, 1, none⟩ (.slice a41 n41 c41)).setCell ⟨w7.heap.size, 2, none⟩ (.bool t41)).setCell ⟨w7.heap.size, 3, none⟩ (.slice b41 m41 d41) = W := ⟨_, rfl⟩
 obtain ⟨H12, hk, bx41⟩ := rat_new (c1 := c41) (c2 := d41) hZ41 hW41 R41
 obtain ⟨B12, hB41⟩ : ∃ B, w7.heap.size = B := ⟨_, rfl⟩
 have l12 : w.heap.size ≤ B12 := by rw [← hB41]; exact hB.size
 have l8_12 : B8 < B12 := by rw [← hB41]; exact H8.box.lt
 have l9_12 : B8 + 1 < B12 := by rw [← hB41]; exact H9.box.lt
 have l10_12 : B10 < B12 := by rw [← hB41]; exact H10.box.lt
 have hB := hB.trans (hk.mono hB.size)
 have H8 := H8.below hk
 have H9 := H9.below hk
 have P35 := P35.below hk
 have Q35 := Q35.below hk
 have H10 := H10.below hk
 have R41 := R41.below hk
 clear hk
 rw [hB41] at hW41 H12 bx41
 clear R41
 obtain ⟨⟨y0, y1, y2, y3⟩, yz0, yz1, yz2, yz3⟩ := id bx41
 obtain ⟨⟨x10, x11, x12, x13⟩, xz10, xz11, xz12, xz13⟩ := id H8.box
 obtain ⟨⟨x20, x21, x22, x23⟩, xz20, xz21, xz22, xz23⟩ := id H9.box
 go_wp2_with fail
 try rw [hW41]
 try rw [hB41]
 clear hW41 hB41
 clear y0 y1 y2 y3 yz0 yz1 yz2 yz3 x10 x11 x12 x13 xz10 xz11 xz12 xz13 x20 x21 x22 x23 xz20 xz21 xz22 xz23
 have cc := add_r s27 t27 s31 t31 a27 b27 a31 b31 n27 m27 n31 m31 c27 d27 c31 d31 (some (powR m)) (some (powR n)) W41 H8.arg H9.arg
 rw [HAdd.out] at cc
 refine cc.mono ?_
 rintro e w8 ⟨s47, a47, n47, c47, t47, b47, m47, d47, rfl, P1, P2, k1, k2, hk⟩
 have hB := hB.trans (hk.mono hB.size)
 have H8 := H8.below hk
 have H9 := H9.below hk
 have P35 := P35.below hk
 have Q35 := Q35.below hk
 have H10 := H10.below hk
 have H12 := H12.below hk
 clear hk
 clear cc
 have R47 := rarg_of (some sz) P1 P2 k1 k2
 clear P1 P2 k1 k2
 obtain ⟨Z47, hZ47⟩ : ∃ Z, w8.alloc (Obj.cells #[.bool false, .slice none 0 0, .bool false, .slice none 0 0] 27) = Z := ⟨_, rfl⟩
 obtain ⟨W47, hW47⟩ : ∃ W, (((Z47.setCell ⟨w8.heap.size, 0, none⟩ (.bool s47)).setCell ⟨w8.heap.size, 1, none⟩ (.slice a47 n47 c47)).setCell ⟨w8.heap.size, 2, none⟩ (.bool t47)).setCell ⟨w8.heap.size, 3, none⟩ (.slice b47 m47 d47) = W := ⟨_, rfl⟩
 obtain ⟨H14, hk, bx47⟩ := rat_new (c1 := c47) (c2 := d47) hZ47 hW47 R47
 obtain ⟨B14, hB47⟩ : ∃ B, w8.heap.size = B := ⟨_, rfl⟩
 have l14 : w.heap.size ≤ B14 := by rw [← hB47]; exact hB.size
 have l8_14 : B8 < B14 := by rw [← hB47]; exact H8.box.lt
 have l9_14 : B8 + 1 < B14 := by rw [← hB47]; exact H9.box.lt
 have l10_14 : B10 < B14 := by rw [← hB47]; exact H10.box.lt
 have l12_14 : B12 < B14 := by rw [← hB47]; exact H12.box.lt
 have hB := hB.trans (hk.mono hB.size)
 have H8 := H8.below hk
 have H9 := H9.below hk
 have P35 := P35.below hk
 have Q35 := Q35.below hk
 have H10 := H10.below hk
 have H12 := H12.below hk
 have R47 := R47.below hk
 clear hk
 rw [hB47] at hW47 H14 bx47
 clear R47
 obtain ⟨⟨y0, y1, y2, y3⟩, yz0, yz1, yz2, yz3⟩ := id bx47
 go_wp2_with fail
 try rw [hW47]
 try rw [hB47]
 clear hW47 hB47
 clear y0 y1 y2 y3 yz0 yz1 yz2 yz3
 have cc := power_z ((u : Int)) u (by omega) (by omega) W47
 refine cc.mono ?_
 rintro e w9 ⟨s62, a62, n62, c62, rfl, N55, k55, hk⟩
 have hB := hB.trans (hk.mono hB.size)
 have H8 := H8.below hk
 have H9 := H9.below hk
 have P35 := P35.below hk
 have Q35 := Q35.below hk
 have H10 := H10.below hk
 have H12 := H12.below hk
 have H14 := H14.below hk
 clear hk
 clear cc
 go_wp2_with fail
 have cc := power_z ((v : Int)) v (by omega) (by omega) w9
 refine cc.mono ?_
 rintro e w10 ⟨t62, b62, m62, d62, rfl, N61, k61, hk⟩
 have hB := hB.trans (hk.mono hB.size)
 have H8 := H8.below hk
 have H9 := H9.below hk
 have P35 := P35.below hk
 have Q35 := Q35.below hk
 have H10 := H10.below hk
 have H12 := H12.below hk
 have H14 := H14.below hk
 have N55 := N55.below hk
 clear hk
 clear cc
 obtain ⟨Z62, hZ62⟩ : ∃ Z, w10.alloc (Obj.cells #[.bool false, .slice none 0 0, .bool false, .slice none 0 0] 27) = Z := ⟨_, rfl⟩
 obtain ⟨W62, hW62⟩ : ∃ W, (((Z62.setCell ⟨w10.heap.size, 0, none⟩ (.bool s62)).setCell ⟨w10.heap.size, 1, none⟩ (.slice a62 n62 c62)).setCell ⟨w10.heap.size, 2, none⟩ (.bool t62)).setCell ⟨w10.heap.size, 3, none⟩ (.slice b62 m62 d62) = W := ⟨_, rfl⟩
 obtain ⟨H16, hk, bx62⟩ := rat_new (c1 := c62) (c2 := d62) hZ62 hW62 (RArg.of (x := Q) (by rw [hQ1.out]; exact N55) (by rw [hQ2.out]; exact N61) k55 k61)
 obtain ⟨B16, hB62⟩ : ∃ B, w10.heap.size = B := ⟨_, rfl⟩
 have l16 : w.heap.size ≤ B16 := by rw [← hB62]; exact hB.size
 have l8_16 : B8 < B16 := by rw [← hB62]; exact H8.box.lt
 have l9_16 : B8 + 1 < B16 := by rw [← hB62]; exact H9.box.lt
 have l10_16 : B10 < B16 := by rw [← hB62]; exact H10.box.lt
 have l12_16 : B12 < B16 := by rw [← hB62]; exact H12.box.lt
 have l14_16 : B14 < B16 := by rw [← hB62]; exact H14.box.lt
 have hB := hB.trans (hk.mono hB.size)
 have H8 := H8.below hk
 have H9 := H9.below hk
 have P35 := P35.below hk
 have Q35 := Q35.below hk
 have H10 := H10.below hk
 have H12 := H12.below hk
 have H14 := H14.below hk
 have N55 := N55.below hk
 have N61 := N61.below hk
 clear hk
 rw [hB62] at hW62 H16 bx62
 obtain ⟨⟨y0, y1, y2, y3⟩, yz0, yz1, yz2, yz3⟩ := id bx62
 obtain ⟨⟨x10, x11, x12, x13⟩, xz10, xz11, xz12, xz13⟩ := id H12.box
 obtain ⟨⟨x20, x21, x22, x23⟩, xz20, xz21, xz22, xz23⟩ := id H16.box
 go_wp2_with fail
 try rw [hW62]
 try rw [hB62]
 clear hW62 hB62
 clear y0 y1 y2 y3 yz0 yz1 yz2 yz3 x10 x11 x12 x13 xz10 xz11 xz12 xz13 x20 x21 x22 x23 xz20 xz21 xz22 xz23
 have cc := same_r s41 t41 s62 t62 a41 b41 a62 b62 n41 m41 n62 m62 c41 d41 c62 d62 _ _ H12.arg.l1 H12.arg.l2 W62 H12.arg.num H12.arg.den H16.arg.num H16.arg.den
 refine cc.mono ?_
 rintro e w11 ⟨rfl, hk⟩
 have hB := hB.trans (hk.mono hB.size)
 have H8 := H8.below hk
 have H9 := H9.below hk
 have P35 := P35.below hk
 have Q35 := Q35.below hk
 have H10 := H10.below hk
 have H12 := H12.below hk
 have H14 := H14.below hk
 have N55 := N55.below hk
 have N61 := N61.below hk
 have H16 := H16.below hk
 clear hk
 clear cc
 obtain ⟨⟨x00, x01, x02, x03⟩, xz00, xz01, xz02, xz03⟩ := id H8.box
 obtain ⟨⟨x10, x11, x12, x13⟩, xz10, xz11, xz12, xz13⟩ := id H9.box
 go_wp2_with fail
 clear x00 x01 x02 x03 xz00 xz01 xz02 xz03 x10 x11 x12 x13 xz10 xz11 xz12 xz13
 have cc := cmp_r s27 t27 s31 t31 a27 b27 a31 b31 n27 m27 n31 m31 c27 d27 c31 d31 (some (powR m)) (some (powR n)) w11 H8.arg H9.arg
 rw [K74.out] at cc
 refine cc.mono ?_
 rintro e w12 ⟨rfl, hk⟩
 have hB := hB.trans (hk.mono hB.size)
 have H8 := H8.below hk
 have H9 := H9.below hk
 have P35 := P35.below hk
 have Q35 := Q35.below hk
 have H10 := H10.below hk
 have H12 := H12.below hk
 have H14 := H14.below hk
 have N55 := N55.below hk
 have N61 := N61.below hk
 have H16 := H16.below hk
 clear hk
 clear cc
 go_wp2_with fail
 have cc := of_any (m : Int) (by omega) (by omega) w12
 refine cc.mono ?_
 rintro e w13 ⟨s76, a76, n76, c76, rfl, N76, hk⟩
 have k76 := of_len N76 (by omega) (by omega)
 have hB := hB.trans (hk.mono hB.size)
 have H8 := H8.below hk
 have H9 := H9.below hk
 have P35 := P35.below hk
 have Q35 := Q35.below hk
 have H10 := H10.below hk
 have H12 := H12.below hk
 have H14 := H14.below hk
 have N55 := N55.below hk
 have N61 := N61.below hk
 have H16 := H16.below hk
 clear hk
 clear cc
 go_wp2_with fail
 have cc := of_any (n : Int) (by omega) (by omega) w13
 refine cc.mono ?_
 rintro e w14 ⟨s78, a78, n78, c78, rfl, N78, hk⟩
 have k78 := of_len N78 (by omega) (by omega)
 have hB := hB.trans (hk.mono hB.size)
 have H8 := H8.below hk
 have H9 := H9.below hk
 have P35 := P35.below hk
 have Q35 := Q35.below hk
 have H10 := H10.below hk
 have H12 := H12.below hk
 have H14 := H14.below hk
 have N55 := N55.below hk
 have N61 := N61.below hk
 have H16 := H16.below hk
 have N76 := N76.below hk
 clear hk
 clear cc
 go_wp2_with fail
 have cc := cmp_any s76 s78 a76 a78 n76 n78 c76 c78 (m : Int) (n : Int) k76 k78 w14 N76 N78
 rw [K79.out] at cc
 refine cc.mono ?_
 rintro e w15 ⟨rfl, hk⟩
 have hB := hB.trans (hk.mono hB.size)
 have H8 := H8.below hk
 have H9 := H9.below hk
 have P35 := P35.below hk
 have Q35 := Q35.below hk
 have H10 := H10.below hk
 have H12 := H12.below hk
 have H14 := H14.below hk
 have N55 := N55.below hk
 have N61 := N61.below hk
 have H16 := H16.below hk
 have N76 := N76.below hk
 have N78 := N78.below hk
 clear hk
 clear cc
 clear N55
 clear N61
 clear N76
 clear N78
 go_wp2_with fail
 obtain ⟨S12, hS12⟩ : ∃ b, w15.drew.heap.size = b := ⟨_, rfl⟩
 have lS : S12 ≤ w15.drew.heap.size := by omega
 clear hS12
 have hB := hB.drew
 have H8 := H8.below (Below.drew (Below.refl w15.heap.size w15))
 have H9 := H9.below (Below.drew (Below.refl w15.heap.size w15))
 have P35 := P35.below (Below.drew (Below.refl w15.heap.size w15))
 have Q35 := Q35.below (Below.drew (Below.refl w15.heap.size w15))
 have H10 := H10.below (Below.drew (Below.refl w15.heap.size w15))
 have H12 := H12.below (Below.drew (Below.refl w15.heap.size w15))
 have H14 := H14.below (Below.drew (Below.refl w15.heap.size w15))
 have H16 := H16.below (Below.drew (Below.refl w15.heap.size w15))
 refine wp_region_held_drew (S := fun w' => Below (S12) w15.drew w') (by kernel_rfl) (Below.refl _ _) (fun hHeld => ?_)
 obtain ⟨E12, hWE⟩ : ∃ W, w15.drew = W := ⟨_, rfl⟩
 rw [hWE] at hB H8 H9 P35 Q35 H10 H12 H14 H16 hHeld lS ⊢
 clear hWE
 have hE := Below.refl E12.heap.size E12
 have hS : Below S12 E12 E12 := Below.refl _ _
 refine tk 0 (.int .i64 (m : Int)) 103 rfl rfl ?_
 simp only [Act.put, pA, pB, pC]
 refine tk 1 (.int .i64 (n : Int)) 104 rfl rfl ?_
 simp only [Act.put, pA, pB, pC]
 refine tk 2 (.bool false) 105 rfl rfl ?_
 simp only [Act.put, pA, pB, pC]
 refine tk 3 (.bool false) 106 rfl rfl ?_
 simp only [Act.put, pA, pB, pC]
 refine tk 4 (undef) 107 rfl rfl ?_ (Or.inr ⟨by rfl, rfl⟩)
 simp only [Act.put, pA, pB, pC]
 refine tk 5 (.bool false) 108 rfl rfl ?_
 simp only [Act.put, pA, pB, pC]
 refine tk 6 (.bool false) 109 rfl rfl ?_
 simp only [Act.put, pA, pB, pC]
 refine tk 7 (undef) 110 rfl rfl ?_ (Or.inr ⟨by rfl, rfl⟩)
 simp only [Act.put, pA, pB, pC]
 refine tk 8 (undef) 111 rfl rfl ?_ (Or.inr ⟨by rfl, rfl⟩)
 simp only [Act.put, pA, pB, pC]
 refine tk 9 (undef) 112 rfl rfl ?_ (Or.inr ⟨by rfl, rfl⟩)
 simp only [Act.put, pA, pB, pC]
 refine tk 10 (undef) 113 rfl rfl ?_ (Or.inr ⟨by rfl, rfl⟩)
 simp only [Act.put, pA, pB, pC]
 refine tk 11 (undef) 114 rfl rfl ?_ (Or.inr ⟨by rfl, rfl⟩)
 simp only [Act.put, pA, pB, pC]
 refine tk 12 (undef) 115 rfl rfl ?_ (Or.inr ⟨by rfl, rfl⟩)
 simp only [Act.put, pA, pB, pC]
 refine tk 13 (undef) 116 rfl rfl ?_ (Or.inr ⟨by rfl, rfl⟩)
 simp only [Act.put, pA, pB, pC]
 refine tk 14 (undef) 117 rfl rfl ?_ (Or.inr ⟨by rfl, rfl⟩)
 simp only [Act.put, pA, pB, pC]
 refine tk 15 (.bool false) 118 rfl rfl ?_
 simp only [Act.put, pA, pB, pC]
 refine wpAnyH_done (by kernel_rfl) ?_ _
 have hB := hB.trans (hE.mono hB.size)
 obtain ⟨⟨x00, x01, x02, x03⟩, xz00, xz01, xz02, xz03⟩ := id H10.box
 go_wp2_with fail
 clear x00 x01 x02 x03 xz00 xz01 xz02 xz03
 have cc := none_yes s35 t35 a35 b35 n35 m35 c35 d35 kk35 ll35 E12 P35 Q35
 refine cc.mono ?_
 rintro e w16 ⟨rfl, hk⟩
 have hB := hB.trans (hk.mono hB.size)
 have H8 := H8.below hk
 have H9 := H9.below hk
 have P35 := P35.below hk
 have Q35 := Q35.below hk
 have H10 := H10.below hk
 have H12 := H12.below hk
 have H14 := H14.below hk
 have H16 := H16.below hk
 clear hk
 clear cc
 go_wp2
 go_ret
 exact ⟨rfl, hB⟩
set_option maxRecDepth 100000 in
set_option maxHeartbeats 32000000 in
theorem rlong_Bnehi (z0 z1 : Int) (m n : Nat) (_h0 : 0 ≤ z0) (_h1 : z0 ≤ 65535) (_g0 : 0 ≤ z1) (_g1 : z1 ≤ 65535) (e0 : z0 % 2048 = (m : Int)) (e1 : z1 % 2048 = (n : Int)) (f0 : Int.tmod z0 2048 = (m : Int)) (f1 : Int.tmod z1 2048 = (n : Int)) (hm : m < 2048) (hn : n < 2048) (hmn : ¬ m + n < 2048) (hne : m ≠ n) (hg0 : ¬ max m n < 2047) (w : World) (ht : Pow10 w) (hsy : Syn w) :
 Calls Tryz.prog 9 #[.int .u16 z0, .int .u16 z1] w fun e w' => e = .returned (.bool true) ∧ Below w.heap.size w w' := by
 have HMul : Hid (mulRO (some (powR m)) (some (powR n)) = none) := mul_pow_none hmn
 have HQ1 := (quot_pow m n).1
 have HQ2 := (quot_pow m n).2
 have HDiv : Hid (divRO (some (powR m)) (some (powR n)) = some (Rat.divInt (powZ m) (powZ n))) := div_pow hm hn
 obtain ⟨Q, hQ⟩ : ∃ Q, Rat.divInt (powZ m) (powZ n) = Q := ⟨_, rfl⟩
 rw [hQ] at HQ1 HQ2 HDiv
 clear hQ
 obtain ⟨k, hk'⟩ : ∃ k, min m n = k := ⟨_, rfl⟩
 rw [hk'] at HQ1 HQ2
 obtain ⟨u, hu⟩ : ∃ u, m - k = u := ⟨_, rfl⟩
 obtain ⟨v, hv⟩ : ∃ v, n - k = v := ⟨_, rfl⟩
 rw [hu] at HQ1
 rw [hv] at HQ2
 obtain ⟨g, hg⟩ : ∃ g, max m n = g := ⟨_, rfl⟩
 have i1 : min (m : Int) (n : Int) = (k : Int) := by omega
 have i2 : max (m : Int) (n : Int) = (g : Int) := by omega
 have i3 : (m : Int) - (k : Int) = (u : Int) := by omega
 have i4 : (n : Int) - (k : Int) = (v : Int) := by omega
 have hu2 : u < 2048 := by omega
 have hv2 : v < 2048 := by omega
 have hQ1 := hide HQ1
 have hQ2 := hide HQ2
 clear HQ1 HQ2
 obtain ⟨O, hO⟩ : ∃ O, cmpZ (m : Int) (n : Int) = O := ⟨_, rfl⟩
 have K74 : Hid (cmpRO (some (powR m)) (some (powR n)) = O) := (cmp_pow m n).trans hO
 have K79 := hide hO
 clear hO
 obtain ⟨sz, hsz⟩ := addR_other hm hn hne
 have HAdd : Hid (addRO (some (powR m)) (some (powR n)) = some sz) := hide hsz
 clear hsz
 have v1 : IntKind.i64.wrap ((m : Int) + 1) = (m : Int) + 1 := by simp only [IntKind.wrap, IntKind.bits, IntKind.signed]; simp; omega
 have v2 : IntKind.i64.wrap ((m : Int) + (n : Int)) = (m : Int) + (n : Int) := by simp only [IntKind.wrap, IntKind.bits, IntKind.signed]; simp; omega
 have t86 : decide ((g : Int) < 2047) = false := decide_eq_false (by omega)
 have t90 : ((m : Int) == (n : Int)) = false := by simp; omega
 have tn1 : ((m : Int) != (n : Int)) = true := by simp; omega
 have tn2 : decide ((m : Int) = (n : Int)) = false := decide_eq_false (by omega)
 have t122 : decide ((m : Int) + (n : Int) < 2048) = false := decide_eq_false (by omega)
 clear hu hv hg hk'  hg0
 go_enter Tryz.func9, Tryz.ntmps9
 have hB := Below.refl w.heap.size w
 go_wp2_with fail
 have cc := sanity3_true w ht hsy
 refine cc.mono ?_
 rintro e w1 ⟨rfl, hk⟩
 have hB := hB.trans (hk.mono hB.size)
 clear hk
 clear cc
 go_wp2_with fail
 have cc := power_z ((m : Int)) m (by omega) (by omega) w1
 refine cc.mono ?_
 rintro e w2 ⟨s27, a27, n27, c27, rfl, N25, k25, hk⟩
 have hB := hB.trans (hk.mono hB.size)
 clear hk
 clear cc
 go_wp2_with fail
 have cc := power_z (0) 0 (by omega) (by omega) w2
 refine cc.mono ?_
 rintro e w3 ⟨t27, b27, m27, d27, rfl, N26, k26, hk⟩
 have hB := hB.trans (hk.mono hB.size)
 have N25 := N25.below hk
 clear hk
 clear cc
 go_wp2_with fail
 have cc := power_z ((n : Int)) n (by omega) (by omega) w3
 refine cc.mono ?_
 rintro e w4 ⟨s31, a31, n31, c31, rfl, N29, k29, hk⟩
 have hB := hB.trans (hk.mono hB.size)
 have N25 := N25.below hk
 have N26 := N26.below hk
 clear hk
 clear cc
 go_wp2_with fail
 have cc := power_z (0) 0 (by omega) (by omega) w4
 refine cc.mono ?_
 rintro e w5 ⟨t31, b31, m31, d31, rfl, N30, k30, hk⟩
 have hB := hB.trans (hk.mono hB.size)
 have N25 := N25.below hk
 have N26 := N26.below hk
 have N29 := N29.below hk
 clear hk
 clear cc
 obtain ⟨Z27, hZ27⟩ : ∃ Z, (w5.alloc (Obj.cells #[.bool false, .slice none 0 0, .bool false, .slice none 0 0] 27)).alloc (Obj.cells #[.bool false, .slice none 0 0, .bool false, .slice none 0 0] 27) = Z := ⟨_, rfl⟩
 obtain ⟨W27, hW27⟩ : ∃ W, (((((((Z27.setCell ⟨w5.heap.size, 0, none⟩ (.bool s27)).setCell ⟨w5.heap.size, 1, none⟩ (.slice a27 n27 c27)).setCell ⟨w5.heap.size, 2, none⟩ (.bool t27)).setCell ⟨w5.heap.size, 3, none⟩ (.slice b27 m27 d27)).setCell ⟨w5.heap.size + 1, 0, none⟩ (.bool s31)).setCell ⟨w5.heap.size + 1, 1, none⟩ (.slice a31 n31 c31)).setCell ⟨w5.heap.size + 1, 2, none⟩ (.bool t31)).setCell ⟨w5.heap.size + 1, 3, none⟩ (.slice b31 m31 d31) = W := ⟨_, rfl⟩
 obtain ⟨H8, H9, hk, bx27, bx31⟩ := rat_new2 (c1 := c27) (c2 := d27) (e1 := c31) (e2 := d31) hZ27 hW27 (RArg.of (x := (powR m)) N25 N26 k25 k26) (RArg.of (x := (powR n)) N29 N30 k29 k30)
 obtain ⟨B8, hB27⟩ : ∃ B, w5.heap.size = B := ⟨_, rfl⟩
 have l8 : w.heap.size ≤ B8 := by rw [← hB27]; exact hB.size
 have l8_9 : B8 < B8 + 1 := by omega
 have l9 : w.heap.size ≤ B8 + 1 := by omega
 have hB := hB.trans (hk.mono hB.size)
 have N25 := N25.below hk
 have N26 := N26.below hk
 have N29 := N29.below hk
 have N30 := N30.below hk
 clear hk
 rw [hB27] at hW27 H8 H9 bx27 bx31
 obtain ⟨⟨y0, y1, y2, y3⟩, yz0, yz1, yz2, yz3⟩ := id bx27
 obtain ⟨⟨y0', y1', y2', y3'⟩, yz0', yz1', yz2', yz3'⟩ := id bx31
 obtain ⟨⟨x20, x21, x22, x23⟩, xz20, xz21, xz22, xz23⟩ := id H8.box
 obtain ⟨⟨x30, x31, x32, x33⟩, xz30, xz31, xz32, xz33⟩ := id H9.box
 go_wp2_with fail
 try rw [hW27]
 try rw [hB27]
 clear hW27 hB27
 clear y0 y1 y2 y3 yz0 yz1 yz2 yz3 y0' y1' y2' y3' yz0' yz1' yz2' yz3' x20 x21 x22 x23 xz20 xz21 xz22 xz23 x30 x31 x32 x33 xz30 xz31 xz32 xz33
 have cc := mul_r s27 t27 s31 t31 a27 b27 a31 b31 n27 m27 n31 m31 c27 d27 c31 d31 (some (powR m)) (some (powR n)) W27 H8.arg H9.arg
 rw [HMul.out] at cc
 refine cc.mono ?_
 rintro e w6 ⟨s35, a35, n35, c35, t35, b35, m35, d35, rfl, P1, P2, k1, k2, hk⟩
 have hB := hB.trans (hk.mono hB.size)
 have N25 := N25.below hk
 have N26 := N26.below hk
 have N29 := N29.below hk
 have N30 := N30.below hk
 have H8 := H8.below hk
 have H9 := H9.below hk
 clear hk
 clear cc
 have R35 := rarg_of (none) P1 P2 k1 k2
 have P35 := P1
 have Q35 := P2
 have kk35 := k1
 have ll35 := k2
 clear P1 P2 k1 k2
 obtain ⟨Z35, hZ35⟩ : ∃ Z, w6.alloc (Obj.cells #[.bool false, .slice none 0 0, .bool false, .slice none 0 0] 27) = Z := ⟨_, rfl⟩
 obtain ⟨W35, hW35⟩ : ∃ W, (((Z35.setCell ⟨w6.heap.size, 0, none⟩ (.bool s35)).setCell ⟨w6.heap.size, 1, none⟩ (.slice a35 n35 c35)).setCell ⟨w6.heap.size, 2, none⟩ (.bool t35)).setCell ⟨w6.heap.size, 3, none⟩ (.slice b35 m35 d35) = W := ⟨_, rfl⟩
 obtain ⟨H10, hk, bx35⟩ := rat_new (c1 := c35) (c2 := d35) hZ35 hW35 R35
 obtain ⟨B10, hB35⟩ : ∃ B, w6.heap.size = B := ⟨_, rfl⟩
 have l10 : w.heap.size ≤ B10 := by rw [← hB35]; exact hB.size
 have l8_10 : B8 < B10 := by rw [← hB35]; exact H8.box.lt
 have l9_10 : B8 + 1 < B10 := by rw [← hB35]; exact H9.box.lt
 have hB := hB.trans (hk.mono hB.size)
 have N25 := N25.below hk
 have N26 := N26.below hk
 have N29 := N29.below hk
 have N30 := N30.below hk
 have H8 := H8.below hk
 have H9 := H9.below hk
 have R35 := R35.below hk
 have P35 := P35.below hk
 have Q35 := Q35.below hk
 clear hk
 rw [hB35] at hW35 H10 bx35
 clear R35
 clear N25
 clear N26
 clear N29
 clear N30
 obtain ⟨⟨y0, y1, y2, y3⟩, yz0, yz1, yz2, yz3⟩ := id bx35
 obtain ⟨⟨x10, x11, x12, x13⟩, xz10, xz11, xz12, xz13⟩ := id H8.box
 obtain ⟨⟨x20, x21, x22, x23⟩, xz20, xz21, xz22, xz23⟩ := id H9.box
 go_wp2_with fail
 try rw [hW35]
 try rw [hB35]
 clear hW35 hB35
 clear y0 y1 y2 y3 yz0 yz1 yz2 yz3 x10 x11 x12 x13 xz10 xz11 xz12 xz13 x20 x21 x22 x23 xz20 xz21 xz22 xz23
 have cc := div_r s27 t27 s31 t31 a27 b27 a31 b31 n27 m27 n31 m31 c27 d27 c31 d31 (some (powR m)) (some (powR n)) W35 H8.arg H9.arg
 rw [HDiv.out] at cc
 refine cc.mono ?_
 rintro e w7 ⟨s41, a41, n41, c41, t41, b41, m41, d41, rfl, P1, P2, k1, k2, hk⟩
 have hB := hB.trans (hk.mono hB.size)
 have H8 := H8.below hk
 have H9 := H9.below hk
 have P35 := P35.below hk
 have Q35 := Q35.below hk
 have H10 := H10.below hk
 clear hk
 clear cc
 have R41 := rarg_of (some Q) P1 P2 k1 k2
 clear P1 P2 k1 k2
 obtain ⟨Z41, hZ41⟩ : ∃ Z, w7.alloc (Obj.cells #[.bool false, .slice none 0 0, .bool false, .slice none 0 0] 27) = Z := ⟨_, rfl⟩
 obtain ⟨W41, hW41⟩ : ∃ W, (((Z41.setCell ⟨w7.heap.size, 0, none⟩ (.bool s41)).setCell ⟨w7.heap.size, 1, none⟩ (.slice a41 n41 c41)).setCell ⟨w7.heap.size, 2, none⟩ (.bool t41)).setCell ⟨w7.heap.size, 3, none⟩ (.slice b41 m41 d41) = W := ⟨_, rfl⟩
 obtain ⟨H12, hk, bx41⟩ := rat_new (c1 := c41) (c2 := d41) hZ41 hW41 R41
 obtain ⟨B12, hB41⟩ : ∃ B, w7.heap.size = B := ⟨_, rfl⟩
 have l12 : w.heap.size ≤ B12 := by rw [← hB41]; exact hB.size
 have l8_12 : B8 < B12 := by rw [← hB41]; exact H8.box.lt
 have l9_12 : B8 + 1 < B12 := by rw [← hB41]; exact H9.box.lt
 have l10_12 : B10 < B12 := by rw [← hB41]; exact H10.box.lt
 have hB := hB.trans (hk.mono hB.size)
 have H8 := H8.below hk
 have H9 := H9.below hk
 have P35 := P35.below hk
 have Q35 := Q35.below hk
 have H10 := H10.below hk
 have R41 := R41.below hk
 clear hk
 rw [hB41] at hW41 H12 bx41
 clear R41
 obtain ⟨⟨y0, y1, y2, y3⟩, yz0, yz1, yz2, yz3⟩ := id bx41
 obtain ⟨⟨x10, x11, x12, x13⟩, xz10, xz11, xz12, xz13⟩ := id H8.box
 obtain ⟨⟨x20, x21, x22, x23⟩, xz20, xz21, xz22, xz23⟩ := id H9.box
 go_wp2_with fail
 try rw [hW41]
 try rw [hB41]
 clear hW41 hB41
 clear y0 y1 y2 y3 yz0 yz1 yz2 yz3 x10 x11 x12 x13 xz10 xz11 xz12 xz13 x20 x21 x22 x23 xz20 xz21 xz22 xz23
 have cc := add_r s27 t27 s31 t31 a27 b27 a31 b31 n27 m27 n31 m31 c27 d27 c31 d31 (some (powR m)) (some (powR n)) W41 H8.arg H9.arg
 rw [HAdd.out] at cc
 refine cc.mono ?_
 rintro e w8 ⟨s47, a47, n47, c47, t47, b47, m47, d47, rfl, P1, P2, k1, k2, hk⟩
 have hB := hB.trans (hk.mono hB.size)
 have H8 := H8.below hk
 have H9 := H9.below hk
 have P35 := P35.below hk
 have Q35 := Q35.below hk
 have H10 := H10.below hk
 have H12 := H12.below hk
 clear hk
 clear cc
 have R47 := rarg_of (some sz) P1 P2 k1 k2
 clear P1 P2 k1 k2
 obtain ⟨Z47, hZ47⟩ : ∃ Z, w8.alloc (Obj.cells #[.bool false, .slice none 0 0, .bool false, .slice none 0 0] 27) = Z := ⟨_, rfl⟩
 obtain ⟨W47, hW47⟩ : ∃ W, (((Z47.setCell ⟨w8.heap.size, 0, none⟩ (.bool s47)).setCell ⟨w8.heap.size, 1, none⟩ (.slice a47 n47 c47)).setCell ⟨w8.heap.size, 2, none⟩ (.bool t47)).setCell ⟨w8.heap.size, 3, none⟩ (.slice b47 m47 d47) = W := ⟨_, rfl⟩
 obtain ⟨H14, hk, bx47⟩ := rat_new (c1 := c47) (c2 := d47) hZ47 hW47 R47
 obtain ⟨B14, hB47⟩ : ∃ B, w8.heap.size = B := ⟨_, rfl⟩
 have l14 : w.heap.size ≤ B14 := by rw [← hB47]; exact hB.size
 have l8_14 : B8 < B14 := by rw [← hB47]; exact H8.box.lt
 have l9_14 : B8 + 1 < B14 := by rw [← hB47]; exact H9.box.lt
 have l10_14 : B10 < B14 := by rw [← hB47]; exact H10.box.lt
 have l12_14 : B12 < B14 := by rw [← hB47]; exact H12.box.lt
 have hB := hB.trans (hk.mono hB.size)
 have H8 := H8.below hk
 have H9 := H9.below hk
 have P35 := P35.below hk
 have Q35 := Q35.below hk
 have H10 := H10.below hk
 have H12 := H12.below hk
 have R47 := R47.below hk
 clear hk
 rw [hB47] at hW47 H14 bx47
 clear R47
 obtain ⟨⟨y0, y1, y2, y3⟩, yz0, yz1, yz2, yz3⟩ := id bx47
 go_wp2_with fail
 try rw [hW47]
 try rw [hB47]
 clear hW47 hB47
 clear y0 y1 y2 y3 yz0 yz1 yz2 yz3
 have cc := power_z ((u : Int)) u (by omega) (by omega) W47
 refine cc.mono ?_
 rintro e w9 ⟨s62, a62, n62, c62, rfl, N55, k55, hk⟩
 have hB := hB.trans (hk.mono hB.size)
 have H8 := H8.below hk
 have H9 := H9.below hk
 have P35 := P35.below hk
 have Q35 := Q35.below hk
 have H10 := H10.below hk
 have H12 := H12.below hk
 have H14 := H14.below hk
 clear hk
 clear cc
 go_wp2_with fail
 have cc := power_z ((v : Int)) v (by omega) (by omega) w9
 refine cc.mono ?_
 rintro e w10 ⟨t62, b62, m62, d62, rfl, N61, k61, hk⟩
 have hB := hB.trans (hk.mono hB.size)
 have H8 := H8.below hk
 have H9 := H9.below hk
 have P35 := P35.below hk
 have Q35 := Q35.below hk
 have H10 := H10.below hk
 have H12 := H12.below hk
 have H14 := H14.below hk
 have N55 := N55.below hk
 clear hk
 clear cc
 obtain ⟨Z62, hZ62⟩ : ∃ Z, w10.alloc (Obj.cells #[.bool false, .slice none 0 0, .bool false, .slice none 0 0] 27) = Z := ⟨_, rfl⟩
 obtain ⟨W62, hW62⟩ : ∃ W, (((Z62.setCell ⟨w10.heap.size, 0, none⟩ (.bool s62)).setCell ⟨w10.heap.size, 1, none⟩ (.slice a62 n62 c62)).setCell ⟨w10.heap.size, 2, none⟩ (.bool t62)).setCell ⟨w10.heap.size, 3, none⟩ (.slice b62 m62 d62) = W := ⟨_, rfl⟩
 obtain ⟨H16, hk, bx62⟩ := rat_new (c1 := c62) (c2 := d62) hZ62 hW62 (RArg.of (x := Q) (by rw [hQ1.out]; exact N55) (by rw [hQ2.out]; exact N61) k55 k61)
 obtain ⟨B16, hB62⟩ : ∃ B, w10.heap.size = B := ⟨_, rfl⟩
 have l16 : w.heap.size ≤ B16 := by rw [← hB62]; exact hB.size
 have l8_16 : B8 < B16 := by rw [← hB62]; exact H8.box.lt
 have l9_16 : B8 + 1 < B16 := by rw [← hB62]; exact H9.box.lt
 have l10_16 : B10 < B16 := by rw [← hB62]; exact H10.box.lt
 have l12_16 : B12 < B16 := by rw [← hB62]; exact H12.box.lt
 have l14_16 : B14 < B16 := by rw [← hB62]; exact H14.box.lt
 have hB := hB.trans (hk.mono hB.size)
 have H8 := H8.below hk
 have H9 := H9.below hk
 have P35 := P35.below hk
 have Q35 := Q35.below hk
 have H10 := H10.below hk
 have H12 := H12.below hk
 have H14 := H14.below hk
 have N55 := N55.below hk
 have N61 := N61.below hk
 clear hk
 rw [hB62] at hW62 H16 bx62
 obtain ⟨⟨y0, y1, y2, y3⟩, yz0, yz1, yz2, yz3⟩ := id bx62
 obtain ⟨⟨x10, x11, x12, x13⟩, xz10, xz11, xz12, xz13⟩ := id H12.box
 obtain ⟨⟨x20, x21, x22, x23⟩, xz20, xz21, xz22, xz23⟩ := id H16.box
 go_wp2_with fail
 try rw [hW62]
 try rw [hB62]
 clear hW62 hB62
 clear y0 y1 y2 y3 yz0 yz1 yz2 yz3 x10 x11 x12 x13 xz10 xz11 xz12 xz13 x20 x21 x22 x23 xz20 xz21 xz22 xz23
 have cc := same_r s41 t41 s62 t62 a41 b41 a62 b62 n41 m41 n62 m62 c41 d41 c62 d62 _ _ H12.arg.l1 H12.arg.l2 W62 H12.arg.num H12.arg.den H16.arg.num H16.arg.den
 refine cc.mono ?_
 rintro e w11 ⟨rfl, hk⟩
 have hB := hB.trans (hk.mono hB.size)
 have H8 := H8.below hk
 have H9 := H9.below hk
 have P35 := P35.below hk
 have Q35 := Q35.below hk
 have H10 := H10.below hk
 have H12 := H12.below hk
 have H14 := H14.below hk
 have N55 := N55.below hk
 have N61 := N61.below hk
 have H16 := H16.below hk
 clear hk
 clear cc
 obtain ⟨⟨x00, x01, x02, x03⟩, xz00, xz01, xz02, xz03⟩ := id H8.box
 obtain ⟨⟨x10, x11, x12, x13⟩, xz10, xz11, xz12, xz13⟩ := id H9.box
 go_wp2_with fail
 clear x00 x01 x02 x03 xz00 xz01 xz02 xz03 x10 x11 x12 x13 xz10 xz11 xz12 xz13
 have cc := cmp_r s27 t27 s31 t31 a27 b27 a31 b31 n27 m27 n31 m31 c27 d27 c31 d31 (some (powR m)) (some (powR n)) w11 H8.arg H9.arg
 rw [K74.out] at cc
 refine cc.mono ?_
 rintro e w12 ⟨rfl, hk⟩
 have hB := hB.trans (hk.mono hB.size)
 have H8 := H8.below hk
 have H9 := H9.below hk
 have P35 := P35.below hk
 have Q35 := Q35.below hk
 have H10 := H10.below hk
 have H12 := H12.below hk
 have H14 := H14.below hk
 have N55 := N55.below hk
 have N61 := N61.below hk
 have H16 := H16.below hk
 clear hk
 clear cc
 go_wp2_with fail
 have cc := of_any (m : Int) (by omega) (by omega) w12
 refine cc.mono ?_
 rintro e w13 ⟨s76, a76, n76, c76, rfl, N76, hk⟩
 have k76 := of_len N76 (by omega) (by omega)
 have hB := hB.trans (hk.mono hB.size)
 have H8 := H8.below hk
 have H9 := H9.below hk
 have P35 := P35.below hk
 have Q35 := Q35.below hk
 have H10 := H10.below hk
 have H12 := H12.below hk
 have H14 := H14.below hk
 have N55 := N55.below hk
 have N61 := N61.below hk
 have H16 := H16.below hk
 clear hk
 clear cc
 go_wp2_with fail
 have cc := of_any (n : Int) (by omega) (by omega) w13
 refine cc.mono ?_
 rintro e w14 ⟨s78, a78, n78, c78, rfl, N78, hk⟩
 have k78 := of_len N78 (by omega) (by omega)
 have hB := hB.trans (hk.mono hB.size)
 have H8 := H8.below hk
 have H9 := H9.below hk
 have P35 := P35.below hk
 have Q35 := Q35.below hk
 have H10 := H10.below hk
 have H12 := H12.below hk
 have H14 := H14.below hk
 have N55 := N55.below hk
 have N61 := N61.below hk
 have H16 := H16.below hk
 have N76 := N76.below hk
 clear hk
 clear cc
 go_wp2_with fail
 have cc := cmp_any s76 s78 a76 a78 n76 n78 c76 c78 (m : Int) (n : Int) k76 k78 w14 N76 N78
 rw [K79.out] at cc
 refine cc.mono ?_
 rintro e w15 ⟨rfl, hk⟩
 have hB := hB.trans (hk.mono hB.size)
 have H8 := H8.below hk
 have H9 := H9.below hk
 have P35 := P35.below hk
 have Q35 := Q35.below hk
 have H10 := H10.below hk
 have H12 := H12.below hk
 have H14 := H14.below hk
 have N55 := N55.below hk
 have N61 := N61.below hk
 have H16 := H16.below hk
 have N76 := N76.below hk
 have N78 := N78.below hk
 clear hk
 clear cc
 clear N55
 clear N61
 clear N76
 clear N78
 go_wp2_with fail
 obtain ⟨S12, hS12⟩ : ∃ b, w15.drew.heap.size = b := ⟨_, rfl⟩
 have lS : S12 ≤ w15.drew.heap.size := by omega
 clear hS12
 have hB := hB.drew
 have H8 := H8.below (Below.drew (Below.refl w15.heap.size w15))
 have H9 := H9.below (Below.drew (Below.refl w15.heap.size w15))
 have P35 := P35.below (Below.drew (Below.refl w15.heap.size w15))
 have Q35 := Q35.below (Below.drew (Below.refl w15.heap.size w15))
 have H10 := H10.below (Below.drew (Below.refl w15.heap.size w15))
 have H12 := H12.below (Below.drew (Below.refl w15.heap.size w15))
 have H14 := H14.below (Below.drew (Below.refl w15.heap.size w15))
 have H16 := H16.below (Below.drew (Below.refl w15.heap.size w15))
 refine wp_region_held_drew (S := fun w' => Below (S12) w15.drew w') (by kernel_rfl) (Below.refl _ _) (fun hHeld => ?_)
 obtain ⟨E12, hWE⟩ : ∃ W, w15.drew = W := ⟨_, rfl⟩
 rw [hWE] at hB H8 H9 P35 Q35 H10 H12 H14 H16 hHeld lS ⊢
 clear hWE
 have hE := Below.refl E12.heap.size E12
 have hS : Below S12 E12 E12 := Below.refl _ _
 refine tk 0 (.int .i64 (m : Int)) 103 rfl rfl ?_
 simp only [Act.put, pA, pB, pC]
 refine tk 1 (.int .i64 (n : Int)) 104 rfl rfl ?_
 simp only [Act.put, pA, pB, pC]
 refine tk 2 (.bool false) 105 rfl rfl ?_
 simp only [Act.put, pA, pB, pC]
 refine tk 3 (.bool false) 106 rfl rfl ?_
 simp only [Act.put, pA, pB, pC]
 refine tk 4 (undef) 107 rfl rfl ?_ (Or.inr ⟨by rfl, rfl⟩)
 simp only [Act.put, pA, pB, pC]
 refine tk 5 (.bool false) 108 rfl rfl ?_
 simp only [Act.put, pA, pB, pC]
 refine tk 6 (.bool false) 109 rfl rfl ?_
 simp only [Act.put, pA, pB, pC]
 refine tk 7 (undef) 110 rfl rfl ?_ (Or.inr ⟨by rfl, rfl⟩)
 simp only [Act.put, pA, pB, pC]
 refine tk 8 (undef) 111 rfl rfl ?_ (Or.inr ⟨by rfl, rfl⟩)
 simp only [Act.put, pA, pB, pC]
 refine tk 9 (undef) 112 rfl rfl ?_ (Or.inr ⟨by rfl, rfl⟩)
 simp only [Act.put, pA, pB, pC]
 refine tk 10 (undef) 113 rfl rfl ?_ (Or.inr ⟨by rfl, rfl⟩)
 simp only [Act.put, pA, pB, pC]
 refine tk 11 (undef) 114 rfl rfl ?_ (Or.inr ⟨by rfl, rfl⟩)
 simp only [Act.put, pA, pB, pC]
 refine tk 12 (undef) 115 rfl rfl ?_ (Or.inr ⟨by rfl, rfl⟩)
 simp only [Act.put, pA, pB, pC]
 refine tk 13 (undef) 116 rfl rfl ?_ (Or.inr ⟨by rfl, rfl⟩)
 simp only [Act.put, pA, pB, pC]
 refine tk 14 (undef) 117 rfl rfl ?_ (Or.inr ⟨by rfl, rfl⟩)
 simp only [Act.put, pA, pB, pC]
 refine tk 15 (.bool false) 118 rfl rfl ?_
 simp only [Act.put, pA, pB, pC]
 refine wpAnyH_done (by kernel_rfl) ?_ _
 have hB := hB.trans (hE.mono hB.size)
 obtain ⟨⟨x00, x01, x02, x03⟩, xz00, xz01, xz02, xz03⟩ := id H10.box
 go_wp2_with fail
 clear x00 x01 x02 x03 xz00 xz01 xz02 xz03
 have cc := none_yes s35 t35 a35 b35 n35 m35 c35 d35 kk35 ll35 E12 P35 Q35
 refine cc.mono ?_
 rintro e w16 ⟨rfl, hk⟩
 have hB := hB.trans (hk.mono hB.size)
 have H8 := H8.below hk
 have H9 := H9.below hk
 have P35 := P35.below hk
 have Q35 := Q35.below hk
 have H10 := H10.below hk
 have H12 := H12.below hk
 have H14 := H14.below hk
 have H16 := H16.below hk
 clear hk
 clear cc
 go_wp2
 go_ret
 exact ⟨rfl, hB⟩
theorem rlong_true (z0 z1 : Int) (h0 : 0 ≤ z0) (h1 : z0 ≤ 65535) (g0 : 0 ≤ z1) (g1 : z1 ≤ 65535) (w : World) (ht : Pow10 w) (hsy : Syn w) :
 Calls Tryz.prog 9 #[.int .u16 z0, .int .u16 z1] w fun e w' => e = .returned (.bool true) ∧ Below w.heap.size w w' := by
 obtain ⟨m, e0⟩ : ∃ m : Nat, z0 % 2048 = (m : Int) := ⟨(z0 % 2048).toNat, by omega⟩
 obtain ⟨n, e1⟩ : ∃ n : Nat, z1 % 2048 = (n : Int) := ⟨(z1 % 2048).toNat, by omega⟩
 have f0 : Int.tmod z0 2048 = (m : Int) := by rw [Int.tmod_eq_emod_of_nonneg h0]; exact e0
 have f1 : Int.tmod z1 2048 = (n : Int) := by rw [Int.tmod_eq_emod_of_nonneg g0]; exact e1
 have hm : m < 2048 := by omega
 have hn : n < 2048 := by omega
 by_cases hmn : m + n < 2048
 · by_cases he : m = n
   · exact rlong_Aeq z0 z1 m n h0 h1 g0 g1 e0 e1 f0 f1 hm hn hmn he w ht hsy
   · by_cases hg : max m n < 2047
     · exact rlong_Anelo z0 z1 m n h0 h1 g0 g1 e0 e1 f0 f1 hm hn hmn he hg w ht hsy
     · exact rlong_Anehi z0 z1 m n h0 h1 g0 g1 e0 e1 f0 f1 hm hn hmn he hg w ht hsy
 · by_cases he : m = n
   · by_cases hg : max m n < 2047
     · exact rlong_Beq z0 z1 m n h0 h1 g0 g1 e0 e1 f0 f1 hm hn hmn he hg w ht hsy
     · exact rlong_Btop z0 z1 m n h0 h1 g0 g1 e0 e1 f0 f1 hm hn hmn he hg w ht hsy
   · by_cases hg : max m n < 2047
     · exact rlong_Bnelo z0 z1 m n h0 h1 g0 g1 e0 e1 f0 f1 hm hn hmn he hg w ht hsy
     · exact rlong_Bnehi z0 z1 m n h0 h1 g0 g1 e0 e1 f0 f1 hm hn hmn he hg w ht hsy
end Go.Proofs.YtikepnocefdmnaaGreatDoor
