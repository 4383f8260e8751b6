/- Several texts in one. -/
import Derived.Test.YtgenaicmjddjcaaGreatDoorPShift
import Derived.Test.YtgenaicmjddjcaaGreatDoorPNumD
import Derived.Test.YtgenaicmjddjcaaGreatDoorPRef
import Derived.Test.YtgenaicmjddjcaaGreatDoorPRf
/- num's divideLong: long division. -/
namespace Go.Proofs.YtgenaicmjddjcaaGreatDoor
open Go.RowKit Go.Shelf
attribute [local go_sem] Oper.semAt_some

theorem Touch.keepsFrom {b lo hi B : Nat} {W W' : World} (h : Touch b lo hi W W') (hb : b < B) : KeepsFrom B W W' :=
 ⟨h.size, fun k o hB hk _ => (h.block k (Array.getElem?_eq_some_iff.1 hk).1 (by omega)).trans hk⟩
theorem cell_touch {b lo hi : Nat} {W W' : World} {a : Addr} {v : Value} (t : Touch b lo hi W W') (hne : a.block ≠ b) (h : W.cell? a = some v) : W'.cell? a = some v := by
 rw [World.cell?_of_block (t.block a.block (lt_of_cell h) hne)]; exact h
theorem lz32_any (t : Nat) (h : t < 4294967296) (w : World) :
 Calls Tryz.prog 155 #[.int .u32 (t : Int)] w fun e w' => e = .returned (.int .i64 ((32 - Lib.bitLen t : Nat) : Int)) ∧ w = w' := by
 refine (Tryz.bits_LeadingZeros32 (t : Int) w (by omega) (by omega)).mono ?_
 rintro e w' ⟨rfl, rfl⟩
 rw [Int.toNat_natCast]
 have : Lib.bitLen t ≤ 32 := Lib.bitLen_le t 32 (by decide) (by omega)
 exact ⟨by rw [show (32 : Int) - (Lib.bitLen t : Int) = ((32 - Lib.bitLen t : Nat) : Int) from by omega], rfl⟩

theorem isD_trim {w : World} {g L V : Nat} {a' : Option Addr} (h : Cells w g 0 L (dgt V)) (hV : V < bp L) (ha : a' = some ⟨g, 0, none⟩ ∨ dlen V = 0) : IsD w a' (dlen V) V := by
 rcases ha with rfl | ha
 · exact ⟨rfl, .inr ⟨g, 0, rfl, h.mono (dlen_le_iff.2 hV)⟩⟩
 · exact ⟨rfl, .inl ha⟩
theorem fresh_trim {w : World} {g n : Nat} {a' : Option Addr} (hg : w.heap.size ≤ g) (ha : a' = some ⟨g, 0, none⟩ ∨ n = 0) : n = 0 ∨ Fresh w a' := by
 rcases ha with rfl | ha
 · exact .inr fun ad e => by cases e; exact hg
 · exact .inl ha
theorem IsD.calm {B : Nat} {W W' : World} {a : Option Addr} {n x : Nat} (h : IsD W a n x) (hc : Calm B W W') : IsD W' a n x := ⟨h.len, hc.dig h.dig⟩
theorem trim_block (g L cap V : Nat) (hL : L ≤ 1099511627776) (hcap : L ≤ cap) (hV : V < bp L) (w : World) (h : Cells w g 0 L (dgt V)) :
 Calls Tryz.prog 112 #[.slice (some ⟨g, 0, none⟩) L cap] w fun e w' => ∃ (a' : Option Addr) (cap' : Nat), e = .returned (.slice a' (dlen V) cap') ∧ (a' = some ⟨g, 0, none⟩ ∨ dlen V = 0) ∧ dlen V ≤ cap' ∧ Below w.heap.size w w' := by
 have h1 := trim_any (some ⟨g, 0, none⟩) L cap (dgt V) hL hcap (fun _ _ => dgt_lt _ _) w (.inr ⟨g, 0, rfl, h⟩)
 rw [valF_dgt, Nat.mod_eq_of_lt hV] at h1
 exact h1
structure DivInv (w U : World) (B6 B8 B10 gD gR gQ m nx mq A D V : Nat) (k : Nat) (W : World) : Prop where
 c6 : W.cell? ⟨B6, 0, none⟩ = some (.int .i64 ((m : Int) + 2))
 c8 : W.cell? ⟨B8, 0, none⟩ = some (.slice (some ⟨gD, 0, none⟩) (m + 2) (m + 2))
 c9 : W.cell? ⟨B8 + 1, 0, none⟩ = some (.slice (some ⟨gR, 0, none⟩) (nx + 1) (nx + 1))
 z9 : W.frozen? ⟨B8 + 1, 0, none⟩ = false
 c10 : W.cell? ⟨B10, 0, none⟩ = some (.slice (some ⟨gQ, 0, none⟩) mq mq)
 cX : W.cell? ⟨B10 + 1, 0, none⟩ = some (.slice (some ⟨gQ, 0, none⟩) mq mq)
 bel : Below w.heap.size w W
 size : U.heap.size ≤ W.heap.size
 cD : Cells W gD 0 (m + 2) (dgt D)
 cR : Cells W gR 0 (nx + 1) (dgt (leftN A D k))
 cQ : Cells W gQ 0 mq (mixF (fun _ => 0) (dgt V) k)
 fR : Free W gR 0 (nx + 1)
 fQ : Free W gQ 0 mq
theorem DivInv.calm {w U : World} {B6 B8 B10 gD gR gQ m nx mq A D V k : Nat} {W W' : World} (h : DivInv w U B6 B8 B10 gD gR gQ m nx mq A D V k W) (hw : w.heap.size ≤ U.heap.size) (hc : Calm U.heap.size W W') :
 DivInv w U B6 B8 B10 gD gR gQ m nx mq A D V k W' :=
 ⟨hc.cell _ _ h.c6, hc.cell _ _ h.c8, hc.cell _ _ h.c9, (hc.frozen _ _ h.c9).trans h.z9, hc.cell _ _ h.c10, hc.cell _ _ h.cX, h.bel.trans (hc.below.mono hw), Nat.le_trans h.size hc.below.size,
   hc.cells h.cD, hc.cells h.cR, hc.cells h.cQ, fun j hj => (hc.frozen _ _ (h.cR j hj)).trans (h.fR j hj), fun j hj => (hc.frozen _ _ (h.cQ j hj)).trans (h.fQ j hj)⟩
theorem DivInv.drew {w U : World} {B6 B8 B10 gD gR gQ m nx mq A D V k : Nat} {W : World} (h : DivInv w U B6 B8 B10 gD gR gQ m nx mq A D V k W) : DivInv w U B6 B8 B10 gD gR gQ m nx mq A D V k W.drew :=
 ⟨h.c6, h.c8, h.c9, h.z9, h.c10, h.cX, h.bel.drew, h.size, h.cD, h.cR, h.cQ, h.fR, h.fQ⟩
theorem DivInv.next {w U : World} {B6 B8 B10 gD gR gQ m nx mq A D V k : Nat} {W W2 : World} {f' : Nat → Nat} (h : DivInv w U B6 B8 B10 gD gR gQ m nx mq A D V (k + 1) W)
 (hk : k < mq) (hmq : nx = m + 1 + mq) (hD0 : 0 < D) (hDl : D < bp (m + 2)) (hV : A / D = V) (o1 : B6 < gD) (o2 : gD < gR) (o3 : gR < B8) (o4 : B8 + 1 < gQ) (o5 : gQ < B10) (hR : w.heap.size ≤ gR) (hQ : w.heap.size ≤ gQ)
 (hf : ∀ j, j < m + 3 → f' j < 4294967296) (hv : valF f' (m + 3) = partN A D k % D) (hc : Cells W2 gR (0 + k) (m + 3) f') (ht : Touch gR (0 + k) (0 + k + (m + 3)) W W2) :
 DivInv w U B6 B8 B10 gD gR gQ m nx mq A D V k (W2.setCell ⟨gQ, 0 + k, none⟩ (.int .u32 ((partN A D k / D : Nat) : Int))) := by
 have ne : ∀ {x y o p : Nat}, x ≠ y → (⟨x, o, none⟩ : Addr) ≠ ⟨y, p, none⟩ := fun h e => h (congrArg Addr.block e)
 have far : ∀ {x o : Nat} {v u : Value}, x ≠ gR → x ≠ gQ → W.cell? ⟨x, o, none⟩ = some v → (W2.setCell ⟨gQ, 0 + k, none⟩ u).cell? ⟨x, o, none⟩ = some v := fun h1 h2 hc =>
  (cell_setCell_ne _ _ _ _ (ne h2) rfl rfl).trans (cell_touch (a := ⟨_, _, none⟩) ht h1 hc)
 have hbR : gR < W.heap.size := h.cR.lt (by omega)
 have hbQ : gQ < W.heap.size := h.cQ.lt (by omega)
 have hcQ2 := (h.cQ.touch ht (.inl (by omega))).set (partN A D k / D) hk
 have hcR2 : Cells W2 gR 0 (nx + 1) (dgt (leftN A D k)) := fun j hj => by
  by_cases h1 : 0 + k ≤ 0 + j ∧ 0 + j < 0 + k + (m + 3)
  · obtain ⟨i, rfl⟩ : ∃ i, j = k + i := ⟨j - k, by omega⟩
    have := hc i (by omega)
    rw [show 0 + (k + i) = 0 + k + i from by omega, this, dgt_left_next, ← hv, dgt_valF hf (by omega)]
  · rw [ht.cell _ h1, h.cR j hj]
    congr 3
    by_cases h2 : j < k
    · exact dgt_left_keep h2
    · rw [dgt_ge (leftN_lt (n := m + 2) (Nat.le_of_lt hDl) hD0) (by omega), dgt_ge (leftN_lt (n := m + 2) (Nat.le_of_lt hDl) hD0) (by omega)]
 refine ⟨far (by omega) (by omega) h.c6, far (by omega) (by omega) h.c8, far (by omega) (by omega) h.c9, ?_, far (by omega) (by omega) h.c10, far (by omega) (by omega) h.cX, ?_, ?_, ?_, ?_, ?_, ?_, ?_⟩
 · rw [World.frozen?_setCell, frozen_of_block_eq (ht.block (B8 + 1) (lt_of_cell (a := ⟨B8 + 1, 0, none⟩) h.c9) (by omega))]; exact h.z9
 · exact (h.bel.trans (ht.below hR h.bel.size)).setCell (p := ⟨gQ, 0 + k, none⟩) hQ _
 · rw [World.size_setCell]; exact Nat.le_trans h.size ht.size
 · intro j hj; exact far (by omega) (by omega) (h.cD j hj)
 · intro j hj; exact (cell_setCell_ne _ _ _ _ (ne (by omega)) rfl rfl).trans (hcR2 j hj)
 · refine hcQ2.congr fun j hj => ?_
   by_cases hjk : j = k
   · subst hjk; rw [putF_same, partN_div hD0, hV]; simp [mixF]
   · rw [putF_ne _ _ hjk]
     simp only [mixF]
     by_cases hj1 : j < k
     · rw [if_pos hj1, if_pos (by omega)]
     · rw [if_neg hj1, if_neg (by omega)]
 · intro j hj; rw [World.frozen?_setCell]; exact h.fR.touch ht hbR j hj
 · intro j hj; rw [World.frozen?_setCell]; exact h.fQ.touch ht hbQ j hj

set_option maxRecDepth 100000 in
set_option maxHeartbeats 8000000 in
theorem divideLong_any (ax ay : Option Addr) (x y nx m cx cy : Nat) (hn : nx ≤ 100000000000) (w : World) (hx : IsD w ax nx x) (hy : IsD w ay (m + 2) y) (hxy : y ≤ x) :
 Calls Tryz.prog 130 #[.slice ax nx cx, .slice ay ((m + 2 : Nat)) cy] w (DivPost w x y) := by
 have hmn : m + 2 ≤ nx := by rw [hx.len, hy.len]; exact dlen_mono hxy
 obtain ⟨by', oy, rfl, hcy0⟩ := hy.dig.at (by omega)
 have hy0 : y ≠ 0 := fun e => by have := hy.len; rw [e, dlen_zero] at this; omega
 have htop0 : dgt y (m + 1) ≠ 0 := by have := dgt_top hy0; rw [← hy.len] at this; exact this
 have hyt := hcy0 (m + 1) (by omega)
 have htl := dgt_lt y (m + 1)
 obtain ⟨hb1, hb2, hs1, hs2⟩ := bitLen_sh htop0 htl
 have HLZ := lz32_any (dgt y (m + 1)) htl
 obtain ⟨s, hs⟩ : ∃ s, 32 - Lib.bitLen (dgt y (m + 1)) = s := ⟨_, rfl⟩
 rw [hs] at hs1 hs2 HLZ
 have hs31 : s ≤ 31 := by omega
 obtain ⟨hD1, hD2, hD3⟩ := shifted_bounds (y := y) (n := m + 1) (s := s) hy.len.symm hs1 hs2
 obtain ⟨hA1, hA2⟩ := shifted_num (x := x) (y := y) (n := m + 1) (nx := nx) hx.len.symm hD1 hs31 (by omega)
 obtain ⟨t, ht⟩ : ∃ t, dgt y (m + 1) = t := ⟨_, rfl⟩
 rw [ht] at hyt HLZ htl
 have HL := hide HLZ
 have HM := hide (And.intro hD1 (And.intro hD2 (And.intro hD3 (And.intro hA1 hA2))))
 have hr1 := fun w' (hd : Below w.heap.size w w') => resize_any (some ⟨by', oy, none⟩) (m + 2) cy (m + 2) _ (show (m : Int) + 2 = ((m + 2 : Nat) : Int) by omega) (dgt y) (Nat.le_refl _) (by omega) w' (hy.dig.below hd)
 have hr2 := fun w' (hd : Below w.heap.size w w') => resize_any ax nx cx (nx + 1) _ (show (nx : Int) + 1 = ((nx + 1 : Nat) : Int) by omega) (dgt x) (Nat.le_succ _) (by omega) w' (hx.dig.below hd)
 have HR1 := hide hr1
 have HR2 := hide hr2
 have HXY := hide (And.intro hx hy)
 have i1 : (0 : Int) ≤ (m : Int) + 1 := by omega
 have i2 : (m : Int) + 1 < (m : Int) + 2 := by omega
 have i3 : ((m : Int) + 1).toNat = m + 1 := by omega
 have i4 : IntKind.i64.wrap ((m : Int) + 1) = (m : Int) + 1 := IntWalk.i64_in _ (by omega)
 have i5 : IntKind.i64.wrap ((nx : Int) + 1) = (nx : Int) + 1 := IntWalk.i64_in _ (by omega)
 have e2 : ((m + 2 : Nat) : Int) = (m : Int) + 2 := by omega
 clear hcy0 hy0 htop0 hb1 hb2 hs1 hs2 hs hD1 hD2 hD3 hA1 hA2 ht HLZ hr1 hr2 hx hy hxy
 refine calls_marks Tryz.func130 rfl ?_
 simp only [Tryz.ntmps130, List.size_toArray, List.length_cons, List.length_nil, Nat.reduceAdd, Nat.reduceSub, Array.replicate_succ, Array.replicate_zero, List.push_toArray, List.append_toArray, List.nil_append, List.cons_append]
 go_wp2_with fail
 refine (HL.out _).mono ?_
 rintro e w' ⟨rfl, rfl⟩
 go_wp2_with fail
 have hB1 := below_alloc' w (Obj.cells #[.int .i64 ((m : Int) + 2)] 3)
 have c6 : (w.alloc (Obj.cells #[.int .i64 ((m : Int) + 2)] 3)).cell? ⟨w.heap.size, 0, none⟩ = some (.int .i64 ((m : Int) + 2)) := by simp [go_sem]
 obtain ⟨U1, hU1⟩ : ∃ U1, w.alloc (Obj.cells #[.int .i64 ((m : Int) + 2)] 3) = U1 := ⟨_, rfl⟩
 obtain ⟨B6, hB6⟩ : ∃ B6, w.heap.size = B6 := ⟨_, rfl⟩
 have hU1s : U1.heap.size = w.heap.size + 1 := by rw [← hU1]; simp
 rw [hU1] at hB1 c6 ⊢
 rw [hB6] at c6 ⊢
 clear hU1
 refine (HR1.out _ hB1).mono ?_
 rintro e U2 ⟨gD, rfl, hgD, hcD, hfD, hk2⟩
 have hB2 := hB1.trans (hk2.mono hB1.size)
 have c6 := (hk2.cell (p := ⟨B6, 0, none⟩) (lt_of_cell c6)).trans c6
 clear hyt
 go_wp2_with fail
 refine (HR2.out _ hB2).mono ?_
 rintro e U3 ⟨gR, rfl, hgR, hcR, hfR, hk3⟩
 have hB3 := hB2.trans (hk3.mono hB2.size)
 have c6 := (hk3.cell (p := ⟨B6, 0, none⟩) (lt_of_cell c6)).trans c6
 have hD6 : B6 < gD := Nat.lt_of_lt_of_le (by omega) hgD
 have hDl : gD < U2.heap.size := hcD.lt (by omega)
 have hRD : gD < gR := Nat.lt_of_lt_of_le hDl hgR
 have hRl : gR < U3.heap.size := hcR.lt (by omega)
 have hfD := hfD.below hk3 hDl
 have hcD : Cells U3 gD 0 (m + 2) (dgt y) := (hcD.below hk3 (.inl (Nat.le_refl _))).congr fun j hj => by simp [mixF, hj]
 have hcR : Cells U3 gR 0 (nx + 1) (dgt x) := hcR.congr fun j _ => mixF_dgt (Nat.le_of_eq HXY.out.1.len.symm)
 have hwD : w.heap.size ≤ gD := by omega
 have hwR : w.heap.size ≤ gR := by omega
 have HW := hide (And.intro hwD hwR)
 clear hk2 hk3 hgD hgR hwD hwR
 go_wp2_with fail
 have hk4 := (below_alloc' U3 (Obj.cells #[.slice (some ⟨gD, 0, none⟩) (m + 2) (m + 2)] 23)).trans ((below_alloc' (U3.alloc (Obj.cells #[.slice (some ⟨gD, 0, none⟩) (m + 2) (m + 2)] 23)) (Obj.cells #[.slice (some ⟨gR, 0, none⟩) (nx + 1) (nx + 1)] 23)).mono (by simp))
 have c8 : ((U3.alloc (Obj.cells #[.slice (some ⟨gD, 0, none⟩) (m + 2) (m + 2)] 23)).alloc (Obj.cells #[.slice (some ⟨gR, 0, none⟩) (nx + 1) (nx + 1)] 23)).cell? ⟨U3.heap.size, 0, none⟩ = some (.slice (some ⟨gD, 0, none⟩) (m + 2) (m + 2)) := by simp [go_sem]
 have c9 : ((U3.alloc (Obj.cells #[.slice (some ⟨gD, 0, none⟩) (m + 2) (m + 2)] 23)).alloc (Obj.cells #[.slice (some ⟨gR, 0, none⟩) (nx + 1) (nx + 1)] 23)).cell? ⟨U3.heap.size + 1, 0, none⟩ = some (.slice (some ⟨gR, 0, none⟩) (nx + 1) (nx + 1)) := by simp [go_sem]
 have z9 : ((U3.alloc (Obj.cells #[.slice (some ⟨gD, 0, none⟩) (m + 2) (m + 2)] 23)).alloc (Obj.cells #[.slice (some ⟨gR, 0, none⟩) (nx + 1) (nx + 1)] 23)).frozen? ⟨U3.heap.size + 1, 0, none⟩ = false := by simp [go_sem]
 obtain ⟨U4, hU4⟩ : ∃ U4, (U3.alloc (Obj.cells #[.slice (some ⟨gD, 0, none⟩) (m + 2) (m + 2)] 23)).alloc (Obj.cells #[.slice (some ⟨gR, 0, none⟩) (nx + 1) (nx + 1)] 23) = U4 := ⟨_, rfl⟩
 obtain ⟨B8, hB8⟩ : ∃ B8, U3.heap.size = B8 := ⟨_, rfl⟩
 rw [hU4] at hk4 c8 c9 z9 ⊢
 have hB4 := hB3.trans (hk4.mono hB3.size)
 have c6 := (hk4.cell (p := ⟨B6, 0, none⟩) (lt_of_cell c6)).trans c6
 have hcD := hcD.below hk4 (.inl (Nat.le_refl _))
 have hcR := hcR.below hk4 (.inl (Nat.le_refl _))
 have hfD := hfD.below hk4 (Nat.lt_trans hRD hRl)
 have hfR := hfR.below hk4 hRl
 rw [hB8] at c8 c9 z9 hRl ⊢
 clear hU4 hk4 hDl hB8
 have hDU := hcD.lt (by omega : 0 < m + 2)
 have hRU := hcR.lt (by omega : 0 < nx + 1)
 refine (shiftUp_any gD 0 (m + 2) (m + 2) y s hs31 (by omega) U4 hDU hcD hfD).mono ?_
 rintro e U5 ⟨⟨v5, rfl⟩, hcD, ht5⟩
 have hB5 := hB4.trans (ht5.below HW.out.1 hB4.size)
 have c6 := cell_touch (a := ⟨B6, 0, none⟩) ht5 (Nat.ne_of_lt hD6) c6
 have c8 := cell_touch (a := ⟨B8, 0, none⟩) ht5 (by show B8 ≠ gD; omega) c8
 have c9 := cell_touch (a := ⟨B8 + 1, 0, none⟩) ht5 (by show B8 + 1 ≠ gD; omega) c9
 have z9 := (frozen_of_block_eq (ht5.block (B8 + 1) (lt_of_cell (a := ⟨B8 + 1, 0, none⟩) (by assumption)) (by omega)) 0).trans z9
 have hcR := hcR.touch ht5 (.inl (by omega))
 have hfR := hfR.touch ht5 hRU
 have hRU := hcR.lt (by omega : 0 < nx + 1)
 clear hfD ht5 hDU
 go_wp2_with fail
 refine (shiftUp_any gR 0 (nx + 1) (nx + 1) x s hs31 (by omega) U5 hRU hcR hfR).mono ?_
 rintro e U6 ⟨⟨v6, rfl⟩, hcR, ht6⟩
 have hB6w := hB5.trans (ht6.below HW.out.2 hB5.size)
 have c6 := cell_touch (a := ⟨B6, 0, none⟩) ht6 (by show B6 ≠ gR; omega) c6
 have c8 := cell_touch (a := ⟨B8, 0, none⟩) ht6 (by show B8 ≠ gR; omega) c8
 have c9 := cell_touch (a := ⟨B8 + 1, 0, none⟩) ht6 (by show B8 + 1 ≠ gR; omega) c9
 have z9 := (frozen_of_block_eq (ht6.block (B8 + 1) (lt_of_cell (a := ⟨B8 + 1, 0, none⟩) (by assumption)) (by omega)) 0).trans z9
 have hcD := hcD.touch ht6 (.inl (by omega))
 have hfR := hfR.touch ht6 hRU
 clear ht6 hRU
 obtain ⟨mq, hmq⟩ : ∃ mq, nx = m + 1 + mq := ⟨nx - (m + 1), by omega⟩
 have hq1 : IntKind.i64.wrap ((nx : Int) + 1 - ((m : Int) + 2)) = (mq : Int) := by rw [show (nx : Int) + 1 - ((m : Int) + 2) = (mq : Int) from by omega]; exact IntWalk.i64_in _ (by omega)
 have HQ := hide hmq
 clear hmq
 go_wp2_with (at_make; refine make_digs rfl _ _ rfl _ _ _ _ mq rfl rfl (by have := HQ.out; omega) (by have := HQ.out; omega) (by have := HQ.out; omega) ?_; intro U7 hcQ hfQ hk7)
 have hB7 := hB6w.trans (hk7.mono hB6w.size)
 have c6 := (hk7.cell (p := ⟨B6, 0, none⟩) (lt_of_cell c6)).trans c6
 have z9 := (hk7.frozen (p := ⟨B8 + 1, 0, none⟩) (lt_of_cell c9)).trans z9
 have c8 := (hk7.cell (p := ⟨B8, 0, none⟩) (lt_of_cell c8)).trans c8
 have h9l := lt_of_cell c9
 have c9 := (hk7.cell (p := ⟨B8 + 1, 0, none⟩) h9l).trans c9
 have hfR := hfR.below hk7 (hcR.lt (by omega))
 have hcD := hcD.below hk7 (.inl (Nat.le_refl _))
 have hcR := hcR.below hk7 (.inl (Nat.le_refl _))
 obtain ⟨gQ, hgQ⟩ : ∃ gQ, U6.heap.size = gQ := ⟨_, rfl⟩
 have hQ9 : B8 + 1 < gQ := by rw [← hgQ]; exact h9l
 rw [hgQ] at hcQ hfQ ⊢
 have hwQ : w.heap.size ≤ gQ := by rw [← hgQ]; exact hB6w.size
 have hQl : gQ < U7.heap.size := hcQ.lt (by have := HQ.out; omega)
 clear hk7 h9l hgQ
 have hk8 := below_alloc' U7 (Obj.cells #[.slice (some ⟨gQ, 0, none⟩) mq mq] 23)
 have c10 : (U7.alloc (Obj.cells #[.slice (some ⟨gQ, 0, none⟩) mq mq] 23)).cell? ⟨U7.heap.size, 0, none⟩ = some (.slice (some ⟨gQ, 0, none⟩) mq mq) := by simp [go_sem]
 have hs8 : (U7.alloc (Obj.cells #[.slice (some ⟨gQ, 0, none⟩) mq mq] 23)).heap.size = U7.heap.size + 1 := by simp
 obtain ⟨U8, hU8⟩ : ∃ U8, U7.alloc (Obj.cells #[.slice (some ⟨gQ, 0, none⟩) mq mq] 23) = U8 := ⟨_, rfl⟩
 obtain ⟨B10, hB10⟩ : ∃ B10, U7.heap.size = B10 := ⟨_, rfl⟩
 rw [hU8] at hk8 c10 hs8 ⊢
 have hB8' := hB7.trans (hk8.mono hB7.size)
 have c6 := (hk8.cell (p := ⟨B6, 0, none⟩) (lt_of_cell c6)).trans c6
 have z9 := (hk8.frozen (p := ⟨B8 + 1, 0, none⟩) (lt_of_cell c9)).trans z9
 have c8 := (hk8.cell (p := ⟨B8, 0, none⟩) (lt_of_cell c8)).trans c8
 have c9 := (hk8.cell (p := ⟨B8 + 1, 0, none⟩) (lt_of_cell c9)).trans c9
 have hfR := hfR.below hk8 (hcR.lt (by omega))
 have hfQ := hfQ.below hk8 hQl
 have hcD := hcD.below hk8 (.inl (Nat.le_refl _))
 have hcR := hcR.below hk8 (.inl (Nat.le_refl _))
 have hcQ := hcQ.below hk8 (.inl (Nat.le_refl _))
 rw [hB10] at c10 hs8 hQl ⊢
 clear hk8 hU8 hB10
 refine (backward_any _ _ _ _).mono ?_
 rintro e w' ⟨rfl, rfl⟩
 have hk9 := below_alloc' U8 (Obj.cells #[.slice (some ⟨gQ, 0, none⟩) mq mq] 23)
 have cX : (U8.alloc (Obj.cells #[.slice (some ⟨gQ, 0, none⟩) mq mq] 23)).cell? ⟨U8.heap.size, 0, none⟩ = some (.slice (some ⟨gQ, 0, none⟩) mq mq) := by simp [go_sem]
 have hs9 : (U8.alloc (Obj.cells #[.slice (some ⟨gQ, 0, none⟩) mq mq] 23)).heap.size = U8.heap.size + 1 := by simp
 go_wp2_with fail
 obtain ⟨U9, hU9⟩ : ∃ U9, U8.alloc (Obj.cells #[.slice (some ⟨gQ, 0, none⟩) mq mq] 23) = U9 := ⟨_, rfl⟩
 rw [hU9] at hk9 cX hs9 ⊢
 rw [hs8] at cX hs9
 have hB9 := hB8'.trans (hk9.mono hB8'.size)
 have hmul : dgt (leftN (x * 2 ^ s) (y * 2 ^ s) mq) = dgt (x * 2 ^ s) := by
  rw [leftN_top]
  have h := HM.out.2.2.2.1
  rw [show nx - (m + 1) = mq from by have := HQ.out; omega] at h
  exact h
 have hInv : DivInv w U9 B6 B8 B10 gD gR gQ m nx mq (x * 2 ^ s) (y * 2 ^ s) (x / y) mq U9 :=
  ⟨(hk9.cell (p := ⟨B6, 0, none⟩) (lt_of_cell c6)).trans c6, (hk9.cell (p := ⟨B8, 0, none⟩) (lt_of_cell c8)).trans c8, (hk9.cell (p := ⟨B8 + 1, 0, none⟩) (lt_of_cell c9)).trans c9, (hk9.frozen (p := ⟨B8 + 1, 0, none⟩) (lt_of_cell c9)).trans z9,
    (hk9.cell (p := ⟨B10, 0, none⟩) (lt_of_cell c10)).trans c10, cX, hB9, Nat.le_refl _, hcD.below hk9 (.inl (Nat.le_refl _)), by rw [hmul]; exact hcR.below hk9 (.inl (Nat.le_refl _)),
    (hcQ.below hk9 (.inl (Nat.le_refl _))).congr fun j hj => by simp [mixF, hj], hfR.below hk9 (hcR.lt (by omega)), hfQ.below hk9 (hcQ.lt (by have := HQ.out; omega))⟩
 have HI0 := hide hInv
 have hszQ : B10 + 2 ≤ U9.heap.size := by omega
 have hwU : w.heap.size ≤ U9.heap.size := hB9.size
 have hmx : Tryz.prog.follows .mixedOrders = true := by kernel_rfl
 clear hInv c6 c8 c9 z9 c10 cX hcD hcR hcQ hfR hfQ hmul hU9 hk9 hB9 hB8' hB7 hB6w hB5 hB4 hB3 hB2 hB1 hs8 hs9
 refine wp_backW (B10 + 1) (some ⟨gQ, 0, none⟩) mq mq (by have := HQ.out; omega) rfl rfl
  (fun k W => DivInv w U9 B6 B8 B10 gD gR gQ m nx mq (x * 2 ^ s) (y * 2 ^ s) (x / y) k W) (fun _ _ => False)
  ?hI ?hIx (fun _ _ h => h.cX) HI0.out
  (fun k v => { tmps := #[.slice ax nx cx, .slice (some ⟨by', oy, none⟩) (m + 2) cy, undef, undef, .slice none 0 0, .slice none 0 0, .pointer (some ⟨B6, 0, none⟩), .int .i64 (s : Int), .pointer (some ⟨B8, 0, none⟩), .pointer (some ⟨B8 + 1, 0, none⟩), .pointer (some ⟨B10, 0, none⟩), .int .i64 (k : Int), .slice (some ⟨by', oy, none⟩) (m + 2) cy, .int .i64 ((m : Int) + 2), .slice (some ⟨by', oy, none⟩) (m + 2) cy, .slice (some ⟨by', oy, none⟩) (m + 2) cy, .int .i64 ((m : Int) + 2), .int .i64 ((m : Int) + 2 - 1), .pointer (some ⟨by', oy + (m + 1), none⟩), .int .u32 (t : Int), .int .i64 (s : Int), .slice (some ⟨by', oy, none⟩) (m + 2) cy, .int .i64 ((m : Int) + 2), .slice (some ⟨gD, 0, none⟩) (m + 2) (m + 2), .slice ax nx cx, .slice ax nx cx, .int .i64 (nx : Int), .int .i64 ((nx : Int) + 1), .slice (some ⟨gR, 0, none⟩) (nx + 1) (nx + 1), .slice (some ⟨gD, 0, none⟩) (m + 2) (m + 2), .int .i64 (s : Int), v5, .slice (some ⟨gR, 0, none⟩) (nx + 1) (nx + 1), .int .i64 (s : Int), v6, .slice (some ⟨gR, 0, none⟩) (nx + 1) (nx + 1), .int .i64 ((nx : Int) + 1), .int .i64 ((m : Int) + 2), .int .i64 (mq : Int), .slice (some ⟨gQ, 0, none⟩) mq mq, .slice (some ⟨gQ, 0, none⟩) mq mq, .func (.func 113) #[] #[.pointer (some ⟨B10 + 1, 0, none⟩)], .int .i64 (k : Int), .int .u32 v, undef, undef, undef, undef, undef, undef, undef, undef, undef, undef, undef, undef, undef, undef, undef, undef, undef, undef, undef, undef, undef, undef], defers := [] })
  ?hcell ?assign ?body ?done ?stop
 case hI => exact ownFrom_of (fun _ _ h => h.size) fun _ _ _ h hc => h.calm hwU hc
 case hIx => exact fun _ _ _ _ h _ _ => h
 case hcell =>
  rintro k W hk h
  exact ⟨gQ, 0, _, rfl, h.cQ k hk⟩
 case assign =>
  intro l k v W K hK
  gi_wp2
  exact hK
 case body =>
  rintro l k v b' off' W hk h ha hcv
  cases ha
  have hh := h.drew
  have c6 := hh.c6
  have c8 := hh.c8
  have c9 := hh.c9
  have c10 := hh.c10
  have hcQk := hh.cQ k hk
  have hfQk := hh.fQ k hk
  have hbR : gR < W.heap.size := h.cR.lt (by omega)
  have hD0 : 0 < y * 2 ^ s := by have := HM.out.1; have := bp_pos (m + 1); omega
  have hpl := partN_lt (A := x * 2 ^ s) (D := y * 2 ^ s) (k := k) hD0
  have hDl := HM.out.2.1
  have hpb : partN (x * 2 ^ s) (y * 2 ^ s) k < bp (m + 3) := by
   have e : bp (m + 3) = 4294967296 * bp (m + 2) := bp_succ (m + 2)
   rw [e]
   have : y * 2 ^ s * 4294967296 ≤ bp (m + 2) * 4294967296 := Nat.mul_le_mul_right _ (Nat.le_of_lt hDl)
   omega
  have hvX : valF (dgt (partN (x * 2 ^ s) (y * 2 ^ s) k)) (m + 3) = partN (x * 2 ^ s) (y * 2 ^ s) k := by rw [valF_dgt, Nat.mod_eq_of_lt hpb]
  have hvY : valF (dgt (y * 2 ^ s)) (m + 2) = y * 2 ^ s := by rw [valF_dgt, Nat.mod_eq_of_lt hDl]
  have hkn : 0 + k + (m + 3) ≤ nx + 1 := by have := HQ.out; omega
  have hcall := takeOut_any gR (0 + k) m (nx + 1 - k) (m + 2) gD 0 (dgt (partN (x * 2 ^ s) (y * 2 ^ s) k)) (dgt (y * 2 ^ s)) (by omega) (fun _ _ => dgt_lt _ _) (fun _ _ => dgt_lt _ _) HM.out.2.2.1 (by rw [hvX, hvY]; exact hpl) (by omega) (Nat.le_refl _) W.drew
   ((hh.cR.shift (k := k) (n := m + 3) (by omega)).congr fun j _ => dgt_left_high _ _ _ _) hh.cD (by omega) (fun j hj => by have := hh.fR (k + j) (by omega); rw [← Nat.add_assoc] at this; exact this)
  rw [hvX, hvY] at hcall
  have HC := hide hcall
  have HH := hide hh
  have HP := hide (And.intro hD0 (And.intro hDl hkn))
  have j1 : IntKind.i64.wrap ((k : Int) + ((m : Int) + 2)) = (k : Int) + ((m : Int) + 2) := IntWalk.i64_in _ (by omega)
  have j2 : IntKind.i64.wrap ((k : Int) + ((m : Int) + 2) + 1) = (k : Int) + ((m : Int) + 2) + 1 := IntWalk.i64_in _ (by omega)
  clear hcall hh hD0 hpl hDl hpb hvX hvY hkn hcv
  gi_wp2
  refine inRound_held_drew (S := fun W' => W'.cell? ⟨B6, 0, none⟩ = some (.int .i64 ((m : Int) + 2)) ∧ W'.cell? ⟨B8, 0, none⟩ = some (.slice (some ⟨gD, 0, none⟩) (m + 2) (m + 2)) ∧ W'.cell? ⟨B8 + 1, 0, none⟩ = some (.slice (some ⟨gR, 0, none⟩) (nx + 1) (nx + 1)) ∧ W'.cell? ⟨B10, 0, none⟩ = some (.slice (some ⟨gQ, 0, none⟩) mq mq))
   l 9 (by rintro ⟨_, _, h⟩; exact h) (by kernel_rfl) hmx ⟨c6, c8, c9, c10⟩ (fun hHeld => ?_)
  refine tk 0 (.slice (some ⟨gQ, 0, none⟩) mq mq) 44 rfl rfl ?_ (Or.inl ⟨by rfl, fun w' hSw => by obtain ⟨s6, s8, s9, s10⟩ := hSw; go_simp⟩)
  simp only [Act.put, pA, pB, pC]
  refine tk 1 (.int .i64 (k : Int)) 45 rfl rfl ?_ (Or.inl ⟨by rfl, fun w' hSw => by obtain ⟨s6, s8, s9, s10⟩ := hSw; go_simp⟩)
  simp only [Act.put, pA, pB, pC]
  refine tk 2 (.slice (some ⟨gR, 0, none⟩) (nx + 1) (nx + 1)) 46 rfl rfl ?_ (Or.inl ⟨by rfl, fun w' hSw => by obtain ⟨s6, s8, s9, s10⟩ := hSw; go_simp⟩)
  simp only [Act.put, pA, pB, pC]
  refine tk 3 (.int .i64 (k : Int)) 47 rfl rfl ?_ (Or.inl ⟨by rfl, fun w' hSw => by obtain ⟨s6, s8, s9, s10⟩ := hSw; go_simp⟩)
  simp only [Act.put, pA, pB, pC]
  refine tk 4 (.int .i64 (k : Int)) 48 rfl rfl ?_ (Or.inl ⟨by rfl, fun w' hSw => by obtain ⟨s6, s8, s9, s10⟩ := hSw; go_simp⟩)
  simp only [Act.put, pA, pB, pC]
  refine tk 5 (.int .i64 ((m : Int) + 2)) 49 rfl rfl ?_ (Or.inl ⟨by rfl, fun w' hSw => by obtain ⟨s6, s8, s9, s10⟩ := hSw; go_simp⟩)
  simp only [Act.put, pA, pB, pC]
  refine tk 6 (.int .i64 ((k : Int) + ((m : Int) + 2))) 50 rfl rfl ?_ (Or.inl ⟨by rfl, fun w' hSw => by obtain ⟨s6, s8, s9, s10⟩ := hSw; go_simp⟩)
  simp only [Act.put, pA, pB, pC]
  refine tk 7 (.int .i64 ((k : Int) + ((m : Int) + 2) + 1)) 51 rfl rfl ?_ (Or.inl ⟨by rfl, fun w' hSw => by obtain ⟨s6, s8, s9, s10⟩ := hSw; go_simp⟩)
  simp only [Act.put, pA, pB, pC]
  have g1 : (0 : Int) ≤ (k : Int) := by omega
  have g2 : (k : Int) ≤ (k : Int) + ((m : Int) + 2) + 1 := by omega
  have g3 : (k : Int) + ((m : Int) + 2) + 1 ≤ (nx : Int) + 1 := by have := HP.out.2.2; omega
  have g4 : ¬ nx + 1 = k := by have := HP.out.2.2; omega
  have g5 : ((k : Int) + ((m : Int) + 2) + 1 - (k : Int)).toNat = m + 3 := by omega
  have g6 : ((k : Int) + ((m : Int) + 2) + 1).toNat - k = m + 3 := by omega
  refine tk 8 (.slice (some ⟨gR, 0 + k, none⟩) (m + 3) (nx + 1 - k)) 52 rfl rfl ?_ (Or.inl ⟨by rfl, fun w' hSw => by obtain ⟨s6, s8, s9, s10⟩ := hSw; go_simp⟩)
  simp only [Act.put, pA, pB, pC]
  refine tk 9 (.slice (some ⟨gD, 0, none⟩) (m + 2) (m + 2)) 53 rfl rfl ?_ (Or.inl ⟨by rfl, fun w' hSw => by obtain ⟨s6, s8, s9, s10⟩ := hSw; go_simp⟩)
  simp only [Act.put, pA, pB, pC]
  refine wpAnyH_one 10 (by kernel_rfl) ?_
  refine wpOp_call (i := 10) (f := 157) (args := #[.slice (some ⟨gR, 0 + k, none⟩) (m + 3) (nx + 1 - k), .slice (some ⟨gD, 0, none⟩) (m + 2) (m + 2)]) 54 rfl rfl (by rfl) (by go_simp) ?_
  refine HC.out.mono ?_
  rintro e W2 ⟨f', rfl, hf', hv', hc', ht'⟩
  refine ⟨_, rfl, ⟨cell_touch (a := ⟨B6, 0, none⟩) ht' (by show B6 ≠ gR; omega) c6, cell_touch (a := ⟨B8, 0, none⟩) ht' (by show B8 ≠ gR; omega) c8, cell_touch (a := ⟨B8 + 1, 0, none⟩) ht' (by show B8 + 1 ≠ gR; omega) c9, cell_touch (a := ⟨B10, 0, none⟩) ht' (by show B10 ≠ gR; omega) c10⟩, ?_⟩
  simp only [Act.put, pA, pB, pC]
  have t6 := cell_touch (a := ⟨B6, 0, none⟩) ht' (by show B6 ≠ gR; omega) c6
  have t8 := cell_touch (a := ⟨B8, 0, none⟩) ht' (by show B8 ≠ gR; omega) c8
  have t9 := cell_touch (a := ⟨B8 + 1, 0, none⟩) ht' (by show B8 + 1 ≠ gR; omega) c9
  have t10 := cell_touch (a := ⟨B10, 0, none⟩) ht' (by show B10 ≠ gR; omega) c10
  have hkA : (k : Int) < (mq : Int) := by omega
  have hqz : W2.frozen? ⟨gQ, 0 + k, none⟩ = false := (frozen_of_block_eq (ht'.block gQ (lt_of_cell (a := ⟨gQ, 0 + k, none⟩) hcQk) (by omega)) (0 + k)).trans hfQk
  have hqc := cell_touch (a := ⟨gQ, 0 + k, none⟩) ht' (by show gQ ≠ gR; omega) hcQk
  have hN := HH.out.next hk HQ.out HP.out.1 HP.out.2.1 unshift_div hD6 hRD hRl hQ9 hQl HW.out.2 hwQ hf' hv' hc' ht'
  have HN := hide hN
  have hKF : KeepsFrom U9.heap.size W (W2.setCell ⟨gQ, 0 + k, none⟩ (.int .u32 ((partN (x * 2 ^ s) (y * 2 ^ s) k / (y * 2 ^ s) : Nat) : Int))) :=
   (((KeepsOthers.drew W).from _).trans (ht'.keepsFrom (by omega))).trans ((KeepsOthers.setCell _ _ _).from _)
  have HK := hide hKF
  obtain ⟨qd, hqd⟩ : ∃ qd, partN (x * 2 ^ s) (y * 2 ^ s) k / (y * 2 ^ s) = qd := ⟨_, rfl⟩
  rw [hqd, Nat.zero_add] at HN HK
  rw [hqd]
  rw [Nat.zero_add] at hqc hqz
  clear hN hKF hqd
  have hSw2 : (fun W' : World => W'.cell? ⟨B6, 0, none⟩ = some (.int .i64 ((m : Int) + 2)) ∧ W'.cell? ⟨B8, 0, none⟩ = some (.slice (some ⟨gD, 0, none⟩) (m + 2) (m + 2)) ∧ W'.cell? ⟨B8 + 1, 0, none⟩ = some (.slice (some ⟨gR, 0, none⟩) (nx + 1) (nx + 1)) ∧ W'.cell? ⟨B10, 0, none⟩ = some (.slice (some ⟨gQ, 0, none⟩) mq mq)) W2 := ⟨t6, t8, t9, t10⟩
  refine tk 11 (.pointer (some ⟨gQ, 0 + k, none⟩)) 55 rfl rfl ?_ (Or.inl ⟨by rfl, fun w' hSw => by obtain ⟨s6, s8, s9, s10⟩ := hSw; go_simp⟩)
  simp only [Act.put, pA, pB, pC]
  refine wpAnyH_one 12 (by kernel_rfl) ?_
  refine wpOp_run (i := 12) rfl ?_
  go_simp
  exact wpAnyH_done (by kernel_rfl) ⟨HK.out, HN.out⟩ _
 case done =>
  rintro D W hD h hK
  have hqV : x / y < bp mq := by
   have h1 := HM.out.2.2.2.1
   rw [show nx - (m + 1) = mq from by have := HQ.out; omega] at h1
   have hy0 : 0 < y := by
    rcases Nat.eq_zero_or_pos y with e | e
    · exfalso; rw [e] at h1; simp at h1
    · exact e
   rw [Nat.div_lt_iff_lt_mul hy0]
   have h2 : x * 2 ^ s < bp mq * y * 2 ^ s := by rw [Nat.mul_comm (bp mq), Nat.mul_right_comm]; exact h1
   exact Nat.lt_of_mul_lt_mul_right h2
  have hD0 : 0 < y * 2 ^ s := by have := HM.out.1; have := bp_pos (m + 1); omega
  have hy0 : 0 < y := Nat.pos_of_ne_zero fun e => by rw [e, Nat.zero_mul] at hD0; omega
  have hrV : x * 2 ^ s % (y * 2 ^ s) < bp (m + 2) := Nat.lt_trans (Nat.mod_lt _ hD0) HM.out.2.1
  have hrr : x % y < bp (m + 2) := by
   have h1 := Nat.mod_lt x hy0
   have h2 := lt_bp_dlen y
   rw [← HXY.out.2.len] at h2
   omega
  have hcR : Cells W gR 0 (m + 2) (dgt (x * 2 ^ s % (y * 2 ^ s))) := (h.cR.mono (by omega)).congr fun j _ => by rw [leftN_zero]
  have hcQ : Cells W gQ 0 mq (dgt (x / y)) := h.cQ.congr fun j _ => by simp [mixF]
  have ne : ∀ {x y o p : Nat}, x ≠ y → (⟨x, o, none⟩ : Addr) ≠ ⟨y, p, none⟩ := fun h e => h (congrArg Addr.block e)
  have s6 := h.c6
  have s8 := h.c8
  have s9 := h.c9
  have sz := h.z9
  have s10 := h.c10
  have hbel := h.bel
  have HH := hide h
  have HV := hide (And.intro hqV (And.intro hrV (And.intro hrr hy0)))
  have g3 : (m : Int) + 2 ≤ (nx : Int) + 1 := by omega
  have g4 : (0 : Int) ≤ (m : Int) + 2 := by omega
  have g5 : ((m : Int) + 2).toNat = m + 2 := by omega
  clear h hqV hrV hrr hD0 hy0
  go_wp2_with fail
  have hDB : D ≠ B8 + 1 := by omega
  have hDR : D ≠ gR := by omega
  have t9 : (W.setCell ⟨B8 + 1, 0, none⟩ (.slice (some ⟨gR, 0, none⟩) (m + 2) (nx + 1))).cell? ⟨B8 + 1, 0, none⟩ = some (.slice (some ⟨gR, 0, none⟩) (m + 2) (nx + 1)) := World.cell?_setCell_same' _ _ _ (by rw [s9]; rfl)
  have t10 : (W.setCell ⟨B8 + 1, 0, none⟩ (.slice (some ⟨gR, 0, none⟩) (m + 2) (nx + 1))).cell? ⟨B10, 0, none⟩ = some (.slice (some ⟨gQ, 0, none⟩) mq mq) := (cell_setCell_ne _ _ _ _ (ne (by omega)) rfl rfl).trans s10
  have tR : Cells (W.setCell ⟨B8 + 1, 0, none⟩ (.slice (some ⟨gR, 0, none⟩) (m + 2) (nx + 1))) gR 0 (m + 2) (dgt (x * 2 ^ s % (y * 2 ^ s))) := fun j hj => (cell_setCell_ne _ _ _ _ (ne (by omega)) rfl rfl).trans (hcR j hj)
  have tQ : Cells (W.setCell ⟨B8 + 1, 0, none⟩ (.slice (some ⟨gR, 0, none⟩) (m + 2) (nx + 1))) gQ 0 mq (dgt (x / y)) := fun j hj => (cell_setCell_ne _ _ _ _ (ne (by omega)) rfl rfl).trans (hcQ j hj)
  have tF : Free (W.setCell ⟨B8 + 1, 0, none⟩ (.slice (some ⟨gR, 0, none⟩) (m + 2) (nx + 1))) gR 0 (m + 2) := fun j hj => by rw [World.frozen?_setCell]; exact HH.out.fR j (by omega)
  have tB : Below w.heap.size w (W.setCell ⟨B8 + 1, 0, none⟩ (.slice (some ⟨gR, 0, none⟩) (m + 2) (nx + 1))) := hbel.setCell (p := ⟨B8 + 1, 0, none⟩) (by show w.heap.size ≤ B8 + 1; have := HW.out.2; omega) _
  have tK : (W.setCell ⟨B8 + 1, 0, none⟩ (.slice (some ⟨gR, 0, none⟩) (m + 2) (nx + 1))).heap[D]? = some (.deferred (some [])) := (Below.heap_setCell _ _ _ _ (by exact hDB)).trans hK
  obtain ⟨W1, hW1⟩ : ∃ W1, W.setCell ⟨B8 + 1, 0, none⟩ (.slice (some ⟨gR, 0, none⟩) (m + 2) (nx + 1)) = W1 := ⟨_, rfl⟩
  rw [hW1] at t9 t10 tR tQ tF tB tK ⊢
  clear hW1 s6 s8 s9 sz s10 hbel hcR hcQ hK HH
  have hgl : gR < W1.heap.size := tR.lt (by omega)
  refine (shiftDown_any gR 0 (m + 2) (nx + 1) (x * 2 ^ s % (y * 2 ^ s)) s hs31 (by omega) HV.out.2.1 W1 hgl tR tF).mono ?_
  rintro e W2 ⟨⟨v7, rfl⟩, hcR, ht⟩
  rw [unshift_mod] at hcR
  have hB2 := tB.trans (ht.below HW.out.2 tB.size)
  have t9 := cell_touch (a := ⟨B8 + 1, 0, none⟩) ht (by show B8 + 1 ≠ gR; omega) t9
  have t10 := cell_touch (a := ⟨B10, 0, none⟩) ht (by show B10 ≠ gR; omega) t10
  have hcQ := tQ.touch ht (.inl (by omega))
  have hK2 := (ht.block D (Array.getElem?_eq_some_iff.1 tK).1 hDR).trans tK
  have hmq : mq ≤ 1099511627776 := by have := HQ.out; omega
  have hT1 := fun W' (hb : Below W2.heap.size W2 W') => trim_block gQ mq mq (x / y) hmq (Nat.le_refl _) HV.out.1 W' (hcQ.below hb (.inl (Nat.le_refl _)))
  have hT2 := fun W' (hb : Below W2.heap.size W2 W') => trim_block gR (m + 2) (nx + 1) (x % y) (by omega) (by omega) HV.out.2.2.1 W' (hcR.below hb (.inl (Nat.le_refl _)))
  have HT1 := hide hT1
  have HT2 := hide hT2
  have hl9 := lt_of_cell t9
  have hl10 := lt_of_cell t10
  obtain ⟨nq, hnq⟩ : ∃ nq, dlen (x / y) = nq := ⟨_, rfl⟩
  obtain ⟨nr, hnr⟩ : ∃ nr, dlen (x % y) = nr := ⟨_, rfl⟩
  rw [hnq] at HT1
  rw [hnr] at HT2
  have HN := hide (And.intro hnq hnr)
  clear hT1 hT2 ht tR tQ tF tB tK hnq hnr
  go_wp2_with fail
  have K0 : W2.drew.cell? ⟨B10, 0, none⟩ = some (.slice (some ⟨gQ, 0, none⟩) mq mq) ∧ W2.drew.cell? ⟨B8 + 1, 0, none⟩ = some (.slice (some ⟨gR, 0, none⟩) (m + 2) (nx + 1)) := ⟨t10, t9⟩
  have hb0 : Below W2.heap.size W2 W2.drew := (Below.refl _ _).drew
  go_region_held3 (fun w' => w'.cell? ⟨B10, 0, none⟩ = some (.slice (some ⟨gQ, 0, none⟩) mq mq) ∧ w'.cell? ⟨B8 + 1, 0, none⟩ = some (.slice (some ⟨gR, 0, none⟩) (m + 2) (nx + 1)))
   (first | with_reducible exact K0 | with_reducible exact K1 | with_reducible exact K2 | go_keep)
   (first
     | (go_at_call 112; (with_reducible refine (HT1.out _ (by assumption)).mono ?_); rintro e W3 ⟨a3, c3, rfl, ha3, hc3, hb3⟩; have B3 := hb0.trans (hb3.mono hb0.size); have K1 : W3.cell? ⟨B10, 0, none⟩ = some (.slice (some ⟨gQ, 0, none⟩) mq mq) ∧ W3.cell? ⟨B8 + 1, 0, none⟩ = some (.slice (some ⟨gR, 0, none⟩) (m + 2) (nx + 1)) := ⟨(B3.cell (p := ⟨B10, 0, none⟩) hl10).trans t10, (B3.cell (p := ⟨B8 + 1, 0, none⟩) hl9).trans t9⟩)
     | (go_at_call 112; (with_reducible refine (HT2.out _ (by assumption)).mono ?_); rintro e W4 ⟨a4, c4, rfl, ha4, hc4, hb4⟩; have B4 := B3.trans (hb4.mono B3.size); have K2 : W4.cell? ⟨B10, 0, none⟩ = some (.slice (some ⟨gQ, 0, none⟩) mq mq) ∧ W4.cell? ⟨B8 + 1, 0, none⟩ = some (.slice (some ⟨gR, 0, none⟩) (m + 2) (nx + 1)) := ⟨(B4.cell (p := ⟨B10, 0, none⟩) hl10).trans t10, (B4.cell (p := ⟨B8 + 1, 0, none⟩) hl9).trans t9⟩))
  clear K0 K1 K2
  go_wp2
  have hK4 : W4.heap[D]? = some (.deferred (some [])) := (B4.block D (Array.getElem?_eq_some_iff.1 hK2).1).trans hK2
  have hc := calm_put (.deferred none) hD hK4 rfl
  obtain ⟨hnq, hnr⟩ := HN.out
  have hQ4 := isD_trim (hcQ.below B4 (.inl (Nat.le_refl _))) HV.out.1 (by rw [hnq]; exact ha3)
  have hR4 := isD_trim (hcR.below B4 (.inl (Nat.le_refl _))) HV.out.2.2.1 (by rw [hnr]; exact ha4)
  rw [hnq] at hQ4
  rw [hnr] at hR4
  exact leavesM_one hK4 ⟨_, results_tmp2 rfl _ _ _, a3, nq, c3, a4, nr, c4, rfl, hQ4.calm hc, hc3, fresh_trim hwQ ha3, hR4.calm hc, hc4, fresh_trim HW.out.2 ha4, (hB2.trans (B4.mono hB2.size)).trans (hc.below.mono hwU)⟩
 case stop => exact fun _ _ _ _ h _ => h.elim
end Go.Proofs.YtgenaicmjddjcaaGreatDoor

/- num's divide and Div of whatever numbers. -/
namespace Go.Proofs.YtgenaicmjddjcaaGreatDoor
open Go.RowKit Go.Shelf

set_option maxRecDepth 100000 in
set_option maxHeartbeats 2000000 in
theorem divide_long (ax ay : Option Addr) (x y nx m cx cy : Nat) (hn : nx ≤ 100000000000) (w : World) (hx : IsD w ax nx x) (hy : IsD w ay (m + 2) y) (hxy : y ≤ x) :
 Calls Tryz.prog 104 #[.slice ax nx cx, .slice ay ((m + 2 : Nat)) cy] w (DivPost w x y) := by
 have hcall := compare_any ax ay x y cx cy (by rw [← hx.len]; omega) w (by rw [← hx.len]; exact hx.dig) (by rw [← hy.len]; exact hy.dig)
 rw [← hx.len, ← hy.len] at hcall
 have hcmp : 0 ≤ cmpN x y := by
  rcases Nat.lt_or_eq_of_le hxy with h | h
  · rw [cmpN_gt h]; decide
  · rw [h, cmpN_eq]; decide
 have hlong := fun w1 (hb : Below w.heap.size w w1) => divideLong_any ax ay x y nx m cx cy hn w1 (hx.below hb) (hy.below hb) hxy
 have HC := hide hcall
 have HL := hide hlong
 have hm1 : (((m : Int) + 2) == 1) = false := by simp; omega
 clear hcall hlong
 go_enter Tryz.func104, Tryz.ntmps104
 go_wp2_with fail
 refine HC.out.mono ?_
 rintro e w1 ⟨rfl, hb1⟩
 go_wp2_with fail
 refine (HL.out w1 hb1).mono ?_
 rintro e w2 ⟨a1, n1, c1, a2, n2, c2, rfl, h1, k1, f1, h2, k2, f2, hb2⟩
 go_wp2
 go_ret2
 exact ⟨a1, n1, c1, a2, n2, c2, rfl, h1, k1, f1.imp id (fun h ad e => Nat.le_trans hb1.size (h ad e)), h2, k2, f2.imp id (fun h ad e => Nat.le_trans hb1.size (h ad e)), hb1.trans (hb2.mono hb1.size)⟩
theorem divide_any (ax ay : Option Addr) (x y nx ny cx cy : Nat) (hn : nx ≤ 100000000000) (hy0 : 0 < ny) (w : World) (hx : IsD w ax nx x) (hy : IsD w ay ny y) :
 Calls Tryz.prog 104 #[.slice ax nx cx, .slice ay ny cy] w (DivPost w x y) := by
 rcases Nat.lt_or_ge x y with h | h
 · exact divide_lt ax ay x y nx ny cx cy (by omega) w hx hy h
 · match ny, hy0, hy with
   | 1, _, hy => exact divide_digit ax ay x y nx cx cy (by omega) w hx hy h
   | m + 2, _, hy => exact divide_long ax ay x y nx m cx cy hn w hx hy h
theorem div_num (sa sb : Bool) (aa ab : Option Addr) (na nb ca cb : Nat) (za zb : Int) (hna : na ≤ 64) (hnb : nb ≤ 64) (w : World) (ha : IsN w sa aa na za) (hb : IsN w sb ab nb zb) (hb0 : 0 < nb) :
 Calls Tryz.prog 56 #[.agg #[.bool sa, .slice aa na ca], .agg #[.bool sb, .slice ab nb cb]] w (DivsPost w za zb) :=
 div_of sa sb aa ab na nb ca cb za zb hna hnb w ha hb hb0 fun w1 hw => divide_any aa ab _ _ na nb ca cb (by omega) hb0 w1 (ha.dig.below hw) (hb.dig.below hw)
end Go.Proofs.YtgenaicmjddjcaaGreatDoor

