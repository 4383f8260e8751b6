/- Several texts in one. -/
import Derived.Test.YtgenaicmjddjcaaGreatDoorPNumB
import Derived.Test.YtgenaicmjddjcaaGreatDoorPNumC
/- num's shorten: digits divided in their place by one digit. -/
namespace Go.Proofs.YtgenaicmjddjcaaGreatDoor
open Go.RowKit Go.Shelf
attribute [local go_sem] Oper.semAt_some

theorem shorten_step (V k y : Nat) (hy : 0 < y) : (hiN V (k + 1) % y * 4294967296 + dgt V k) / y = dgt (V / y) k ∧ (hiN V (k + 1) % y * 4294967296 + dgt V k) % y = hiN V k % y ∧ (hiN V (k + 1) % y * 4294967296 + dgt V k) / y < 4294967296 := by
 have h0 : hiN V k = hiN V (k + 1) * 4294967296 + dgt V k := div_bp_step V k
 have hd := dgt_lt V k
 have h1 : hiN V k = (hiN V (k + 1) % y * 4294967296 + dgt V k) + hiN V (k + 1) / y * 4294967296 * y := by
  rw [h0]
  have h := Nat.div_add_mod (hiN V (k + 1)) y
  generalize hiN V (k + 1) / y = q at *
  generalize hiN V (k + 1) % y = r at *
  rw [← h, Nat.add_mul, Nat.mul_assoc, Nat.mul_comm y]
  omega
 have hr : hiN V (k + 1) % y < y := Nat.mod_lt _ hy
 have h2 : (hiN V (k + 1) % y * 4294967296 + dgt V k) / y < 4294967296 := by
  rw [Nat.div_lt_iff_lt_mul hy]
  have : (hiN V (k + 1) % y + 1) * 4294967296 ≤ y * 4294967296 := Nat.mul_le_mul_right _ hr
  rw [Nat.mul_comm 4294967296]
  omega
 refine ⟨?_, ?_, h2⟩
 · have h3 : V / y / bp k = hiN V k / y := by unfold hiN; rw [Nat.div_div_eq_div_mul, Nat.div_div_eq_div_mul, Nat.mul_comm]
   unfold dgt
   rw [h3, h1, Nat.add_mul_div_right _ _ hy, Nat.add_mul_mod_self_right]
   exact (Nat.mod_eq_of_lt h2).symm
 · rw [h1, Nat.add_mul_mod_self_right]

set_option maxRecDepth 100000 in
set_option maxHeartbeats 2000000 in
theorem shorten_any (b off L cap V : Nat) (y : Nat) (hy : 0 < y) (hy' : y < 4294967296) (hL : L ≤ 1099511627776) (hVL : V < bp L) (w : World) (hb : b < w.heap.size) (hx : Cells w b off L (dgt V)) (hfr : Free w b off L) :
 Calls Tryz.prog 111 #[.slice (some ⟨b, off, none⟩) L cap, .int .u32 (y : Int)] w fun e w' => e = .returned (.int .u32 ((V % y : Nat) : Int)) ∧
  Cells w' b off L (dgt (V / y)) ∧ Touch b off (off + L) w w' := by
 refine calls_marks Tryz.func111 rfl ?_
 simp only [Tryz.ntmps111, List.size_toArray, List.length_cons, List.length_nil, Nat.reduceAdd, Nat.reduceSub, Array.replicate_succ, Array.replicate_zero, List.push_toArray, List.append_toArray, List.nil_append, List.cons_append]
 go_wp2_with (go_at_call 66; refine (backward_any _ _ _ _).mono ?_; rintro e w' ⟨rfl, rfl⟩)
 obtain ⟨W0, hW0⟩ : ∃ W0, (((w.alloc (Obj.cells #[.slice (some ⟨b, off, none⟩) L cap] 23)).alloc (Obj.cells #[.int .u32 (y : Int)] 68)).alloc (Obj.cells #[.int .u64 0] 77)).alloc (Obj.cells #[.slice (some ⟨b, off, none⟩) L cap] 23) = W0 := ⟨_, rfl⟩
 have c0 : W0.cell? ⟨w.heap.size, 0, none⟩ = some (.slice (some ⟨b, off, none⟩) L cap) := by rw [← hW0]; simp [go_sem]
 have c1 : W0.cell? ⟨w.heap.size + 1, 0, none⟩ = some (.int .u32 (y : Int)) := by rw [← hW0]; simp [go_sem]
 have c2 : W0.cell? ⟨w.heap.size + 1 + 1, 0, none⟩ = some (.int .u64 0) := by rw [← hW0]; simp [go_sem]
 have z2 : W0.frozen? ⟨w.heap.size + 1 + 1, 0, none⟩ = false := by rw [← hW0]; simp [go_sem]
 have c3 : W0.cell? ⟨w.heap.size + 1 + 1 + 1, 0, none⟩ = some (.slice (some ⟨b, off, none⟩) L cap) := by rw [← hW0]; simp [go_sem]
 have hsz : W0.heap.size = w.heap.size + 4 := by rw [← hW0]; simp
 have hB0 : Below w.heap.size w W0 := by rw [← hW0]; exact ((((Below.refl _ w).alloc (Nat.le_refl _) _).alloc (by simp) _).alloc (by simp; omega) _).alloc (by simp; omega) _
 have hT0 : Touch b off (off + L) w W0 := Touch.of_below hB0 (Nat.le_refl _) hb
 rw [hW0]
 clear hW0
 have HVL := hide hVL
 have HX := hide hx
 have HFR := hide hfr
 have hmx : Tryz.prog.follows .mixedOrders = true := by kernel_rfl
 clear hVL hx hfr
 refine wp_backW (w.heap.size + 1 + 1 + 1) (some ⟨b, off, none⟩) L cap (by omega) rfl rfl
  (fun k W => (W.cell? ⟨w.heap.size, 0, none⟩ = some (.slice (some ⟨b, off, none⟩) L cap) ∧ W.cell? ⟨w.heap.size + 1, 0, none⟩ = some (.int .u32 (y : Int)) ∧ W.cell? ⟨w.heap.size + 1 + 1, 0, none⟩ = some (.int .u64 ((hiN V k % y : Nat) : Int)) ∧
    W.frozen? ⟨w.heap.size + 1 + 1, 0, none⟩ = false ∧ W.cell? ⟨w.heap.size + 1 + 1 + 1, 0, none⟩ = some (.slice (some ⟨b, off, none⟩) L cap)) ∧
    Touch b off (off + L) w W ∧ W0.heap.size ≤ W.heap.size ∧ Cells W b off L (mixF (dgt V) (dgt (V / y)) k))
  (fun _ _ => False)
  ?hI ?hIx (fun _ _ h => h.1.2.2.2.2) ⟨⟨c0, c1, by rw [c2, hiN, Nat.div_eq_of_lt HVL.out]; simp, z2, c3⟩, hT0, Nat.le_refl _, (HX.out.below hB0 (.inl (Nat.le_refl _))).congr fun j hj => by simp [mixF, hj]⟩
  (fun k v => { tmps := #[.slice (some ⟨b, off, none⟩) L cap, .int .u32 (y : Int), .pointer (some ⟨w.heap.size, 0, none⟩), .pointer (some ⟨w.heap.size + 1, 0, none⟩), .int .u32 0, .pointer (some ⟨w.heap.size + 1 + 1, 0, none⟩), .int .i64 (k : Int), .int .u32 v, .slice (some ⟨b, off, none⟩) L cap,
    .func (.func 113) #[] #[.pointer (some ⟨w.heap.size + 1 + 1 + 1, 0, none⟩)], .int .i64 (k : Int), .int .u32 v, undef, undef, undef, undef, undef, undef, undef, undef, undef, undef, undef, undef, undef, undef, undef, undef, undef, undef, undef], defers := [] })
  ?hcell ?assign ?body ?done ?stop
 case hI =>
  refine ownFrom_of (fun _ _ h => h.2.2.1) ?_
  rintro s W W' ⟨⟨h0, h1, h2, h3, h4⟩, h5, h6, h7⟩ hc
  exact ⟨⟨hc.cell _ _ h0, hc.cell _ _ h1, hc.cell _ _ h2, (hc.frozen _ _ h2).trans h3, hc.cell _ _ h4⟩, h5.calm hc (by omega) hb, Nat.le_trans h6 hc.below.size, hc.cells h7⟩
 case hIx => exact fun _ _ _ _ h _ _ => h
 case hcell =>
  rintro k W hk ⟨_, _, _, h7⟩
  exact ⟨b, off, _, rfl, h7 k hk⟩
 case assign =>
  intro l k v W K hK
  gi_wp2
  exact hK
 case body =>
  rintro l k v b' off' W hk ⟨⟨h0, h1, h2, h3, h4⟩, h5, h6, h7⟩ ha hcv
  cases ha
  obtain rfl : v = ((dgt V k : Nat) : Int) := by
   have := h7 k hk
   rw [hcv] at this
   have e : mixF (dgt V) (dgt (V / y)) (k + 1) k = dgt V k := by simp [mixF]
   rw [e] at this
   cases this; rfl
  obtain ⟨hq, hr, hq32⟩ := shorten_step V k y hy
  have hrl : hiN V (k + 1) % y < y := Nat.mod_lt _ hy
  have hdl := dgt_lt V k
  obtain ⟨r, hr0⟩ : ∃ r, r = hiN V (k + 1) % y := ⟨_, rfl⟩
  obtain ⟨d, hd0⟩ : ∃ d, d = dgt V k := ⟨_, rfl⟩
  rw [← hr0, ← hd0] at hq hr hq32
  rw [← hr0] at hrl h2
  rw [← hd0] at hdl hcv ⊢
  have hor := or_digits r d (by omega) hdl
  have hfz : W.frozen? ⟨b, off + k, none⟩ = false := HFR.out.touch h5 hb k hk
  have hk' : (k : Int) < L := by omega
  have hbs := lt_of_cell hcv
  have HO := hide hor
  have HQ := hide (And.intro hq (And.intro hr hq32))
  have H7 := hide h7
  clear hor hq hr hq32 hr0 hd0 h7
  gi_wp2
  rw [HO.out]
  obtain ⟨t, ht⟩ : ∃ t, t = r * 4294967296 + d := ⟨_, rfl⟩
  rw [← ht]
  have ht64 : t < 18446744073709551616 := by omega
  have HT := hide ht
  have HT64 := hide ht64
  clear ht ht64
  have e0 : (W.setCell ⟨w.heap.size + 1 + 1, 0, none⟩ (.int .u64 (t : Int))).cell? ⟨w.heap.size, 0, none⟩ = some (.slice (some ⟨b, off, none⟩) L cap) := by rw [cell_setCell_ne _ _ _ _ (fun e => by have := congrArg Addr.block e; simp only at this; omega) rfl rfl]; exact h0
  have e1 : (W.setCell ⟨w.heap.size + 1 + 1, 0, none⟩ (.int .u64 (t : Int))).cell? ⟨w.heap.size + 1, 0, none⟩ = some (.int .u32 (y : Int)) := by rw [cell_setCell_ne _ _ _ _ (fun e => by have := congrArg Addr.block e; simp only at this; omega) rfl rfl]; exact h1
  have e2 : (W.setCell ⟨w.heap.size + 1 + 1, 0, none⟩ (.int .u64 (t : Int))).cell? ⟨w.heap.size + 1 + 1, 0, none⟩ = some (.int .u64 (t : Int)) := World.cell?_setCell_same' _ _ _ (by rw [h2]; rfl)
  have e3 : (W.setCell ⟨w.heap.size + 1 + 1, 0, none⟩ (.int .u64 (t : Int))).frozen? ⟨w.heap.size + 1 + 1, 0, none⟩ = false := by rw [World.frozen?_setCell]; exact h3
  have e4 : (W.setCell ⟨w.heap.size + 1 + 1, 0, none⟩ (.int .u64 (t : Int))).cell? ⟨w.heap.size + 1 + 1 + 1, 0, none⟩ = some (.slice (some ⟨b, off, none⟩) L cap) := by rw [cell_setCell_ne _ _ _ _ (fun e => by have := congrArg Addr.block e; simp only at this; omega) rfl rfl]; exact h4
  have e5 : (W.setCell ⟨w.heap.size + 1 + 1, 0, none⟩ (.int .u64 (t : Int))).cell? ⟨b, off + k, none⟩ = some (.int .u32 (d : Int)) := by rw [cell_setCell_ne _ _ _ _ (fun e => by have := congrArg Addr.block e; simp only at this; omega) rfl rfl]; exact hcv
  have e6 : (W.setCell ⟨w.heap.size + 1 + 1, 0, none⟩ (.int .u64 (t : Int))).frozen? ⟨b, off + k, none⟩ = false := by rw [World.frozen?_setCell]; exact hfz
  have hT1 : Touch b off (off + L) w (W.setCell ⟨w.heap.size + 1 + 1, 0, none⟩ (.int .u64 (t : Int))) := h5.newCell (by omega) hb _
  have hK1 : KeepsFrom W0.heap.size W (W.setCell ⟨w.heap.size + 1 + 1, 0, none⟩ (.int .u64 (t : Int))) := (KeepsOthers.setCell _ _ _).from _
  have hC1 : Cells (W.setCell ⟨w.heap.size + 1 + 1, 0, none⟩ (.int .u64 (t : Int))) b off L (mixF (dgt V) (dgt (V / y)) (k + 1)) := fun j hj => by rw [cell_setCell_ne _ _ _ _ (fun e => by have := congrArg Addr.block e; simp only at this; omega) rfl rfl]; exact H7.out j hj
  have hs1 : (W.setCell ⟨w.heap.size + 1 + 1, 0, none⟩ (.int .u64 (t : Int))).heap.size = W.heap.size := World.size_setCell _ _ _
  obtain ⟨W1, hW1⟩ : ∃ W1, W.setCell ⟨w.heap.size + 1 + 1, 0, none⟩ (.int .u64 (t : Int)) = W1 := ⟨_, rfl⟩
  rw [hW1] at e0 e1 e2 e3 e4 e5 e6 hT1 hK1 hC1 hs1 ⊢
  have HC1 := hide hC1
  have HS1 := hide hs1
  clear hW1 h0 h1 h2 h3 h4 hcv hfz hC1 hs1
  have hdiv := (HQ.out).2.2
  rw [← HT.out] at hdiv
  have hdivI : (t : Int) / (y : Int) < 4294967296 := by rw [← Int.natCast_ediv]; omega
  have hdivI0 : 0 ≤ (t : Int) / (y : Int) := by rw [← Int.natCast_ediv]; exact Int.natCast_nonneg _
  have hy1 : (0 : Int) < (y : Int) := by omega
  obtain ⟨qd, hqd⟩ : ∃ qd, qd = t / y := ⟨_, rfl⟩
  have hq1 : IntKind.u64.wrap ((t : Int) / (y : Int)) = (qd : Int) := by rw [← Int.natCast_ediv, ← hqd]; exact IntWalk.u64_in _ ⟨Int.natCast_nonneg _, by rw [hqd]; omega⟩
  have hqd32 : (qd : Int) < 4294967296 := by rw [hqd]; omega
  have HQD := hide hqd
  have hq0 : IntKind.u64.wrap (y : Int) = (y : Int) := IntWalk.u64_in _ (by omega)
  have hq2 : IntKind.u32.wrap (qd : Int) = (qd : Int) := IntWalk.u32_in _ (by omega)
  clear hdiv hdivI hdivI0 hqd
  have hy3 : ¬ (y = 0) := by omega
  refine wpIn_mono (Q := RegEnd { tmps := #[.slice (some ⟨b, off, none⟩) L cap, .int .u32 (y : Int), .pointer (some ⟨w.heap.size, 0, none⟩), .pointer (some ⟨w.heap.size + 1, 0, none⟩), .int .u32 0, .pointer (some ⟨w.heap.size + 1 + 1, 0, none⟩), .int .i64 (k : Int), .int .u32 (d : Int), .slice (some ⟨b, off, none⟩) L cap,
   .func (.func 113) #[] #[.pointer (some ⟨w.heap.size + 1 + 1 + 1, 0, none⟩)], .int .i64 (k : Int), .int .u32 (d : Int), .int .u64 (r : Int), .int .u64 ((r : Int) * 4294967296), .int .u32 (d : Int), .int .u64 (d : Int), .int .u64 (t : Int), .slice (some ⟨b, off, none⟩) L cap, .int .i64 (k : Int),
   .int .u64 (t : Int), .int .u32 (y : Int), .int .u64 (y : Int), .int .u64 (qd : Int), .int .u32 (qd : Int), .pointer (some ⟨b, off + k, none⟩), undef, undef, undef, undef, undef, undef], defers := [] } ((W1.setCell ⟨b, off + k, none⟩ (.int .u32 (qd : Int))).drew)) ?reg ?cont
  case reg =>
   gi_region_with_o (fail)
   all_goals exact ⟨rfl, rfl, rfl⟩
  case cont =>
   rintro e a w' ⟨rfl, rfl, rfl⟩
   have g1 : (W1.setCell ⟨b, off + k, none⟩ (.int .u32 (qd : Int))).cell? ⟨w.heap.size + 1, 0, none⟩ = some (.int .u32 (y : Int)) := by rw [cell_setCell_ne _ _ _ _ (fun e => by have := congrArg Addr.block e; simp only at this; omega) rfl rfl]; exact e1
   have g2 : (W1.setCell ⟨b, off + k, none⟩ (.int .u32 (qd : Int))).cell? ⟨w.heap.size + 1 + 1, 0, none⟩ = some (.int .u64 (t : Int)) := by rw [cell_setCell_ne _ _ _ _ (fun e => by have := congrArg Addr.block e; simp only at this; omega) rfl rfl]; exact e2
   have g0 : (W1.setCell ⟨b, off + k, none⟩ (.int .u32 (qd : Int))).cell? ⟨w.heap.size, 0, none⟩ = some (.slice (some ⟨b, off, none⟩) L cap) := by rw [cell_setCell_ne _ _ _ _ (fun e => by have := congrArg Addr.block e; simp only at this; omega) rfl rfl]; exact e0
   have g4 : (W1.setCell ⟨b, off + k, none⟩ (.int .u32 (qd : Int))).cell? ⟨w.heap.size + 1 + 1 + 1, 0, none⟩ = some (.slice (some ⟨b, off, none⟩) L cap) := by rw [cell_setCell_ne _ _ _ _ (fun e => by have := congrArg Addr.block e; simp only at this; omega) rfl rfl]; exact e4
   have g3 : (W1.setCell ⟨b, off + k, none⟩ (.int .u32 (qd : Int))).frozen? ⟨w.heap.size + 1 + 1, 0, none⟩ = false := by rw [World.frozen?_setCell]; exact e3
   have hT2 := hT1.trans ((Touch.setCell (b := b) (lo := off) (hi := off + L) W1 (.int .u32 (qd : Int)) (Nat.le_add_right off k) (by omega)))
   have hK2 : KeepsFrom W0.heap.size W (W1.setCell ⟨b, off + k, none⟩ (.int .u32 (qd : Int))) := hK1.trans ((KeepsOthers.setCell _ _ _).from _)
   have hC2 := HC1.out.set qd hk
   have hC2' : Cells (W1.setCell ⟨b, off + k, none⟩ (.int .u32 (qd : Int))) b off L (mixF (dgt V) (dgt (V / y)) k) := hC2.congr fun j _ => by
    by_cases hjk : j = k
    · subst hjk; rw [putF_same, HQD.out, HT.out, HQ.out.1]; simp [mixF]
    · rw [putF_ne _ _ hjk]
      simp only [mixF]
      by_cases hj1 : j < k
      · rw [if_pos hj1, if_pos (by omega)]
      · rw [if_neg hj1, if_neg (by omega)]
   have hs2 : (W1.setCell ⟨b, off + k, none⟩ (.int .u32 (qd : Int))).heap.size = W.heap.size := by rw [World.size_setCell]; exact HS1.out
   obtain ⟨W2, hW2⟩ : ∃ W2, W1.setCell ⟨b, off + k, none⟩ (.int .u32 (qd : Int)) = W2 := ⟨_, rfl⟩
   rw [hW2] at g0 g1 g2 g3 g4 hT2 hK2 hC2' hs2 ⊢
   have HC2 := hide hC2'
   have HS2 := hide hs2
   clear hW2 e0 e1 e2 e3 e4 e5 e6 hC2 hC2' hs2
   gi_wp2
   have hmod : (t : Int) % (y : Int) = ((hiN V k % y : Nat) : Int) := by rw [← HQ.out.2.1, ← HT.out]; exact (Int.natCast_emod _ _).symm
   rw [hmod]
   refine ⟨(hK2.trans ((KeepsOthers.setCell _ _ _).from _)).trans ((KeepsOthers.drew _).from _), ⟨?_, ?_, World.cell?_setCell_same' _ _ _ (by rw [g2]; rfl), ?_, ?_⟩, (hT2.newCell (by omega) hb _).drew, ?_, ?_⟩
   · show (W2.setCell _ _).cell? _ = _
     rw [cell_setCell_ne _ _ _ _ (fun e => by have := congrArg Addr.block e; simp only at this; omega) rfl rfl]; exact g0
   · show (W2.setCell _ _).cell? _ = _
     rw [cell_setCell_ne _ _ _ _ (fun e => by have := congrArg Addr.block e; simp only at this; omega) rfl rfl]; exact g1
   · show (W2.setCell _ _).frozen? _ = _
     rw [World.frozen?_setCell]; exact g3
   · show (W2.setCell _ _).cell? _ = _
     rw [cell_setCell_ne _ _ _ _ (fun e => by have := congrArg Addr.block e; simp only at this; omega) rfl rfl]; exact g4
   · show _ ≤ (W2.setCell _ _).heap.size
     rw [World.size_setCell, HS2.out]; exact h6
   · intro j hj
     show (W2.setCell _ _).cell? _ = _
     rw [cell_setCell_ne _ _ _ _ (fun e => by have := congrArg Addr.block e; simp only at this; omega) rfl rfl]; exact HC2.out j hj
 case done =>
  rintro D W hD ⟨⟨h0, h1, h2, h3, h4⟩, h5, h6, h7⟩ hK
  rw [show hiN V 0 = V by unfold hiN; rw [bp_zero, Nat.div_one]] at h2
  have hyl : V % y < y := Nat.mod_lt _ hy
  have h7' : Cells W b off L (dgt (V / y)) := h7.congr fun j _ => by simp [mixF]
  clear h7
  obtain ⟨R, hR⟩ : ∃ R, R = V % y := ⟨_, rfl⟩
  rw [← hR] at h2 hyl
  have HR := hide hR
  clear hR
  go_wp2
  have hc := calm_put (.deferred none) hD hK rfl
  exact leavesM_one hK ⟨_, results_tmp rfl _ _ _, by rw [← HR.out]; rfl, hc.cells h7', h5.calm hc (by omega) hb⟩
 case stop => exact fun _ _ _ _ h _ => h.elim
end Go.Proofs.YtgenaicmjddjcaaGreatDoor

/- num's divide where the divisor has at most one digit, or is greater; num's Gcd of words. -/
namespace Go.Proofs.YtgenaicmjddjcaaGreatDoor
open Go.RowKit Go.Shelf

def DivPost (w : World) (x y : Nat) (e : Ending) (w' : World) : Prop :=
 ∃ (a1 : Option Addr) (n1 c1 : Nat) (a2 : Option Addr) (n2 c2 : Nat), e = .returned (.tuple #[.slice a1 n1 c1, .slice a2 n2 c2]) ∧ IsD w' a1 n1 (x / y) ∧ n1 ≤ c1 ∧ (n1 = 0 ∨ Fresh w a1) ∧
  IsD w' a2 n2 (x % y) ∧ n2 ≤ c2 ∧ (n2 = 0 ∨ Fresh w a2) ∧ Below w.heap.size w w'

set_option maxRecDepth 100000 in
set_option maxHeartbeats 1000000 in
theorem divide_lt (ax ay : Option Addr) (x y nx ny cx cy : Nat) (hn : nx ≤ 1000000000000) (w : World) (hx : IsD w ax nx x) (hy : IsD w ay ny y) (hxy : x < y) :
 Calls Tryz.prog 104 #[.slice ax nx cx, .slice ay ny cy] w (DivPost w x y) := by
 have hcall := compare_any ax ay x y cx cy (by rw [← hx.len]; omega) w (by rw [← hx.len]; exact hx.dig) (by rw [← hy.len]; exact hy.dig)
 rw [← hx.len, ← hy.len, cmpN_lt hxy] at hcall
 have HC := hide hcall
 clear hcall
 go_enter Tryz.func104, Tryz.ntmps104
 go_wp2_with fail
 refine HC.out.mono ?_
 rintro e w1 ⟨rfl, hb1⟩
 go_wp2_with fail
 refine (resize_any ax nx cx nx _ rfl (dgt x) (Nat.le_refl _) (by omega) _ (hx.dig.below hb1)).mono ?_
 rintro e w2 ⟨g, rfl, hg, hc, hf, hb2⟩
 go_wp2
 go_ret2
 have hB := hb1.trans (hb2.mono hb1.size)
 refine ⟨none, 0, 0, some ⟨g, 0, none⟩, nx, nx, rfl, ⟨by rw [Nat.div_eq_of_lt hxy, dlen_zero], .inl rfl⟩, Nat.le_refl _, .inl rfl, ⟨by rw [Nat.mod_eq_of_lt hxy]; exact hx.len, ?_⟩, Nat.le_refl _, .inr fun ad e => by cases e; exact Nat.le_trans hb1.size hg, hB⟩
 rw [Nat.mod_eq_of_lt hxy]
 exact .inr ⟨g, 0, rfl, hc.congr fun j hj => by simp [mixF, hj]⟩

set_option maxRecDepth 100000 in
set_option maxHeartbeats 4000000 in
theorem divide_digit (ax ay : Option Addr) (x y nx cx cy : Nat) (hn : nx ≤ 1000000000000) (w : World) (hx : IsD w ax nx x) (hy : IsD w ay 1 y) (hxy : y ≤ x) :
 Calls Tryz.prog 104 #[.slice ax nx cx, .slice ay 1 cy] w (DivPost w x y) := by
 have hcall := compare_any ax ay x y cx cy (by rw [← hx.len]; omega) w (by rw [← hx.len]; exact hx.dig) (by rw [← hy.len]; exact hy.dig)
 rw [← hx.len, ← hy.len] at hcall
 have hcmp : 0 ≤ cmpN x y := by
  rcases Nat.lt_or_eq_of_le hxy with h | h
  · rw [cmpN_gt h]; decide
  · rw [h, cmpN_eq]; decide
 have hy0 : y ≠ 0 := fun e => by have := hy.len; rw [e, dlen_zero] at this; omega
 have hy32 : y < 4294967296 := by have := lt_bp_dlen y; rw [← hy.len, bp_one] at this; exact this
 have HC := hide hcall
 have HY := hide (And.intro hy0 hy32)
 clear hcall hy0
 go_enter Tryz.func104, Tryz.ntmps104
 go_wp2_with fail
 refine HC.out.mono ?_
 rintro e w1 ⟨rfl, hb1⟩
 go_wp2_with fail
 refine (resize_any ax nx cx nx _ rfl (dgt x) (Nat.le_refl _) (by omega) _ (hx.dig.below hb1)).mono ?_
 rintro e w2 ⟨g, rfl, hg, hc, hf, hb2⟩
 have hB2 := hb1.trans (hb2.mono hb1.size)
 obtain ⟨by', oy, rfl, hcy⟩ := (hy.dig.below hB2).at (by decide)
 have hy1 : w2.cell? ⟨by', oy, none⟩ = some (.int .u32 (y : Int)) := by
  have := hcy 0 (by decide)
  rw [Nat.add_zero] at this
  rw [this]; unfold dgt; rw [bp_zero, Nat.div_one, Nat.mod_eq_of_lt hy32]
 clear hcy
 have hyh : y ≠ 0 ∧ y < 4294967296 := HY
 have hxb : x < bp nx := by rw [hx.len]; exact lt_bp_dlen x
 have hcall2 := shorten_any g 0 nx nx x y (Nat.pos_of_ne_zero hyh.1) hyh.2 (by omega) hxb w2 (hc.lt (by rw [hx.len]; exact Nat.pos_of_ne_zero fun e => by have := dlen_eq_zero.1 e; omega)) (hc.congr fun j hj => by simp [mixF, hj]) hf
 have hq : x / y < bp nx := Nat.lt_of_le_of_lt (Nat.div_le_self _ _) hxb
 have hm : x % y < 4294967296 := Nat.lt_trans (Nat.mod_lt _ (Nat.pos_of_ne_zero hyh.1)) hyh.2
 have HS := hide hcall2
 have HQ := hide hq
 clear hcall2 hyh hxb hq hc hf
 go_wp2_with fail
 refine HS.out.mono ?_
 rintro e w3 ⟨rfl, hc3, ht3⟩
 have hB3 := hB2.trans (ht3.below (Nat.le_trans hb1.size hg) (hB2.size))
 obtain ⟨m, hmm⟩ : ∃ m, x % y = m := ⟨_, rfl⟩
 rw [hmm] at hm ⊢
 have HM := hide hmm
 have hd3 : Dig w3 (some ⟨g, 0, none⟩) nx (dgt (x / y)) := .inr ⟨g, 0, rfl, hc3⟩
 have hcall3 := trim_any (some ⟨g, 0, none⟩) nx nx (dgt (x / y)) (by omega) (Nat.le_refl _) (fun j _ => dgt_lt _ _) w3 hd3
 rw [valF_dgt, Nat.mod_eq_of_lt HQ.out] at hcall3
 have HT := hide hcall3
 have HD := hide hd3
 clear hcall3 hd3 hmm hc3 ht3
 go_wp2_with fail
 refine HT.out.mono ?_
 rintro e w4 ⟨a4, c4, rfl, ha4, hc4, hb4⟩
 have hB4 := hB3.trans (hb4.mono hB3.size)
 have hcall4 := split_any m (by omega) w4
 have HP := hide hcall4
 have HA := hide ha4
 clear hcall4 ha4
 go_wp2_with fail
 refine HP.out.mono ?_
 rintro e w5 ⟨a5, n5, c5, rfl, h5, hc5, hf5, hb5⟩
 go_wp2
 go_ret2
 have hm : x % y = m := HM
 have hlt : x / y < bp nx := HQ
 have hI : IsD w4 a4 (dlen (x / y)) (x / y) := by
  have h := IsD.of (HD.out.below hb4) (fun j _ => dgt_lt _ _) (a' := a4) (by rw [valF_dgt, Nat.mod_eq_of_lt hlt]; exact HA)
  rw [valF_dgt, Nat.mod_eq_of_lt hlt] at h
  exact h
 have hg4 : w.heap.size ≤ g := Nat.le_trans hb1.size hg
 refine ⟨a4, _, c4, a5, n5, c5, rfl, hI.below hb5, hc4, ?_, by rw [hm]; exact h5, hc5, ?_, hB4.trans (hb5.mono hB4.size)⟩
 · rcases HA.out with e | e
   · exact .inr fun ad h => by rw [e] at h; cases h; exact hg4
   · exact .inl e
 · rcases hf5 with e | e
   · exact .inl e
   · exact .inr fun ad h => Nat.le_trans hB4.size (e ad h)
end Go.Proofs.YtgenaicmjddjcaaGreatDoor

/- num's Div, over what divide returns. -/
namespace Go.Proofs.YtgenaicmjddjcaaGreatDoor
open Go.RowKit Go.Shelf

def DivsPost (w : World) (za zb : Int) (e : Ending) (w' : World) : Prop :=
 ∃ (q r : Int) (s1 : Bool) (a1 : Option Addr) (n1 c1 : Nat) (s2 : Bool) (a2 : Option Addr) (n2 c2 : Nat), e = .returned (.tuple #[.agg #[.bool s1, .slice a1 n1 c1], .agg #[.bool s2, .slice a2 n2 c2], .bool true]) ∧
  za = q * zb + r ∧ 0 ≤ r ∧ r < zb.natAbs ∧ IsN w' s1 a1 n1 q ∧ IsN w' s2 a2 n2 r ∧ (n1 = 0 ∨ Fresh w a1) ∧ (n2 = 0 ∨ Fresh w a2) ∧ n1 ≤ 64 ∧ n2 ≤ 64 ∧ Below w.heap.size w w'

theorem IsN.signed_eq {w : World} {s : Bool} {a : Option Addr} {n : Nat} {z : Int} (h : IsN w s a n z) : z = signed s z.natAbs := by
 have h1 := h.sign
 unfold signed; rw [h1]; by_cases h : z < 0 <;> simp [h] <;> omega

theorem IsN.set2 {w : World} {s : Bool} {a : Option Addr} {n : Nat} {z : Int} (h : IsN w s a n z) {B : Nat} {u0 u1 : Value} (hb : Box2 w B u0 u1) (v0 v1 : Value) (hne : n = 0 ∨ ∀ ad, a = some ad → ad.block ≠ B) :
 IsN ((w.setCell ⟨B, 0, none⟩ v0).setCell ⟨B, 1, none⟩ v1) s a n z := by
 obtain ⟨-, -, ht⟩ := setNum v0 v1 hb.c0 hb.c1
 exact ⟨h.sign, h.dig.len, h.dig.dig.touch' ht hne⟩

theorem dlen_one {x : Nat} (h0 : x ≠ 0) (h : x < 4294967296) : dlen x = 1 := by rw [dlen_pos h0, Nat.div_eq_of_lt h, dlen_zero]

theorem divs_plain (sa sb : Bool) (x y : Nat) (h : sa = false ∨ x % y = 0) : signed sa x = signed (sa != sb) (x / y) * signed sb y + ((x % y : Nat) : Int) := by
 have hd := Nat.div_add_mod x y
 have e : (x : Int) = (y : Int) * ((x / y : Nat) : Int) + ((x % y : Nat) : Int) := by exact_mod_cast hd.symm
 unfold signed
 have e0 : sa = true → ((x % y : Nat) : Int) = 0 := fun hs => by
  rcases h with h | h
  · rw [h] at hs; cases hs
  · rw [h]; rfl
 generalize ((x / y : Nat) : Int) = q at e ⊢
 generalize ((x % y : Nat) : Int) = r at e e0 ⊢
 generalize (y : Int) = y' at e ⊢
 have e1 := Int.mul_comm q y'
 cases sa <;> cases sb <;> simp [Int.neg_mul, Int.mul_neg] at e0 ⊢ <;> omega

theorem divs_adj (sb : Bool) (x y : Nat) (hy : y ≠ 0) : signed true x = signed (true != sb) (x / y + 1) * signed sb y + ((y - x % y : Nat) : Int) := by
 have hd := Nat.div_add_mod x y
 have hm := Nat.mod_lt x (Nat.pos_of_ne_zero hy)
 have e : (x : Int) = (y : Int) * ((x / y : Nat) : Int) + ((x % y : Nat) : Int) := by exact_mod_cast hd.symm
 unfold signed
 have e2 : ((y - x % y : Nat) : Int) = (y : Int) - ((x % y : Nat) : Int) := by omega
 rw [e2, Int.natCast_add]
 clear e2 hm hd
 generalize ((x / y : Nat) : Int) = q at e ⊢
 generalize ((x % y : Nat) : Int) = r at e ⊢
 generalize (y : Int) = y' at e ⊢
 have e1 := Int.mul_comm q y'
 cases sb <;> simp [Int.neg_mul, Int.mul_neg, Int.add_mul, Int.neg_add] <;> omega

set_option maxRecDepth 100000 in
set_option maxHeartbeats 4000000 in
theorem div_pos (sb : Bool) (aa ab : Option Addr) (na nb ca cb : Nat) (za zb : Int) (hna : na ≤ 64) (hnb : nb ≤ 64) (w : World) (ha : IsN w false aa na za) (hb : IsN w sb ab nb zb) (hb0 : 0 < nb) 
 (hdiv : ∀ w1, Below w.heap.size w w1 → Calls Tryz.prog 104 #[.slice aa na ca, .slice ab nb cb] w1 (DivPost w1 za.natAbs zb.natAbs)) :
 Calls Tryz.prog 56 #[.agg #[.bool false, .slice aa na ca], .agg #[.bool sb, .slice ab nb cb]] w (DivsPost w za zb) := by
 have hbe : ((nb : Int) == 0) = false := by simp; omega
 have hy0 : zb.natAbs ≠ 0 := fun e => by have := hb.dig.len; rw [e, dlen_zero] at this; omega
 have HY0 := hide hy0
 have HDV := hide hdiv
 clear hy0
 clear hdiv
 go_enter Tryz.func56, Tryz.ntmps56
 go_wp2_with fail
 obtain ⟨W0, hW0⟩ : ∃ W0, (((w.alloc (Obj.cells #[.bool false, .slice aa na ca] 25)).alloc (Obj.cells #[.bool sb, .slice ab nb cb] 25)).alloc (Obj.cells #[.bool false, .slice none 0 0] 25)).alloc (Obj.cells #[.bool false, .slice none 0 0] 25) = W0 := ⟨_, rfl⟩
 have bA : Box2 W0 w.heap.size (.bool false) (.slice aa na ca) := by rw [← hW0]; exact (((Box2.new w _ _ _).alloc _).alloc _).alloc _
 have bB : Box2 W0 (w.heap.size + 1) (.bool sb) (.slice ab nb cb) := by
  have := ((Box2.new (w.alloc (Obj.cells #[.bool false, .slice aa na ca] 25)) (.bool sb) (.slice ab nb cb) 25).alloc (Obj.cells #[.bool false, .slice none 0 0] 25)).alloc (Obj.cells #[.bool false, .slice none 0 0] 25)
  rw [World.size_alloc] at this; rw [← hW0]; exact this
 have bC : Box2 W0 (w.heap.size + 1 + 1) (.bool false) (.slice none 0 0) := by
  have := (Box2.new ((w.alloc (Obj.cells #[.bool false, .slice aa na ca] 25)).alloc (Obj.cells #[.bool sb, .slice ab nb cb] 25)) (.bool false) (.slice none 0 0) 25).alloc (Obj.cells #[.bool false, .slice none 0 0] 25)
  rw [World.size_alloc, World.size_alloc] at this; rw [← hW0]; exact this
 have bD : Box2 W0 (w.heap.size + 1 + 1 + 1) (.bool false) (.slice none 0 0) := by
  have := Box2.new (((w.alloc (Obj.cells #[.bool false, .slice aa na ca] 25)).alloc (Obj.cells #[.bool sb, .slice ab nb cb] 25)).alloc (Obj.cells #[.bool false, .slice none 0 0] 25)) (.bool false) (.slice none 0 0) 25
  rw [World.size_alloc, World.size_alloc, World.size_alloc] at this; rw [← hW0]; exact this
 have hsz : W0.heap.size = w.heap.size + 4 := by rw [← hW0]; simp
 have hB0 : Below w.heap.size w W0 := by rw [← hW0]; exact ((((Below.refl _ w).alloc (Nat.le_refl _) _).alloc (by simp) _).alloc (by simp; omega) _).alloc (by simp; omega) _
 rw [hW0]
 clear hW0
 refine (right_yes false aa na ca za hna _ (ha.below hB0)).mono ?_
 rintro e w1 ⟨rfl, hb1⟩
 have hB1 : Below w.heap.size w w1 := hB0.trans (hb1.mono (by omega))
 have bA1 := bA.below hb1 (by omega)
 have bB1 := bB.below hb1 (by omega)
 have bC1 := bC.below hb1 (by omega)
 have bD1 := bD.below hb1 (by omega)
 obtain ⟨b0, b1, -, -⟩ := bB1
 go_wp2_with fail
 refine (right_yes sb ab nb cb zb hnb _ (hb.below hB1)).mono ?_
 rintro e w2 ⟨rfl, hb2⟩
 have hB2 : Below w.heap.size w w2 := hB1.trans (hb2.mono hB1.size)
 have hs1 := hb1.size
 have bA2 := bA1.below hb2 (by omega)
 have bB2 := bB.below (hb1.trans (hb2.mono hb1.size)) (by omega)
 have bC2 := bC1.below hb2 (by omega)
 have bD2 := bD1.below hb2 (by omega)
 clear b0 b1 hs1
 have bA2k := bA2
 have bB2k := bB2
 obtain ⟨a0, a1, -, -⟩ := bA2
 obtain ⟨b0, b1, -, -⟩ := bB2
 go_wp2_with fail
 refine (HDV.out _ hB2).mono ?_
 rintro e w3 ⟨aq, nq, cq, ar, nr, cr, rfl, hq, hcq, hfq, hr, hcr, hfr, hb3⟩
 have hB3 : Below w.heap.size w w3 := hB2.trans (hb3.mono hB2.size)
 have bA3 := bA2k.below hb3 bA2k.lt
 have bB3 := bB2k.below hb3 bB2k.lt
 have bC3 := bC2.below hb3 bC2.lt
 have bD3 := bD2.below hb3 bD2.lt
 clear a0 a1 b0 b1
 have bA3k := bA3
 have bB3k := bB3
 obtain ⟨a0, a1, -, -⟩ := bA3
 obtain ⟨b0, b1, -, -⟩ := bB3
 go_wp2_with fail
 have hq64 : nq ≤ 64 := by rw [hq.len]; refine Nat.le_trans (dlen_mono (Nat.div_le_self _ _)) ?_; rw [← ha.dig.len]; exact hna
 have hr64 : nr ≤ 64 := by rw [hr.len]; refine Nat.le_trans (dlen_mono (Nat.mod_le _ _)) ?_; rw [← ha.dig.len]; exact hna
 refine (number_of sb aq nq cq _ hcq hq64 _ hq).mono ?_
 rintro e w4 ⟨sq, aq', nq', cq', rfl, hnq', haq', hb4⟩
 have bC4 := bC3.below hb4 bC3.lt
 have bD4 := bD3.below hb4 bD3.lt
 clear a0 a1 b0 b1
 go_wp2_with fail
 have hB4 : Below w.heap.size w w4 := hB3.trans (hb4.mono hB3.size)
 obtain ⟨W4, hW4⟩ : ∃ W4, w4.alloc (Obj.cells #[.bool sq, .slice aq' nq' cq'] 25) = W4 := ⟨_, rfl⟩
 have hB4' : Below w4.heap.size w4 W4 := by rw [← hW4]; exact (Below.refl _ w4).alloc (Nat.le_refl _) _
 have bQ : Box2 W4 w4.heap.size (.bool sq) (.slice aq' nq' cq') := by rw [← hW4]; exact Box2.new _ _ _ _
 rw [hW4]
 clear hW4
 refine (number_of false ar nr cr _ hcr hr64 _ ((hr.below hb4).below hB4')).mono ?_
 rintro e w5 ⟨sr, ar', nr', cr', rfl, hnr', har', hb5⟩
 have hs4 := hB4'.size
 have bQ5 := bQ.below hb5 bQ.lt
 have bC5 := (bC4.below hB4' bC4.lt).below hb5 (by have := bC4.lt; omega)
 have bD5 := (bD4.below hB4' bD4.lt).below hb5 (by have := bD4.lt; omega)
 have hB5 : Below w.heap.size w w5 := (hB4.trans (hB4'.mono hB4.size)).trans (hb5.mono (Nat.le_trans hB4.size hs4))
 have hnq5 := (hnq'.below hB4').below hb5
 go_wp2_with fail
 obtain ⟨W6, hW6⟩ : ∃ W6, w5.alloc (Obj.cells #[.bool sr, .slice ar' nr' cr'] 25) = W6 := ⟨_, rfl⟩
 have hB5' : Below w5.heap.size w5 W6 := by rw [← hW6]; exact (Below.refl _ w5).alloc (Nat.le_refl _) _
 have bR6 : Box2 W6 w5.heap.size (.bool sr) (.slice ar' nr' cr') := by rw [← hW6]; exact Box2.new _ _ _ _
 have bQ6 := bQ5.below hB5' bQ5.lt
 have bC6 := bC5.below hB5' bC5.lt
 have bD6 := bD5.below hB5' bD5.lt
 have hB6 : Below w.heap.size w W6 := hB5.trans (hB5'.mono hB5.size)
 have hnq6 := hnq5.below hB5'
 have hnr6 := hnr'.below hB5'
 rw [hW6]
 clear hW6
 have hne1 : w.heap.size + 1 + 1 ≠ w4.heap.size := by have := bC4.lt; omega
 have hne2 : w.heap.size + 1 + 1 ≠ w5.heap.size := by have := bC5.lt; omega
 have hne3 : w.heap.size + 1 + 1 + 1 ≠ w4.heap.size := by have := bD4.lt; omega
 have hne4 : w.heap.size + 1 + 1 + 1 ≠ w5.heap.size := by have := bD5.lt; omega
 have bC6k := bC6
 have bD6k := bD6
 obtain ⟨r0, r1, -, -⟩ := bR6
 obtain ⟨q0, q1, -, -⟩ := bQ6
 obtain ⟨c0, c1, cf0, cf1⟩ := bC6
 obtain ⟨d0, d1, df0, df1⟩ := bD6
 go_region
 clear r0 r1 q0 q1 c0 c1 cf0 cf1 d0 d1 df0 df1 hne1 hne2 hne3 hne4
 have hs2 : w.heap.size + 1 + 1 + 1 < w2.heap.size := bD2.lt
 have hfq6 : nq' = 0 ∨ ∀ ad, aq' = some ad → w2.heap.size ≤ ad.block := by
  have hn43 : nq' = nq := by rw [hnq'.dig.len, hq.len, signed_abs]
  rcases haq' with h | h
  · exact .inl h
  · rcases hfq with h' | h'
    · first | exact .inl (hn43.trans h') | exact .inl hn43
    · exact .inr fun ad e => h' ad (h ▸ e)
 have hfr6 : nr' = 0 ∨ ∀ ad, ar' = some ad → w2.heap.size ≤ ad.block := by
  have hn43 : nr' = nr := by rw [hnr'.dig.len, hr.len, signed_abs]
  rcases har' with h | h
  · exact .inl h
  · rcases hfr with h' | h'
    · first | exact .inl (hn43.trans h') | exact .inl hn43
    · exact .inr fun ad e => h' ad (h ▸ e)
 have off : ∀ {n : Nat} {a : Option Addr} {B : Nat}, (n = 0 ∨ ∀ ad, a = some ad → w2.heap.size ≤ ad.block) → B < w2.heap.size → (n = 0 ∨ ∀ ad, a = some ad → ad.block ≠ B) := fun h hB => h.imp id fun h' ad e => by have := h' ad e; omega
 have kC := bC6k.set (.bool sq) (.slice aq' nq' cq')
 have kD := bD6k.other (.bool sq) (.slice aq' nq' cq') (C := w.heap.size + 1 + 1 + 1) (B := w.heap.size + 1 + 1) (by omega)
 have kQ := (hnq6.set2 bC6k (.bool sq) (.slice aq' nq' cq') (off hfq6 (by omega))).set2 kD (.bool sr) (.slice ar' nr' cr') (off hfq6 (by omega))
 have kR := (hnr6.set2 bC6k (.bool sq) (.slice aq' nq' cq') (off hfr6 (by omega))).set2 kD (.bool sr) (.slice ar' nr' cr') (off hfr6 (by omega))
 have kB := below_set2 (below_set2 hB6 (B := w.heap.size + 1 + 1) (by omega) (.bool sq) (.slice aq' nq' cq')) (B := w.heap.size + 1 + 1 + 1) (by omega) (.bool sr) (.slice ar' nr' cr')
 have kC2 := kC.other (.bool sr) (.slice ar' nr' cr') (C := w.heap.size + 1 + 1) (B := w.heap.size + 1 + 1 + 1) (by omega)
 have kD2 := kD.set (.bool sr) (.slice ar' nr' cr')
 obtain ⟨W7, hW7⟩ : ∃ W7, (((W6.setCell ⟨w.heap.size + 1 + 1, 0, none⟩ (.bool sq)).setCell ⟨w.heap.size + 1 + 1, 1, none⟩ (.slice aq' nq' cq')).setCell ⟨w.heap.size + 1 + 1 + 1, 0, none⟩ (.bool sr)).setCell ⟨w.heap.size + 1 + 1 + 1, 1, none⟩ (.slice ar' nr' cr') = W7 := ⟨_, rfl⟩
 rw [hW7] at kQ kR kB kC2 kD2 ⊢
 clear hW7 kC kD
 have kd := Below.drew (Below.refl W7.heap.size W7)
 have fQ := kQ.below kd
 have fR := kR.below kd
 have fB := kB.trans (kd.mono kB.size)
 obtain ⟨q0, q1, -, -⟩ := kC2.below kd kC2.lt
 obtain ⟨r0, r1, -, -⟩ := kD2.below kd kD2.lt
 clear kd kC2 kD2
 go_wp2
 refine bodyPost_ret (v := .tuple #[.agg #[.bool sq, .slice aq' nq' cq'], .agg #[.bool sr, .slice ar' nr' cr'], .bool true]) (by simp [results, Tryz.results56, go_sem, q0, q1, r0, r1]) rfl ?_
 refine ⟨_, _, _, _, _, _, _, _, _, _, rfl, ?_, ?_, ?_, fQ, fR, hfq6.imp id fun h ad e => Nat.le_trans hB2.size (h ad e), hfr6.imp id fun h ad e => Nat.le_trans hB2.size (h ad e), ?_, ?_, fB⟩
 · have e := divs_plain false sb za.natAbs zb.natAbs (.inl rfl)
   rw [← ha.signed_eq, ← hb.signed_eq] at e
   simpa [signed] using e
 · simp [signed]; omega
 · have := Nat.mod_lt za.natAbs (Nat.pos_of_ne_zero HY0.out)
   simp only [signed]; simp only [Bool.false_eq_true, if_false]; omega
 · rw [hnq'.dig.len, signed_abs, ← hq.len]; exact hq64
 · rw [hnr'.dig.len, signed_abs, ← hr.len]; exact hr64

set_option maxRecDepth 100000 in
set_option maxHeartbeats 4000000 in
theorem div_exact (sb : Bool) (aa ab : Option Addr) (na nb ca cb : Nat) (za zb : Int) (hna : na ≤ 64) (hnb : nb ≤ 64) (w : World) (ha : IsN w true aa na za) (hb : IsN w sb ab nb zb) (hb0 : 0 < nb) (hmod : za.natAbs % zb.natAbs = 0)
 (hdiv : ∀ w1, Below w.heap.size w w1 → Calls Tryz.prog 104 #[.slice aa na ca, .slice ab nb cb] w1 (DivPost w1 za.natAbs zb.natAbs)) :
 Calls Tryz.prog 56 #[.agg #[.bool true, .slice aa na ca], .agg #[.bool sb, .slice ab nb cb]] w (DivsPost w za zb) := by
 have hbe : ((nb : Int) == 0) = false := by simp; omega
 have hy0 : zb.natAbs ≠ 0 := fun e => by have := hb.dig.len; rw [e, dlen_zero] at this; omega
 have HY0 := hide hy0
 have HDV := hide hdiv
 clear hy0
 clear hdiv
 go_enter Tryz.func56, Tryz.ntmps56
 go_wp2_with fail
 obtain ⟨W0, hW0⟩ : ∃ W0, (((w.alloc (Obj.cells #[.bool true, .slice aa na ca] 25)).alloc (Obj.cells #[.bool sb, .slice ab nb cb] 25)).alloc (Obj.cells #[.bool false, .slice none 0 0] 25)).alloc (Obj.cells #[.bool false, .slice none 0 0] 25) = W0 := ⟨_, rfl⟩
 have bA : Box2 W0 w.heap.size (.bool true) (.slice aa na ca) := by rw [← hW0]; exact (((Box2.new w _ _ _).alloc _).alloc _).alloc _
 have bB : Box2 W0 (w.heap.size + 1) (.bool sb) (.slice ab nb cb) := by
  have := ((Box2.new (w.alloc (Obj.cells #[.bool true, .slice aa na ca] 25)) (.bool sb) (.slice ab nb cb) 25).alloc (Obj.cells #[.bool false, .slice none 0 0] 25)).alloc (Obj.cells #[.bool false, .slice none 0 0] 25)
  rw [World.size_alloc] at this; rw [← hW0]; exact this
 have bC : Box2 W0 (w.heap.size + 1 + 1) (.bool false) (.slice none 0 0) := by
  have := (Box2.new ((w.alloc (Obj.cells #[.bool true, .slice aa na ca] 25)).alloc (Obj.cells #[.bool sb, .slice ab nb cb] 25)) (.bool false) (.slice none 0 0) 25).alloc (Obj.cells #[.bool false, .slice none 0 0] 25)
  rw [World.size_alloc, World.size_alloc] at this; rw [← hW0]; exact this
 have bD : Box2 W0 (w.heap.size + 1 + 1 + 1) (.bool false) (.slice none 0 0) := by
  have := Box2.new (((w.alloc (Obj.cells #[.bool true, .slice aa na ca] 25)).alloc (Obj.cells #[.bool sb, .slice ab nb cb] 25)).alloc (Obj.cells #[.bool false, .slice none 0 0] 25)) (.bool false) (.slice none 0 0) 25
  rw [World.size_alloc, World.size_alloc, World.size_alloc] at this; rw [← hW0]; exact this
 have hsz : W0.heap.size = w.heap.size + 4 := by rw [← hW0]; simp
 have hB0 : Below w.heap.size w W0 := by rw [← hW0]; exact ((((Below.refl _ w).alloc (Nat.le_refl _) _).alloc (by simp) _).alloc (by simp; omega) _).alloc (by simp; omega) _
 rw [hW0]
 clear hW0
 refine (right_yes true aa na ca za hna _ (ha.below hB0)).mono ?_
 rintro e w1 ⟨rfl, hb1⟩
 have hB1 : Below w.heap.size w w1 := hB0.trans (hb1.mono (by omega))
 have bA1 := bA.below hb1 (by omega)
 have bB1 := bB.below hb1 (by omega)
 have bC1 := bC.below hb1 (by omega)
 have bD1 := bD.below hb1 (by omega)
 obtain ⟨b0, b1, -, -⟩ := bB1
 go_wp2_with fail
 refine (right_yes sb ab nb cb zb hnb _ (hb.below hB1)).mono ?_
 rintro e w2 ⟨rfl, hb2⟩
 have hB2 : Below w.heap.size w w2 := hB1.trans (hb2.mono hB1.size)
 have hs1 := hb1.size
 have bA2 := bA1.below hb2 (by omega)
 have bB2 := bB.below (hb1.trans (hb2.mono hb1.size)) (by omega)
 have bC2 := bC1.below hb2 (by omega)
 have bD2 := bD1.below hb2 (by omega)
 clear b0 b1 hs1
 have bA2k := bA2
 have bB2k := bB2
 obtain ⟨a0, a1, -, -⟩ := bA2
 obtain ⟨b0, b1, -, -⟩ := bB2
 go_wp2_with fail
 refine (HDV.out _ hB2).mono ?_
 rintro e w3 ⟨aq, nq, cq, ar, nr, cr, rfl, hq, hcq, hfq, hr, hcr, hfr, hb3⟩
 have hB3 : Below w.heap.size w w3 := hB2.trans (hb3.mono hB2.size)
 have bA3 := bA2k.below hb3 bA2k.lt
 have bB3 := bB2k.below hb3 bB2k.lt
 have bC3 := bC2.below hb3 bC2.lt
 have bD3 := bD2.below hb3 bD2.lt
 clear a0 a1 b0 b1
 have bA3k := bA3
 have bB3k := bB3
 obtain ⟨a0, a1, -, -⟩ := bA3
 obtain ⟨b0, b1, -, -⟩ := bB3
 have hnr0 : nr = 0 := by rw [hr.len, hmod, dlen_zero]
 subst hnr0
 go_wp2_with fail
 have hq64 : nq ≤ 64 := by rw [hq.len]; refine Nat.le_trans (dlen_mono (Nat.div_le_self _ _)) ?_; rw [← ha.dig.len]; exact hna
 have hr64 : 0 ≤ 64 := Nat.zero_le _
 refine (number_of (!sb) aq nq cq _ hcq hq64 _ hq).mono ?_
 rintro e w4 ⟨sq, aq', nq', cq', rfl, hnq', haq', hb4⟩
 have bC4 := bC3.below hb4 bC3.lt
 have bD4 := bD3.below hb4 bD3.lt
 clear a0 a1 b0 b1
 go_wp2_with fail
 have hB4 : Below w.heap.size w w4 := hB3.trans (hb4.mono hB3.size)
 obtain ⟨W4, hW4⟩ : ∃ W4, w4.alloc (Obj.cells #[.bool sq, .slice aq' nq' cq'] 25) = W4 := ⟨_, rfl⟩
 have hB4' : Below w4.heap.size w4 W4 := by rw [← hW4]; exact (Below.refl _ w4).alloc (Nat.le_refl _) _
 have bQ : Box2 W4 w4.heap.size (.bool sq) (.slice aq' nq' cq') := by rw [← hW4]; exact Box2.new _ _ _ _
 rw [hW4]
 clear hW4
 refine (number_of false ar 0 cr _ hcr hr64 _ ((hr.below hb4).below hB4')).mono ?_
 rintro e w5 ⟨sr, ar', nr', cr', rfl, hnr', har', hb5⟩
 have hs4 := hB4'.size
 have bQ5 := bQ.below hb5 bQ.lt
 have bC5 := (bC4.below hB4' bC4.lt).below hb5 (by have := bC4.lt; omega)
 have bD5 := (bD4.below hB4' bD4.lt).below hb5 (by have := bD4.lt; omega)
 have hB5 : Below w.heap.size w w5 := (hB4.trans (hB4'.mono hB4.size)).trans (hb5.mono (Nat.le_trans hB4.size hs4))
 have hnq5 := (hnq'.below hB4').below hb5
 go_wp2_with fail
 obtain ⟨W6, hW6⟩ : ∃ W6, w5.alloc (Obj.cells #[.bool sr, .slice ar' nr' cr'] 25) = W6 := ⟨_, rfl⟩
 have hB5' : Below w5.heap.size w5 W6 := by rw [← hW6]; exact (Below.refl _ w5).alloc (Nat.le_refl _) _
 have bR6 : Box2 W6 w5.heap.size (.bool sr) (.slice ar' nr' cr') := by rw [← hW6]; exact Box2.new _ _ _ _
 have bQ6 := bQ5.below hB5' bQ5.lt
 have bC6 := bC5.below hB5' bC5.lt
 have bD6 := bD5.below hB5' bD5.lt
 have hB6 : Below w.heap.size w W6 := hB5.trans (hB5'.mono hB5.size)
 have hnq6 := hnq5.below hB5'
 have hnr6 := hnr'.below hB5'
 rw [hW6]
 clear hW6
 have hne1 : w.heap.size + 1 + 1 ≠ w4.heap.size := by have := bC4.lt; omega
 have hne2 : w.heap.size + 1 + 1 ≠ w5.heap.size := by have := bC5.lt; omega
 have hne3 : w.heap.size + 1 + 1 + 1 ≠ w4.heap.size := by have := bD4.lt; omega
 have hne4 : w.heap.size + 1 + 1 + 1 ≠ w5.heap.size := by have := bD5.lt; omega
 have bC6k := bC6
 have bD6k := bD6
 obtain ⟨r0, r1, -, -⟩ := bR6
 obtain ⟨q0, q1, -, -⟩ := bQ6
 obtain ⟨c0, c1, cf0, cf1⟩ := bC6
 obtain ⟨d0, d1, df0, df1⟩ := bD6
 go_region
 clear r0 r1 q0 q1 c0 c1 cf0 cf1 d0 d1 df0 df1 hne1 hne2 hne3 hne4
 have hs2 : w.heap.size + 1 + 1 + 1 < w2.heap.size := bD2.lt
 have hfq6 : nq' = 0 ∨ ∀ ad, aq' = some ad → w2.heap.size ≤ ad.block := by
  have hn43 : nq' = nq := by rw [hnq'.dig.len, hq.len, signed_abs]
  rcases haq' with h | h
  · exact .inl h
  · rcases hfq with h' | h'
    · first | exact .inl (hn43.trans h') | exact .inl hn43
    · exact .inr fun ad e => h' ad (h ▸ e)
 have hfr6 : nr' = 0 ∨ ∀ ad, ar' = some ad → w2.heap.size ≤ ad.block := by
  have hn43 : nr' = 0 := by rw [hnr'.dig.len, hr.len, signed_abs]
  rcases har' with h | h
  · exact .inl h
  · rcases hfr with h' | h'
    · first | exact .inl (hn43.trans h') | exact .inl hn43
    · exact .inr fun ad e => h' ad (h ▸ e)
 have off : ∀ {n : Nat} {a : Option Addr} {B : Nat}, (n = 0 ∨ ∀ ad, a = some ad → w2.heap.size ≤ ad.block) → B < w2.heap.size → (n = 0 ∨ ∀ ad, a = some ad → ad.block ≠ B) := fun h hB => h.imp id fun h' ad e => by have := h' ad e; omega
 have kC := bC6k.set (.bool sq) (.slice aq' nq' cq')
 have kD := bD6k.other (.bool sq) (.slice aq' nq' cq') (C := w.heap.size + 1 + 1 + 1) (B := w.heap.size + 1 + 1) (by omega)
 have kQ := (hnq6.set2 bC6k (.bool sq) (.slice aq' nq' cq') (off hfq6 (by omega))).set2 kD (.bool sr) (.slice ar' nr' cr') (off hfq6 (by omega))
 have kR := (hnr6.set2 bC6k (.bool sq) (.slice aq' nq' cq') (off hfr6 (by omega))).set2 kD (.bool sr) (.slice ar' nr' cr') (off hfr6 (by omega))
 have kB := below_set2 (below_set2 hB6 (B := w.heap.size + 1 + 1) (by omega) (.bool sq) (.slice aq' nq' cq')) (B := w.heap.size + 1 + 1 + 1) (by omega) (.bool sr) (.slice ar' nr' cr')
 have kC2 := kC.other (.bool sr) (.slice ar' nr' cr') (C := w.heap.size + 1 + 1) (B := w.heap.size + 1 + 1 + 1) (by omega)
 have kD2 := kD.set (.bool sr) (.slice ar' nr' cr')
 obtain ⟨W7, hW7⟩ : ∃ W7, (((W6.setCell ⟨w.heap.size + 1 + 1, 0, none⟩ (.bool sq)).setCell ⟨w.heap.size + 1 + 1, 1, none⟩ (.slice aq' nq' cq')).setCell ⟨w.heap.size + 1 + 1 + 1, 0, none⟩ (.bool sr)).setCell ⟨w.heap.size + 1 + 1 + 1, 1, none⟩ (.slice ar' nr' cr') = W7 := ⟨_, rfl⟩
 rw [hW7] at kQ kR kB kC2 kD2 ⊢
 clear hW7 kC kD
 have kd := Below.drew (Below.refl W7.heap.size W7)
 have fQ := kQ.below kd
 have fR := kR.below kd
 have fB := kB.trans (kd.mono kB.size)
 obtain ⟨q0, q1, -, -⟩ := kC2.below kd kC2.lt
 obtain ⟨r0, r1, -, -⟩ := kD2.below kd kD2.lt
 clear kd kC2 kD2
 go_wp2
 refine bodyPost_ret (v := .tuple #[.agg #[.bool sq, .slice aq' nq' cq'], .agg #[.bool sr, .slice ar' nr' cr'], .bool true]) (by simp [results, Tryz.results56, go_sem, q0, q1, r0, r1]) rfl ?_
 refine ⟨_, _, _, _, _, _, _, _, _, _, rfl, ?_, ?_, ?_, fQ, fR, hfq6.imp id fun h ad e => Nat.le_trans hB2.size (h ad e), hfr6.imp id fun h ad e => Nat.le_trans hB2.size (h ad e), ?_, ?_, fB⟩
 · have e := divs_plain true sb za.natAbs zb.natAbs (.inr hmod)
   rw [← ha.signed_eq, ← hb.signed_eq] at e
   simpa [signed] using e
 · simp [signed]; omega
 · have := Nat.mod_lt za.natAbs (Nat.pos_of_ne_zero HY0.out)
   simp only [signed]; simp only [Bool.false_eq_true, if_false]; omega
 · rw [hnq'.dig.len, signed_abs, ← hq.len]; exact hq64
 · rw [hnr'.dig.len, signed_abs, ← hr.len]; exact hr64

set_option maxRecDepth 100000 in
set_option maxHeartbeats 4000000 in
theorem div_adj (sb : Bool) (aa ab : Option Addr) (na nb ca cb : Nat) (za zb : Int) (hna : na ≤ 64) (hnb : nb ≤ 64) (w : World) (ha : IsN w true aa na za) (hb : IsN w sb ab nb zb) (hb0 : 0 < nb) (hmod : za.natAbs % zb.natAbs ≠ 0)
 (hdiv : ∀ w1, Below w.heap.size w w1 → Calls Tryz.prog 104 #[.slice aa na ca, .slice ab nb cb] w1 (DivPost w1 za.natAbs zb.natAbs)) :
 Calls Tryz.prog 56 #[.agg #[.bool true, .slice aa na ca], .agg #[.bool sb, .slice ab nb cb]] w (DivsPost w za zb) := by
 have hbe : ((nb : Int) == 0) = false := by simp; omega
 have hy0 : zb.natAbs ≠ 0 := fun e => by have := hb.dig.len; rw [e, dlen_zero] at this; omega
 have HY0 := hide hy0
 have HDV := hide hdiv
 clear hy0
 clear hdiv
 go_enter Tryz.func56, Tryz.ntmps56
 go_wp2_with fail
 obtain ⟨W0, hW0⟩ : ∃ W0, (((w.alloc (Obj.cells #[.bool true, .slice aa na ca] 25)).alloc (Obj.cells #[.bool sb, .slice ab nb cb] 25)).alloc (Obj.cells #[.bool false, .slice none 0 0] 25)).alloc (Obj.cells #[.bool false, .slice none 0 0] 25) = W0 := ⟨_, rfl⟩
 have bA : Box2 W0 w.heap.size (.bool true) (.slice aa na ca) := by rw [← hW0]; exact (((Box2.new w _ _ _).alloc _).alloc _).alloc _
 have bB : Box2 W0 (w.heap.size + 1) (.bool sb) (.slice ab nb cb) := by
  have := ((Box2.new (w.alloc (Obj.cells #[.bool true, .slice aa na ca] 25)) (.bool sb) (.slice ab nb cb) 25).alloc (Obj.cells #[.bool false, .slice none 0 0] 25)).alloc (Obj.cells #[.bool false, .slice none 0 0] 25)
  rw [World.size_alloc] at this; rw [← hW0]; exact this
 have bC : Box2 W0 (w.heap.size + 1 + 1) (.bool false) (.slice none 0 0) := by
  have := (Box2.new ((w.alloc (Obj.cells #[.bool true, .slice aa na ca] 25)).alloc (Obj.cells #[.bool sb, .slice ab nb cb] 25)) (.bool false) (.slice none 0 0) 25).alloc (Obj.cells #[.bool false, .slice none 0 0] 25)
  rw [World.size_alloc, World.size_alloc] at this; rw [← hW0]; exact this
 have bD : Box2 W0 (w.heap.size + 1 + 1 + 1) (.bool false) (.slice none 0 0) := by
  have := Box2.new (((w.alloc (Obj.cells #[.bool true, .slice aa na ca] 25)).alloc (Obj.cells #[.bool sb, .slice ab nb cb] 25)).alloc (Obj.cells #[.bool false, .slice none 0 0] 25)) (.bool false) (.slice none 0 0) 25
  rw [World.size_alloc, World.size_alloc, World.size_alloc] at this; rw [← hW0]; exact this
 have hsz : W0.heap.size = w.heap.size + 4 := by rw [← hW0]; simp
 have hB0 : Below w.heap.size w W0 := by rw [← hW0]; exact ((((Below.refl _ w).alloc (Nat.le_refl _) _).alloc (by simp) _).alloc (by simp; omega) _).alloc (by simp; omega) _
 rw [hW0]
 clear hW0
 refine (right_yes true aa na ca za hna _ (ha.below hB0)).mono ?_
 rintro e w1 ⟨rfl, hb1⟩
 have hB1 : Below w.heap.size w w1 := hB0.trans (hb1.mono (by omega))
 have bA1 := bA.below hb1 (by omega)
 have bB1 := bB.below hb1 (by omega)
 have bC1 := bC.below hb1 (by omega)
 have bD1 := bD.below hb1 (by omega)
 obtain ⟨b0, b1, -, -⟩ := bB1
 go_wp2_with fail
 refine (right_yes sb ab nb cb zb hnb _ (hb.below hB1)).mono ?_
 rintro e w2 ⟨rfl, hb2⟩
 have hB2 : Below w.heap.size w w2 := hB1.trans (hb2.mono hB1.size)
 have hs1 := hb1.size
 have bA2 := bA1.below hb2 (by omega)
 have bB2 := bB.below (hb1.trans (hb2.mono hb1.size)) (by omega)
 have bC2 := bC1.below hb2 (by omega)
 have bD2 := bD1.below hb2 (by omega)
 clear b0 b1 hs1
 have bA2k := bA2
 have bB2k := bB2
 obtain ⟨a0, a1, -, -⟩ := bA2
 obtain ⟨b0, b1, -, -⟩ := bB2
 go_wp2_with fail
 refine (HDV.out _ hB2).mono ?_
 rintro e w3 ⟨aq, nq, cq, ar, nr, cr, rfl, hq, hcq, hfq, hr, hcr, hfr, hb3⟩
 have hB3 : Below w.heap.size w w3 := hB2.trans (hb3.mono hB2.size)
 have bA3 := bA2k.below hb3 bA2k.lt
 have bB3 := bB2k.below hb3 bB2k.lt
 have bC3 := bC2.below hb3 bC2.lt
 have bD3 := bD2.below hb3 bD2.lt
 clear a0 a1 b0 b1
 have bA3k := bA3
 have bB3k := bB3
 obtain ⟨a0, a1, -, -⟩ := bA3
 obtain ⟨b0, b1, -, -⟩ := bB3
 have hnr0 : 0 < nr := by rw [hr.len]; exact Nat.pos_of_ne_zero fun e => hmod (dlen_eq_zero.1 e)
 have hmodk := hide hmod
 clear hmod
 go_wp2_with fail
 have hBa : Below w3.heap.size w3 (w3.alloc (Obj.cells #[.int .u32 1] 68)).drew := ((Below.refl _ w3).alloc (Nat.le_refl _) _).drew
 have hQa : IsD (w3.alloc (Obj.cells #[.int .u32 1] 68)).drew aq nq (za.natAbs / zb.natAbs) := hq.below hBa
 have hRa : IsD (w3.alloc (Obj.cells #[.int .u32 1] 68)).drew ar nr (za.natAbs % zb.natAbs) := hr.below hBa
 have hYa : IsD (w3.alloc (Obj.cells #[.int .u32 1] 68)).drew ab nb zb.natAbs := (hb.dig.below hB3).below hBa
 have hOne : IsD (w3.alloc (Obj.cells #[.int .u32 1] 68)).drew (some ⟨w3.heap.size, 0, none⟩) 1 1 :=
  ⟨(dlen_one (by decide) (by decide)).symm, .inr ⟨_, _, rfl, fun j hj => by match j, hj with | 0, _ => simp [go_sem, dgt, bp_zero]⟩⟩
 have hq64 : nq ≤ 64 := by rw [hq.len]; refine Nat.le_trans (dlen_mono (Nat.div_le_self _ _)) ?_; rw [← ha.dig.len]; exact hna
 have hlt : w.heap.size + 1 < w3.heap.size := bB3k.lt
 have bA3d := (bA3k.below hBa bA3k.lt)
 have bB3d := (bB3k.below hBa bB3k.lt)
 have bC3d := (bC3.below hBa bC3.lt)
 have bD3d := (bD3.below hBa bD3.lt)
 clear a0 a1 b0
 go_region_held3 (fun w' => w'.cell? ⟨w.heap.size + 1, 1, none⟩ = some (.slice ab nb cb))
  (first | exact b1 | exact b1' | exact b1'' | go_keep)
  (first
    | (go_at_call 105; refine (plus_any aq _ _ 1 nq 1 cq 1 (by omega) (by decide) _ hQa hOne).mono ?_; rintro e w5 ⟨a5, n5, c5, rfl, hd5, hcap5, hfr5, hb5⟩; have b1' := (bB3d.below hb5 bB3d.lt).c1)
    | (go_at_call 106; refine (minus_any ab ar _ _ nb nr cb cr (by omega) _ (hYa.below hb5) (hRa.below hb5) (Nat.le_of_lt (Nat.mod_lt _ (Nat.pos_of_ne_zero HY0.out)))).mono ?_; rintro e w6 ⟨a6, n6, c6, rfl, hd6, hcap6, hfr6, hb6⟩; have b1'' := ((bB3d.below hb5 bB3d.lt).below hb6 (Nat.lt_of_lt_of_le bB3d.lt hb5.size)).c1))
 have hB6' : Below w3.heap.size w3 w6 := (hBa.trans (hb5.mono hBa.size)).trans (hb6.mono (Nat.le_trans hBa.size hb5.size))
 have hB3o := hB3
 have hB3 : Below w.heap.size w w6 := hB3o.trans (hB6'.mono hB3o.size)
 have bA6 := bA3k.below hB6' bA3k.lt
 have bB6 := bB3k.below hB6' bB3k.lt
 have bC3 := bC3.below hB6' bC3.lt
 have bD3 := bD3.below hB6' bD3.lt
 have hf5 : n5 = 0 ∨ Fresh w2 a5 := hfr5.imp id fun h ad e => Nat.le_trans hb3.size (Nat.le_trans hBa.size (h ad e))
 have hf6 : n6 = 0 ∨ Fresh w2 a6 := hfr6.imp id fun h ad e => Nat.le_trans hb3.size (Nat.le_trans hBa.size (Nat.le_trans hb5.size (h ad e)))
 have hd5' := hd5.below hb6
 have hq64 : n5 ≤ 64 := by
  rw [hd5.len]; refine Nat.le_trans (dlen_mono (b := za.natAbs) ?_) (by rw [← ha.dig.len]; exact hna)
  have h1 := Nat.div_add_mod za.natAbs zb.natAbs
  have h2 : 2 * (za.natAbs / zb.natAbs) ≤ zb.natAbs * (za.natAbs / zb.natAbs) := Nat.mul_le_mul_right _ (by
   have h3 : za.natAbs % zb.natAbs ≠ 0 := hmodk
   have h4 : zb.natAbs ≠ 0 := HY0
   rcases Nat.lt_or_ge zb.natAbs 2 with h | h
   · rw [show zb.natAbs = 1 by omega, Nat.mod_one] at h3; exact absurd rfl h3
   · exact h)
  have h3 : za.natAbs % zb.natAbs ≠ 0 := hmodk
  omega
 have hr64 : n6 ≤ 64 := by rw [hd6.len]; refine Nat.le_trans (dlen_mono (Nat.sub_le _ _)) ?_; rw [← hb.dig.len]; exact hnb
 clear b1 b1' b1''
 obtain ⟨a0, a1, -, -⟩ := bA6
 obtain ⟨b0, b1, -, -⟩ := bB6
 go_wp2_with fail
 refine (number_of (!sb) a5 n5 c5 _ hcap5 hq64 _ hd5').mono ?_
 rintro e w4 ⟨sq, aq', nq', cq', rfl, hnq', haq', hb4⟩
 have bC4 := bC3.below hb4 bC3.lt
 have bD4 := bD3.below hb4 bD3.lt
 clear a0 a1 b0 b1
 go_wp2_with fail
 have hB4 : Below w.heap.size w w4 := hB3.trans (hb4.mono hB3.size)
 obtain ⟨W4, hW4⟩ : ∃ W4, w4.alloc (Obj.cells #[.bool sq, .slice aq' nq' cq'] 25) = W4 := ⟨_, rfl⟩
 have hB4' : Below w4.heap.size w4 W4 := by rw [← hW4]; exact (Below.refl _ w4).alloc (Nat.le_refl _) _
 have bQ : Box2 W4 w4.heap.size (.bool sq) (.slice aq' nq' cq') := by rw [← hW4]; exact Box2.new _ _ _ _
 rw [hW4]
 clear hW4
 refine (number_of false a6 n6 c6 _ hcap6 hr64 _ ((hd6.below hb4).below hB4')).mono ?_
 rintro e w5 ⟨sr, ar', nr', cr', rfl, hnr', har', hb5⟩
 have hs4 := hB4'.size
 have bQ5 := bQ.below hb5 bQ.lt
 have bC5 := (bC4.below hB4' bC4.lt).below hb5 (by have := bC4.lt; omega)
 have bD5 := (bD4.below hB4' bD4.lt).below hb5 (by have := bD4.lt; omega)
 have hB5 : Below w.heap.size w w5 := (hB4.trans (hB4'.mono hB4.size)).trans (hb5.mono (Nat.le_trans hB4.size hs4))
 have hnq5 := (hnq'.below hB4').below hb5
 go_wp2_with fail
 obtain ⟨W6, hW6⟩ : ∃ W6, w5.alloc (Obj.cells #[.bool sr, .slice ar' nr' cr'] 25) = W6 := ⟨_, rfl⟩
 have hB5' : Below w5.heap.size w5 W6 := by rw [← hW6]; exact (Below.refl _ w5).alloc (Nat.le_refl _) _
 have bR6 : Box2 W6 w5.heap.size (.bool sr) (.slice ar' nr' cr') := by rw [← hW6]; exact Box2.new _ _ _ _
 have bQ6 := bQ5.below hB5' bQ5.lt
 have bC6 := bC5.below hB5' bC5.lt
 have bD6 := bD5.below hB5' bD5.lt
 have hB6 : Below w.heap.size w W6 := hB5.trans (hB5'.mono hB5.size)
 have hnq6 := hnq5.below hB5'
 have hnr6 := hnr'.below hB5'
 rw [hW6]
 clear hW6
 have hne1 : w.heap.size + 1 + 1 ≠ w4.heap.size := by have := bC4.lt; omega
 have hne2 : w.heap.size + 1 + 1 ≠ w5.heap.size := by have := bC5.lt; omega
 have hne3 : w.heap.size + 1 + 1 + 1 ≠ w4.heap.size := by have := bD4.lt; omega
 have hne4 : w.heap.size + 1 + 1 + 1 ≠ w5.heap.size := by have := bD5.lt; omega
 have bC6k := bC6
 have bD6k := bD6
 obtain ⟨r0, r1, -, -⟩ := bR6
 obtain ⟨q0, q1, -, -⟩ := bQ6
 obtain ⟨c0, c1, cf0, cf1⟩ := bC6
 obtain ⟨d0, d1, df0, df1⟩ := bD6
 go_region
 clear r0 r1 q0 q1 c0 c1 cf0 cf1 d0 d1 df0 df1 hne1 hne2 hne3 hne4
 have hs2 : w.heap.size + 1 + 1 + 1 < w2.heap.size := bD2.lt
 have hfq6 : nq' = 0 ∨ ∀ ad, aq' = some ad → w2.heap.size ≤ ad.block := by
  have hn43 : nq' = n5 := by rw [hnq'.dig.len, hd5'.len, signed_abs]
  rcases haq' with h | h
  · exact .inl h
  · rcases hf5 with h' | h'
    · first | exact .inl (hn43.trans h') | exact .inl hn43
    · exact .inr fun ad e => h' ad (h ▸ e)
 have hfr6 : nr' = 0 ∨ ∀ ad, ar' = some ad → w2.heap.size ≤ ad.block := by
  have hn43 : nr' = n6 := by rw [hnr'.dig.len, hd6.len, signed_abs]
  rcases har' with h | h
  · exact .inl h
  · rcases hf6 with h' | h'
    · first | exact .inl (hn43.trans h') | exact .inl hn43
    · exact .inr fun ad e => h' ad (h ▸ e)
 have off : ∀ {n : Nat} {a : Option Addr} {B : Nat}, (n = 0 ∨ ∀ ad, a = some ad → w2.heap.size ≤ ad.block) → B < w2.heap.size → (n = 0 ∨ ∀ ad, a = some ad → ad.block ≠ B) := fun h hB => h.imp id fun h' ad e => by have := h' ad e; omega
 have kC := bC6k.set (.bool sq) (.slice aq' nq' cq')
 have kD := bD6k.other (.bool sq) (.slice aq' nq' cq') (C := w.heap.size + 1 + 1 + 1) (B := w.heap.size + 1 + 1) (by omega)
 have kQ := (hnq6.set2 bC6k (.bool sq) (.slice aq' nq' cq') (off hfq6 (by omega))).set2 kD (.bool sr) (.slice ar' nr' cr') (off hfq6 (by omega))
 have kR := (hnr6.set2 bC6k (.bool sq) (.slice aq' nq' cq') (off hfr6 (by omega))).set2 kD (.bool sr) (.slice ar' nr' cr') (off hfr6 (by omega))
 have kB := below_set2 (below_set2 hB6 (B := w.heap.size + 1 + 1) (by omega) (.bool sq) (.slice aq' nq' cq')) (B := w.heap.size + 1 + 1 + 1) (by omega) (.bool sr) (.slice ar' nr' cr')
 have kC2 := kC.other (.bool sr) (.slice ar' nr' cr') (C := w.heap.size + 1 + 1) (B := w.heap.size + 1 + 1 + 1) (by omega)
 have kD2 := kD.set (.bool sr) (.slice ar' nr' cr')
 obtain ⟨W7, hW7⟩ : ∃ W7, (((W6.setCell ⟨w.heap.size + 1 + 1, 0, none⟩ (.bool sq)).setCell ⟨w.heap.size + 1 + 1, 1, none⟩ (.slice aq' nq' cq')).setCell ⟨w.heap.size + 1 + 1 + 1, 0, none⟩ (.bool sr)).setCell ⟨w.heap.size + 1 + 1 + 1, 1, none⟩ (.slice ar' nr' cr') = W7 := ⟨_, rfl⟩
 rw [hW7] at kQ kR kB kC2 kD2 ⊢
 clear hW7 kC kD
 have kd := Below.drew (Below.refl W7.heap.size W7)
 have fQ := kQ.below kd
 have fR := kR.below kd
 have fB := kB.trans (kd.mono kB.size)
 obtain ⟨q0, q1, -, -⟩ := kC2.below kd kC2.lt
 obtain ⟨r0, r1, -, -⟩ := kD2.below kd kD2.lt
 clear kd kC2 kD2
 go_wp2
 refine bodyPost_ret (v := .tuple #[.agg #[.bool sq, .slice aq' nq' cq'], .agg #[.bool sr, .slice ar' nr' cr'], .bool true]) (by simp [results, Tryz.results56, go_sem, q0, q1, r0, r1]) rfl ?_
 refine ⟨_, _, _, _, _, _, _, _, _, _, rfl, ?_, ?_, ?_, fQ, fR, hfq6.imp id fun h ad e => Nat.le_trans hB2.size (h ad e), hfr6.imp id fun h ad e => Nat.le_trans hB2.size (h ad e), ?_, ?_, fB⟩
 · have e := divs_adj sb za.natAbs zb.natAbs HY0.out
   rw [← ha.signed_eq, ← hb.signed_eq] at e
   simpa [signed] using e
 · simp [signed]
 · have := Nat.mod_lt za.natAbs (Nat.pos_of_ne_zero HY0.out)
   have h3 : za.natAbs % zb.natAbs ≠ 0 := hmodk
   simp only [signed]; simp only [Bool.false_eq_true, if_false]; omega
 · rw [hnq'.dig.len, signed_abs, ← hd5'.len]; exact hq64
 · rw [hnr'.dig.len, signed_abs, ← hd6.len]; exact hr64
end Go.Proofs.YtgenaicmjddjcaaGreatDoor

/- num's Gcd of words. -/
namespace Go.Proofs.YtgenaicmjddjcaaGreatDoor
open Go.RowKit Go.Shelf

set_option maxRecDepth 100000 in
set_option maxHeartbeats 1000000 in
theorem commonWord_any (x y : Nat) (hx : x < 18446744073709551616) (hy : y < 18446744073709551616) (w : World) :
 Calls Tryz.prog 135 #[.int .u64 (x : Int), .int .u64 (y : Int)] w fun e w' => e = .returned (.int .u64 ((Nat.gcd x y : Nat) : Int)) ∧ Below w.heap.size w w' := by
 go_enter Tryz.func135, Tryz.ntmps135
 go_wp2
 go_loopw [0, 1] (fun p q wr => ∃ (a b : Nat), p = .int .u64 (a : Int) ∧ q = .int .u64 (b : Int) ∧ a < 18446744073709551616 ∧ b < 18446744073709551616 ∧ Nat.gcd a b = Nat.gcd x y ∧ Below w.heap.size w wr)
  (fun _ q _ => (intOf q).toNat)
 case atStart => exact ⟨x, y, rfl, rfl, hx, hy, rfl, Below.refl _ _⟩
 case round =>
  obtain ⟨a, b, rfl, rfl, ha, hb, hg, hB⟩ := hrel
  have HG := hide hg
  clear hg
  by_cases h0 : 0 < b
  · have hne : ¬ b = 0 := by omega
    have hne' : ¬ (b : Int) = 0 := by omega
    have hlt := Nat.mod_lt a h0
    have hmod : IntKind.u64.wrap ((a : Int) % (b : Int)) = ((a % b : Nat) : Int) := by
     rw [← Int.natCast_emod]; exact IntWalk.u64_in _ ⟨Int.natCast_nonneg _, by omega⟩
    have hwb : IntKind.u64.wrap (b : Int) = (b : Int) := IntWalk.u64_in _ (by omega)
    have hwa : IntKind.u64.wrap (a : Int) = (a : Int) := IntWalk.u64_in _ (by omega)
    go_wp2
    go_region
    go_wp2
    go_roundw
    case rel => exact ⟨b, a % b, rfl, by rw [Int.natCast_emod], hb, Nat.lt_trans hlt hb, by rw [← HG.out, Nat.gcd_comm a b, Nat.gcd_rec b a, Nat.gcd_comm], hB.drew⟩
    case measure => simp [intOf]; omega
  · obtain rfl : b = 0 := by omega
    go_wp2
    go_ret
    refine ⟨?_, hB⟩
    rw [← HG.out, Nat.gcd_zero_right]; rfl

theorem dgt_zero {y j : Nat} (h : dlen y ≤ j) : dgt y j = 0 := by
 unfold dgt; rw [Nat.div_eq_of_lt (Nat.lt_of_lt_of_le (lt_bp_dlen y) (bp_le h))]
theorem mixF_dgt {y m j : Nat} (h : dlen y ≤ m) : mixF (dgt y) (fun _ => 0) m j = dgt y j := by
 unfold mixF; split
 · rfl
 · exact (dgt_zero (by omega)).symm

set_option maxRecDepth 100000 in
set_option maxHeartbeats 2000000 in
theorem gcd_of (sa sb : Bool) (aa ab : Option Addr) (na nb ca cb : Nat) (za zb : Int) (hna : na ≤ 64) (hnb : nb ≤ 64) (w : World) (ha : IsN w sa aa na za) (hb : IsN w sb ab nb zb)
 (hcom : ∀ w1, Below w.heap.size w w1 → Calls Tryz.prog 107 #[.slice aa na ca, .slice ab nb cb] w1 fun e w' => ∃ (a : Option Addr) (n cap : Nat), e = .returned (.slice a n cap) ∧ IsD w' a n (Nat.gcd za.natAbs zb.natAbs) ∧ n ≤ cap ∧ (n = 0 ∨ Fresh w1 a) ∧ Below w1.heap.size w1 w') :
 Calls Tryz.prog 58 #[.agg #[.bool sa, .slice aa na ca], .agg #[.bool sb, .slice ab nb cb]] w (NumPost w (Int.gcd za zb)) := by
 have hfit : dlen (Nat.gcd za.natAbs zb.natAbs) ≤ 64 := by
  rcases Nat.eq_zero_or_pos za.natAbs with h | h
  · rw [h, Nat.gcd_zero_left, ← hb.dig.len]; exact hnb
  · exact Nat.le_trans (dlen_mono (Nat.le_of_dvd h (Nat.gcd_dvd_left _ _))) (by rw [← ha.dig.len]; exact hna)
 have HF := hide hfit
 have HCM := hide hcom
 clear hfit hcom
 go_enter Tryz.func58, Tryz.ntmps58
 go_wp2_with fail
 obtain ⟨W0, hW0⟩ : ∃ W0, ((w.alloc (Obj.cells #[.bool sa, .slice aa na ca] 25)).alloc (Obj.cells #[.bool sb, .slice ab nb cb] 25)).alloc (Obj.cells #[.bool false, .slice none 0 0] 25) = W0 := ⟨_, rfl⟩
 have bA : Box2 W0 w.heap.size (.bool sa) (.slice aa na ca) := by rw [← hW0]; exact ((Box2.new w _ _ _).alloc _).alloc _
 have bB : Box2 W0 (w.heap.size + 1) (.bool sb) (.slice ab nb cb) := by first | exact box3b hW0 | exact box2b hW0
 have bC : Box2 W0 (w.heap.size + 1 + 1) (.bool false) (.slice none 0 0) := box3c hW0
 have hsz : W0.heap.size = w.heap.size + 3 := by rw [← hW0]; simp
 have hB0 : Below w.heap.size w W0 := by rw [← hW0]; exact (((Below.refl _ w).alloc (Nat.le_refl _) _).alloc (by simp) _).alloc (by simp; omega) _
 rw [hW0]
 clear hW0
 refine (right_yes sa aa na ca za hna _ (ha.below hB0)).mono ?_
 rintro e w1 ⟨rfl, hb1⟩
 have hB1 : Below w.heap.size w w1 := hB0.trans (hb1.mono (by omega))
 have bA1 := bA.below hb1 (by omega)
 have bB1 := bB.below hb1 (by omega)
 have bC1 := bC.below hb1 (by omega)
 obtain ⟨b0, b1, -, -⟩ := bB1
 go_wp2_with fail
 refine (right_yes sb ab nb cb zb hnb _ (hb.below hB1)).mono ?_
 rintro e w2 ⟨rfl, hb2⟩
 have hB2 : Below w.heap.size w w2 := hB1.trans (hb2.mono hB1.size)
 have hs1 := hb1.size
 have bA2 := bA1.below hb2 (by omega)
 have bB2 := bB.below (hb1.trans (hb2.mono hb1.size)) (by omega)
 have bC2 := bC1.below hb2 (by omega)
 clear b0 b1 hs1
 obtain ⟨a0, a1, -, -⟩ := bA2
 obtain ⟨b0, b1, -, -⟩ := bB2
 go_wp2_with fail
 refine (HCM.out w2 hB2).mono ?_
 rintro e w3 ⟨a3, n3, cap3, rfl, hd3, hcap3, hfr3, hb3⟩
 have hB3 : Below w.heap.size w w3 := hB2.trans (hb3.mono hB2.size)
 have bC3 := bC2.below hb3 bC2.lt
 clear a0 a1 b0 b1
 go_wp2_with fail
 refine (number_of false a3 n3 cap3 _ hcap3 (by rw [hd3.len]; exact HF.out) _ hd3).mono ?_
 rintro e w4 ⟨s4, a4, n4, cap4, rfl, hn4, ha4, hb4⟩
 have bC4 := bC3.below hb4 bC3.lt
 have hBw4 := hB3.trans (hb4.mono hB3.size)
 have hlt2 : w.heap.size + 1 + 1 < w2.heap.size := bC2.lt
 have hfq : n4 = 0 ∨ ∀ ad, a4 = some ad → w2.heap.size ≤ ad.block := by
  have hn43 : n4 = n3 := by rw [hn4.dig.len, hd3.len, signed_abs]
  rcases ha4 with h | h
  · exact .inl h
  · rcases hfr3 with h' | h'
    · exact .inl (hn43.trans h')
    · exact .inr fun ad e => h' ad (h ▸ e)
 obtain ⟨hbx, hN, hBB⟩ := num_store (cap := cap4) bC4 (by omega) hBw4 hn4 (hfq.imp id fun h ad e => by have := h ad e; omega)
 have hN' := hide hN
 clear hN
 obtain ⟨q0, q1, -, -⟩ := hbx
 have bC4k := bC4
 obtain ⟨r0, r1, z0, z1⟩ := bC4
 go_wp2
 refine bodyPost_ret (v := .tuple #[.agg #[.bool s4, .slice a4 n4 cap4], .bool true]) (by simp [results, Tryz.results58, go_sem, q0, q1]) rfl ⟨_, _, _, _, rfl, ?_, hfq.imp id fun h ad e => Nat.le_trans hB2.size (h ad e), hBB⟩
 have := hN'.out
 simpa [signed, Int.gcd] using this

end Go.Proofs.YtgenaicmjddjcaaGreatDoor

/- the law's Same and is; num's Div by a digit, by 0; divides. -/
namespace Go.Proofs.YtgenaicmjddjcaaGreatDoor
open Go.RowKit Go.Shelf

theorem div_of (sa sb : Bool) (aa ab : Option Addr) (na nb ca cb : Nat) (za zb : Int) (hna : na ≤ 64) (hnb : nb ≤ 64) (w : World) (ha : IsN w sa aa na za) (hb : IsN w sb ab nb zb) (hb0 : 0 < nb)
 (hdiv : ∀ w1, Below w.heap.size w w1 → Calls Tryz.prog 104 #[.slice aa na ca, .slice ab nb cb] w1 (DivPost w1 za.natAbs zb.natAbs)) :
 Calls Tryz.prog 56 #[.agg #[.bool sa, .slice aa na ca], .agg #[.bool sb, .slice ab nb cb]] w (DivsPost w za zb) := by
 cases sa
 · exact div_pos sb aa ab na nb ca cb za zb hna hnb w ha hb hb0 hdiv
 · by_cases h : za.natAbs % zb.natAbs = 0
   · exact div_exact sb aa ab na nb ca cb za zb hna hnb w ha hb hb0 h hdiv
   · exact div_adj sb aa ab na nb ca cb za zb hna hnb w ha hb hb0 h hdiv

set_option maxRecDepth 100000 in
set_option maxHeartbeats 2000000 in
theorem div_zero (sa sb : Bool) (aa ab : Option Addr) (na ca cb : Nat) (za : Int) (hna : na ≤ 64) (w : World) (ha : IsN w sa aa na za) (hb : IsN w sb ab 0 0) :
 Calls Tryz.prog 56 #[.agg #[.bool sa, .slice aa na ca], .agg #[.bool sb, .slice ab 0 cb]] w fun e w' =>
  e = .returned (.tuple #[.agg #[.bool false, .slice none 0 0], .agg #[.bool false, .slice none 0 0], .bool false]) ∧ Below w.heap.size w w' := by
 go_enter Tryz.func56, Tryz.ntmps56
 go_wp2_with fail
 obtain ⟨W0, hW0⟩ : ∃ W0, (((w.alloc (Obj.cells #[.bool sa, .slice aa na ca] 25)).alloc (Obj.cells #[.bool sb, .slice ab 0 cb] 25)).alloc (Obj.cells #[.bool false, .slice none 0 0] 25)).alloc (Obj.cells #[.bool false, .slice none 0 0] 25) = W0 := ⟨_, rfl⟩
 have bB : Box2 W0 (w.heap.size + 1) (.bool sb) (.slice ab 0 cb) := by
  have := ((Box2.new (w.alloc (Obj.cells #[.bool sa, .slice aa na ca] 25)) (.bool sb) (.slice ab 0 cb) 25).alloc (Obj.cells #[.bool false, .slice none 0 0] 25)).alloc (Obj.cells #[.bool false, .slice none 0 0] 25)
  rw [World.size_alloc] at this; rw [← hW0]; exact this
 have bC : Box2 W0 (w.heap.size + 1 + 1) (.bool false) (.slice none 0 0) := by
  have := (Box2.new ((w.alloc (Obj.cells #[.bool sa, .slice aa na ca] 25)).alloc (Obj.cells #[.bool sb, .slice ab 0 cb] 25)) (.bool false) (.slice none 0 0) 25).alloc (Obj.cells #[.bool false, .slice none 0 0] 25)
  rw [World.size_alloc, World.size_alloc] at this; rw [← hW0]; exact this
 have bD : Box2 W0 (w.heap.size + 1 + 1 + 1) (.bool false) (.slice none 0 0) := by
  have := Box2.new (((w.alloc (Obj.cells #[.bool sa, .slice aa na ca] 25)).alloc (Obj.cells #[.bool sb, .slice ab 0 cb] 25)).alloc (Obj.cells #[.bool false, .slice none 0 0] 25)) (.bool false) (.slice none 0 0) 25
  rw [World.size_alloc, World.size_alloc, World.size_alloc] at this; rw [← hW0]; exact this
 have hsz : W0.heap.size = w.heap.size + 4 := by rw [← hW0]; simp
 have hB0 : Below w.heap.size w W0 := by rw [← hW0]; exact ((((Below.refl _ w).alloc (Nat.le_refl _) _).alloc (by simp) _).alloc (by simp; omega) _).alloc (by simp; omega) _
 rw [hW0]
 clear hW0
 refine (right_yes sa aa na ca za hna _ (ha.below hB0)).mono ?_
 rintro e w1 ⟨rfl, hb1⟩
 have hB1 : Below w.heap.size w w1 := hB0.trans (hb1.mono (by omega))
 have bB1 := bB.below hb1 (by omega)
 have bC1 := bC.below hb1 (by omega)
 have bD1 := bD.below hb1 (by omega)
 obtain ⟨b0, b1, -, -⟩ := bB1
 go_wp2_with fail
 refine (right_yes sb ab 0 cb 0 (by decide) _ (hb.below hB1)).mono ?_
 rintro e w2 ⟨rfl, hb2⟩
 have hB2 : Below w.heap.size w w2 := hB1.trans (hb2.mono hB1.size)
 have hs1 := hb1.size
 have bB2 := bB.below (hb1.trans (hb2.mono hb1.size)) (by omega)
 have bC2 := bC1.below hb2 (by omega)
 have bD2 := bD1.below hb2 (by omega)
 clear b0 b1 hs1
 have kD := bD2.other (.bool false) (.slice none 0 0) (C := w.heap.size + 1 + 1 + 1) (B := w.heap.size + 1 + 1) (by omega)
 obtain ⟨q0, q1, -, -⟩ := (bC2.set (.bool false) (.slice none 0 0)).other (.bool false) (.slice none 0 0) (C := w.heap.size + 1 + 1) (B := w.heap.size + 1 + 1 + 1) (by omega)
 obtain ⟨r0, r1, -, -⟩ := kD.set (.bool false) (.slice none 0 0)
 have kB := below_set2 (below_set2 hB2 (B := w.heap.size + 1 + 1) (by omega) (.bool false) (.slice none 0 0)) (B := w.heap.size + 1 + 1 + 1) (by omega) (.bool false) (.slice none 0 0)
 have Q := hide (And.intro q0 (And.intro q1 (And.intro r0 r1)))
 clear q0 q1 r0 r1 kD
 obtain ⟨b0, b1, -, -⟩ := bB2
 obtain ⟨c0, c1, cf0, cf1⟩ := bC2
 obtain ⟨d0, d1, df0, df1⟩ := bD2
 go_wp2
 obtain ⟨q0, q1, r0, r1⟩ := Q.out
 exact bodyPost_ret (v := .tuple #[.agg #[.bool false, .slice none 0 0], .agg #[.bool false, .slice none 0 0], .bool false]) (by simp [results, Tryz.results56, go_sem, q0, q1, r0, r1]) rfl ⟨rfl, kB⟩

end Go.Proofs.YtgenaicmjddjcaaGreatDoor

