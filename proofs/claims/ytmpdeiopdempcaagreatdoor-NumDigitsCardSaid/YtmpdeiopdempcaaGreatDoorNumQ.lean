/- num's shorten: digits divided in their place by one digit. -/
import Derived.Test.YtmpdeiopdempcaaGreatDoorNumE
namespace Go.Proofs.YtmpdeiopdempcaaGreatDoor
open Go.RowKit Go.Shelf
attribute [local go_sem] Oper.semAt_some

theorem shorten_step (V k y : Nat) (hy : 0 < y) : (hiN V (k + 1) % y * 4294967296 + dgt V k) / y = dgt (V / y) k ∧ (hiN V (k + 1) % y * 4294967296 + dgt V k) % y = hiN V k % y ∧ (hiN V (k + 1) % y * 4294967296 + dgt V k) / y < 4294967296 := by
  have h0 : hiN V k = hiN V (k + 1) * 4294967296 + dgt V k := div_bp_step V k
  have hd := dgt_lt V k
  have h1 : hiN V k = (hiN V (k + 1) % y * 4294967296 + dgt V k) + hiN V (k + 1) / y * 4294967296 * y := by
    rw [h0]
    have h := Nat.div_add_mod (hiN V (k + 1)) y
    generalize hiN V (k + 1) / y = q at *
    generalize hiN V (k + 1) % y = r at *
    rw [← h, Nat.add_mul, Nat.mul_assoc, Nat.mul_comm y]
    omega
  have hr : hiN V (k + 1) % y < y := Nat.mod_lt _ hy
  have h2 : (hiN V (k + 1) % y * 4294967296 + dgt V k) / y < 4294967296 := by
    rw [Nat.div_lt_iff_lt_mul hy]
    have : (hiN V (k + 1) % y + 1) * 4294967296 ≤ y * 4294967296 := Nat.mul_le_mul_right _ hr
    rw [Nat.mul_comm 4294967296]
    omega
  refine ⟨?_, ?_, h2⟩
  · have h3 : V / y / bp k = hiN V k / y := by unfold hiN; rw [Nat.div_div_eq_div_mul, Nat.div_div_eq_div_mul, Nat.mul_comm]
    unfold dgt
    rw [h3, h1, Nat.add_mul_div_right _ _ hy, Nat.add_mul_mod_self_right]
    exact (Nat.mod_eq_of_lt h2).symm
  · rw [h1, Nat.add_mul_mod_self_right]

set_option maxRecDepth 100000 in
set_option maxHeartbeats 2000000 in
theorem shorten_any (b off L cap V : Nat) (y : Nat) (hy : 0 < y) (hy' : y < 4294967296) (hL : L ≤ 1099511627776) (hVL : V < bp L) (w : World) (hb : b < w.heap.size) (hx : Cells w b off L (dgt V)) (hfr : Free w b off L) :
    Calls Tryz.prog 66 #[.slice (some ⟨b, off, none⟩) L cap, .int .u32 (y : Int)] w fun e w' => e = .returned (.int .u32 ((V % y : Nat) : Int)) ∧
      Cells w' b off L (dgt (V / y)) ∧ Touch b off (off + L) w w' := by
  refine calls_marks Tryz.func66 rfl ?_
  simp only [Tryz.ntmps66, List.size_toArray, List.length_cons, List.length_nil, Nat.reduceAdd, Nat.reduceSub, Array.replicate_succ, Array.replicate_zero, List.push_toArray, List.append_toArray, List.nil_append, List.cons_append]
  go_wp2_with (go_at_call 50; refine (backward_any _ _ _ _).mono ?_; rintro e w' ⟨rfl, rfl⟩)
  obtain ⟨W0, hW0⟩ : ∃ W0, (((w.alloc (Obj.cells #[Value.slice (some ⟨b, off, none⟩) L cap] 25)).alloc (Obj.cells #[Value.int .u32 (y : Int)] 52)).alloc (Obj.cells #[Value.int .u64 0] 61)).alloc (Obj.cells #[Value.slice (some ⟨b, off, none⟩) L cap] 25) = W0 := ⟨_, rfl⟩
  have c0 : W0.cell? ⟨w.heap.size, 0, none⟩ = some (.slice (some ⟨b, off, none⟩) L cap) := by rw [← hW0]; simp [go_sem]
  have c1 : W0.cell? ⟨w.heap.size + 1, 0, none⟩ = some (.int .u32 (y : Int)) := by rw [← hW0]; simp [go_sem]
  have c2 : W0.cell? ⟨w.heap.size + 1 + 1, 0, none⟩ = some (.int .u64 0) := by rw [← hW0]; simp [go_sem]
  have z2 : W0.frozen? ⟨w.heap.size + 1 + 1, 0, none⟩ = false := by rw [← hW0]; simp [go_sem]
  have c3 : W0.cell? ⟨w.heap.size + 1 + 1 + 1, 0, none⟩ = some (.slice (some ⟨b, off, none⟩) L cap) := by rw [← hW0]; simp [go_sem]
  have hsz : W0.heap.size = w.heap.size + 4 := by rw [← hW0]; simp
  have hB0 : Below w.heap.size w W0 := by rw [← hW0]; exact ((((Below.refl _ w).alloc (Nat.le_refl _) _).alloc (by simp) _).alloc (by simp; omega) _).alloc (by simp; omega) _
  have hT0 : Touch b off (off + L) w W0 := Touch.of_below hB0 (Nat.le_refl _) hb
  rw [hW0]
  clear hW0
  have HVL := hide hVL
  have HX := hide hx
  have HFR := hide hfr
  have hmx : Tryz.prog.follows .mixedOrders = true := by kernel_rfl
  clear hVL hx hfr
  refine wp_backW (w.heap.size + 1 + 1 + 1) (some ⟨b, off, none⟩) L cap (by omega) rfl rfl
    (fun k W => (W.cell? ⟨w.heap.size, 0, none⟩ = some (.slice (some ⟨b, off, none⟩) L cap) ∧ W.cell? ⟨w.heap.size + 1, 0, none⟩ = some (.int .u32 (y : Int)) ∧ W.cell? ⟨w.heap.size + 1 + 1, 0, none⟩ = some (.int .u64 ((hiN V k % y : Nat) : Int)) ∧
      W.frozen? ⟨w.heap.size + 1 + 1, 0, none⟩ = false ∧ W.cell? ⟨w.heap.size + 1 + 1 + 1, 0, none⟩ = some (.slice (some ⟨b, off, none⟩) L cap)) ∧
      Touch b off (off + L) w W ∧ W0.heap.size ≤ W.heap.size ∧ Cells W b off L (mixF (dgt V) (dgt (V / y)) k))
    (fun _ _ => False)
    ?hI ?hIx (fun _ _ h => h.1.2.2.2.2) ⟨⟨c0, c1, by rw [c2, hiN, Nat.div_eq_of_lt HVL.out]; simp, z2, c3⟩, hT0, Nat.le_refl _, (HX.out.below hB0 (.inl (Nat.le_refl _))).congr fun j hj => by simp [mixF, hj]⟩
    (fun k v => { tmps := #[.slice (some ⟨b, off, none⟩) L cap, .int .u32 (y : Int), .pointer (some ⟨w.heap.size, 0, none⟩), .pointer (some ⟨w.heap.size + 1, 0, none⟩), .int .u32 0, .pointer (some ⟨w.heap.size + 1 + 1, 0, none⟩), .int .i64 (k : Int), .int .u32 v, .slice (some ⟨b, off, none⟩) L cap,
      .func (.func 81) #[] #[.pointer (some ⟨w.heap.size + 1 + 1 + 1, 0, none⟩)], .int .i64 (k : Int), .int .u32 v, undef, undef, undef, undef, undef, undef, undef, undef, undef, undef, undef, undef, undef, undef, undef, undef, undef, undef, undef], defers := [] })
    ?hcell ?assign ?body ?done ?stop
  case hI =>
    refine ownFrom_of (fun _ _ h => h.2.2.1) ?_
    rintro s W W' ⟨⟨h0, h1, h2, h3, h4⟩, h5, h6, h7⟩ hc
    exact ⟨⟨hc.cell _ _ h0, hc.cell _ _ h1, hc.cell _ _ h2, (hc.frozen _ _ h2).trans h3, hc.cell _ _ h4⟩, h5.calm hc (by omega) hb, Nat.le_trans h6 hc.below.size, hc.cells h7⟩
  case hIx => exact fun _ _ _ _ h _ _ => h
  case hcell =>
    rintro k W hk ⟨_, _, _, h7⟩
    exact ⟨b, off, _, rfl, h7 k hk⟩
  case assign =>
    intro l k v W K hK
    gi_wp2
    exact hK
  case body =>
    rintro l k v b' off' W hk ⟨⟨h0, h1, h2, h3, h4⟩, h5, h6, h7⟩ ha hcv
    cases ha
    obtain rfl : v = ((dgt V k : Nat) : Int) := by
      have := h7 k hk
      rw [hcv] at this
      have e : mixF (dgt V) (dgt (V / y)) (k + 1) k = dgt V k := by simp [mixF]
      rw [e] at this
      cases this; rfl
    obtain ⟨hq, hr, hq32⟩ := shorten_step V k y hy
    have hrl : hiN V (k + 1) % y < y := Nat.mod_lt _ hy
    have hdl := dgt_lt V k
    obtain ⟨r, hr0⟩ : ∃ r, r = hiN V (k + 1) % y := ⟨_, rfl⟩
    obtain ⟨d, hd0⟩ : ∃ d, d = dgt V k := ⟨_, rfl⟩
    rw [← hr0, ← hd0] at hq hr hq32
    rw [← hr0] at hrl h2
    rw [← hd0] at hdl hcv ⊢
    have hor := or_digits r d (by omega) hdl
    have hfz : W.frozen? ⟨b, off + k, none⟩ = false := HFR.out.touch h5 hb k hk
    have hk' : (k : Int) < L := by omega
    have hbs := lt_of_cell hcv
    have HO := hide hor
    have HQ := hide (And.intro hq (And.intro hr hq32))
    have H7 := hide h7
    clear hor hq hr hq32 hr0 hd0 h7
    gi_wp2
    rw [HO.out]
    obtain ⟨t, ht⟩ : ∃ t, t = r * 4294967296 + d := ⟨_, rfl⟩
    rw [← ht]
    have ht64 : t < 18446744073709551616 := by omega
    have HT := hide ht
    have HT64 := hide ht64
    clear ht ht64
    have e0 : (W.setCell ⟨w.heap.size + 1 + 1, 0, none⟩ (.int .u64 (t : Int))).cell? ⟨w.heap.size, 0, none⟩ = some (.slice (some ⟨b, off, none⟩) L cap) := by rw [cell_setCell_ne _ _ _ _ (fun e => by have := congrArg Addr.block e; simp only at this; omega) rfl rfl]; exact h0
    have e1 : (W.setCell ⟨w.heap.size + 1 + 1, 0, none⟩ (.int .u64 (t : Int))).cell? ⟨w.heap.size + 1, 0, none⟩ = some (.int .u32 (y : Int)) := by rw [cell_setCell_ne _ _ _ _ (fun e => by have := congrArg Addr.block e; simp only at this; omega) rfl rfl]; exact h1
    have e2 : (W.setCell ⟨w.heap.size + 1 + 1, 0, none⟩ (.int .u64 (t : Int))).cell? ⟨w.heap.size + 1 + 1, 0, none⟩ = some (.int .u64 (t : Int)) := World.cell?_setCell_same' _ _ _ (by rw [h2]; rfl)
    have e3 : (W.setCell ⟨w.heap.size + 1 + 1, 0, none⟩ (.int .u64 (t : Int))).frozen? ⟨w.heap.size + 1 + 1, 0, none⟩ = false := by rw [World.frozen?_setCell]; exact h3
    have e4 : (W.setCell ⟨w.heap.size + 1 + 1, 0, none⟩ (.int .u64 (t : Int))).cell? ⟨w.heap.size + 1 + 1 + 1, 0, none⟩ = some (.slice (some ⟨b, off, none⟩) L cap) := by rw [cell_setCell_ne _ _ _ _ (fun e => by have := congrArg Addr.block e; simp only at this; omega) rfl rfl]; exact h4
    have e5 : (W.setCell ⟨w.heap.size + 1 + 1, 0, none⟩ (.int .u64 (t : Int))).cell? ⟨b, off + k, none⟩ = some (.int .u32 (d : Int)) := by rw [cell_setCell_ne _ _ _ _ (fun e => by have := congrArg Addr.block e; simp only at this; omega) rfl rfl]; exact hcv
    have e6 : (W.setCell ⟨w.heap.size + 1 + 1, 0, none⟩ (.int .u64 (t : Int))).frozen? ⟨b, off + k, none⟩ = false := by rw [World.frozen?_setCell]; exact hfz
    have hT1 : Touch b off (off + L) w (W.setCell ⟨w.heap.size + 1 + 1, 0, none⟩ (.int .u64 (t : Int))) := h5.newCell (by omega) hb _
    have hK1 : KeepsFrom W0.heap.size W (W.setCell ⟨w.heap.size + 1 + 1, 0, none⟩ (.int .u64 (t : Int))) := (KeepsOthers.setCell _ _ _).from _
    have hC1 : Cells (W.setCell ⟨w.heap.size + 1 + 1, 0, none⟩ (.int .u64 (t : Int))) b off L (mixF (dgt V) (dgt (V / y)) (k + 1)) := fun j hj => by rw [cell_setCell_ne _ _ _ _ (fun e => by have := congrArg Addr.block e; simp only at this; omega) rfl rfl]; exact H7.out j hj
    have hs1 : (W.setCell ⟨w.heap.size + 1 + 1, 0, none⟩ (.int .u64 (t : Int))).heap.size = W.heap.size := World.size_setCell _ _ _
    obtain ⟨W1, hW1⟩ : ∃ W1, W.setCell ⟨w.heap.size + 1 + 1, 0, none⟩ (.int .u64 (t : Int)) = W1 := ⟨_, rfl⟩
    rw [hW1] at e0 e1 e2 e3 e4 e5 e6 hT1 hK1 hC1 hs1 ⊢
    have HC1 := hide hC1
    have HS1 := hide hs1
    clear hW1 h0 h1 h2 h3 h4 hcv hfz hC1 hs1
    have hdiv := (HQ.out).2.2
    rw [← HT.out] at hdiv
    have hdivI : (t : Int) / (y : Int) < 4294967296 := by rw [← Int.natCast_ediv]; omega
    have hdivI0 : 0 ≤ (t : Int) / (y : Int) := by rw [← Int.natCast_ediv]; exact Int.natCast_nonneg _
    have hy1 : (0 : Int) < (y : Int) := by omega
    obtain ⟨qd, hqd⟩ : ∃ qd, qd = t / y := ⟨_, rfl⟩
    have hq1 : IntKind.u64.wrap ((t : Int) / (y : Int)) = (qd : Int) := by rw [← Int.natCast_ediv, ← hqd]; exact IntWalk.u64_in _ ⟨Int.natCast_nonneg _, by rw [hqd]; omega⟩
    have hqd32 : (qd : Int) < 4294967296 := by rw [hqd]; omega
    have HQD := hide hqd
    have hq0 : IntKind.u64.wrap (y : Int) = (y : Int) := IntWalk.u64_in _ (by omega)
    have hq2 : IntKind.u32.wrap (qd : Int) = (qd : Int) := IntWalk.u32_in _ (by omega)
    clear hdiv hdivI hdivI0 hqd
    have hy3 : ¬ (y = 0) := by omega
    refine wpIn_mono (Q := RegEnd { tmps := #[.slice (some ⟨b, off, none⟩) L cap, .int .u32 (y : Int), .pointer (some ⟨w.heap.size, 0, none⟩), .pointer (some ⟨w.heap.size + 1, 0, none⟩), .int .u32 0, .pointer (some ⟨w.heap.size + 1 + 1, 0, none⟩), .int .i64 (k : Int), .int .u32 (d : Int), .slice (some ⟨b, off, none⟩) L cap,
      .func (.func 81) #[] #[.pointer (some ⟨w.heap.size + 1 + 1 + 1, 0, none⟩)], .int .i64 (k : Int), .int .u32 (d : Int), .int .u64 (r : Int), .int .u64 ((r : Int) * 4294967296), .int .u32 (d : Int), .int .u64 (d : Int), .int .u64 (t : Int), .slice (some ⟨b, off, none⟩) L cap, .int .i64 (k : Int),
      .int .u64 (t : Int), .int .u32 (y : Int), .int .u64 (y : Int), .int .u64 (qd : Int), .int .u32 (qd : Int), .pointer (some ⟨b, off + k, none⟩), undef, undef, undef, undef, undef, undef], defers := [] } ((W1.setCell ⟨b, off + k, none⟩ (.int .u32 (qd : Int))).drew)) ?reg ?cont
    case reg =>
      gi_region_with_o (fail)
      all_goals exact ⟨rfl, rfl, rfl⟩
    case cont =>
      rintro e a w' ⟨rfl, rfl, rfl⟩
      have g1 : (W1.setCell ⟨b, off + k, none⟩ (.int .u32 (qd : Int))).cell? ⟨w.heap.size + 1, 0, none⟩ = some (.int .u32 (y : Int)) := by rw [cell_setCell_ne _ _ _ _ (fun e => by have := congrArg Addr.block e; simp only at this; omega) rfl rfl]; exact e1
      have g2 : (W1.setCell ⟨b, off + k, none⟩ (.int .u32 (qd : Int))).cell? ⟨w.heap.size + 1 + 1, 0, none⟩ = some (.int .u64 (t : Int)) := by rw [cell_setCell_ne _ _ _ _ (fun e => by have := congrArg Addr.block e; simp only at this; omega) rfl rfl]; exact e2
      have g0 : (W1.setCell ⟨b, off + k, none⟩ (.int .u32 (qd : Int))).cell? ⟨w.heap.size, 0, none⟩ = some (.slice (some ⟨b, off, none⟩) L cap) := by rw [cell_setCell_ne _ _ _ _ (fun e => by have := congrArg Addr.block e; simp only at this; omega) rfl rfl]; exact e0
      have g4 : (W1.setCell ⟨b, off + k, none⟩ (.int .u32 (qd : Int))).cell? ⟨w.heap.size + 1 + 1 + 1, 0, none⟩ = some (.slice (some ⟨b, off, none⟩) L cap) := by rw [cell_setCell_ne _ _ _ _ (fun e => by have := congrArg Addr.block e; simp only at this; omega) rfl rfl]; exact e4
      have g3 : (W1.setCell ⟨b, off + k, none⟩ (.int .u32 (qd : Int))).frozen? ⟨w.heap.size + 1 + 1, 0, none⟩ = false := by rw [World.frozen?_setCell]; exact e3
      have hT2 := hT1.trans ((Touch.setCell (b := b) (lo := off) (hi := off + L) W1 (.int .u32 (qd : Int)) (Nat.le_add_right off k) (by omega)))
      have hK2 : KeepsFrom W0.heap.size W (W1.setCell ⟨b, off + k, none⟩ (.int .u32 (qd : Int))) := hK1.trans ((KeepsOthers.setCell _ _ _).from _)
      have hC2 := HC1.out.set qd hk
      have hC2' : Cells (W1.setCell ⟨b, off + k, none⟩ (.int .u32 (qd : Int))) b off L (mixF (dgt V) (dgt (V / y)) k) := hC2.congr fun j _ => by
        by_cases hjk : j = k
        · subst hjk; rw [putF_same, HQD.out, HT.out, HQ.out.1]; simp [mixF]
        · rw [putF_ne _ _ hjk]
          simp only [mixF]
          by_cases hj1 : j < k
          · rw [if_pos hj1, if_pos (by omega)]
          · rw [if_neg hj1, if_neg (by omega)]
      have hs2 : (W1.setCell ⟨b, off + k, none⟩ (.int .u32 (qd : Int))).heap.size = W.heap.size := by rw [World.size_setCell]; exact HS1.out
      obtain ⟨W2, hW2⟩ : ∃ W2, W1.setCell ⟨b, off + k, none⟩ (.int .u32 (qd : Int)) = W2 := ⟨_, rfl⟩
      rw [hW2] at g0 g1 g2 g3 g4 hT2 hK2 hC2' hs2 ⊢
      have HC2 := hide hC2'
      have HS2 := hide hs2
      clear hW2 e0 e1 e2 e3 e4 e5 e6 hC2 hC2' hs2
      gi_wp2
      have hmod : (t : Int) % (y : Int) = ((hiN V k % y : Nat) : Int) := by rw [← HQ.out.2.1, ← HT.out]; exact (Int.natCast_emod _ _).symm
      rw [hmod]
      refine ⟨(hK2.trans ((KeepsOthers.setCell _ _ _).from _)).trans ((KeepsOthers.drew _).from _), ⟨?_, ?_, World.cell?_setCell_same' _ _ _ (by rw [g2]; rfl), ?_, ?_⟩, (hT2.newCell (by omega) hb _).drew, ?_, ?_⟩
      · show (W2.setCell _ _).cell? _ = _
        rw [cell_setCell_ne _ _ _ _ (fun e => by have := congrArg Addr.block e; simp only at this; omega) rfl rfl]; exact g0
      · show (W2.setCell _ _).cell? _ = _
        rw [cell_setCell_ne _ _ _ _ (fun e => by have := congrArg Addr.block e; simp only at this; omega) rfl rfl]; exact g1
      · show (W2.setCell _ _).frozen? _ = _
        rw [World.frozen?_setCell]; exact g3
      · show (W2.setCell _ _).cell? _ = _
        rw [cell_setCell_ne _ _ _ _ (fun e => by have := congrArg Addr.block e; simp only at this; omega) rfl rfl]; exact g4
      · show _ ≤ (W2.setCell _ _).heap.size
        rw [World.size_setCell, HS2.out]; exact h6
      · intro j hj
        show (W2.setCell _ _).cell? _ = _
        rw [cell_setCell_ne _ _ _ _ (fun e => by have := congrArg Addr.block e; simp only at this; omega) rfl rfl]; exact HC2.out j hj
  case done =>
    rintro D W hD ⟨⟨h0, h1, h2, h3, h4⟩, h5, h6, h7⟩ hK
    rw [show hiN V 0 = V by unfold hiN; rw [bp_zero, Nat.div_one]] at h2
    have hyl : V % y < y := Nat.mod_lt _ hy
    have h7' : Cells W b off L (dgt (V / y)) := h7.congr fun j _ => by simp [mixF]
    clear h7
    obtain ⟨R, hR⟩ : ∃ R, R = V % y := ⟨_, rfl⟩
    rw [← hR] at h2 hyl
    have HR := hide hR
    clear hR
    go_wp2
    have hc := calm_put (.deferred none) hD hK rfl
    exact leavesM_one hK ⟨_, results_tmp rfl _ _ _, by rw [← HR.out]; rfl, hc.cells h7', h5.calm hc (by omega) hb⟩
  case stop => exact fun _ _ _ _ h _ => h.elim
end Go.Proofs.YtmpdeiopdempcaaGreatDoor
