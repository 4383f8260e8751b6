/- Several texts in one. -/
import Derived.Laws.Bits64b
import Derived.Test.YtgenaicmjddjcaaGreatDoorPNumA
/- num's join: the word of at most two digits. -/
namespace Go.Proofs.YtgenaicmjddjcaaGreatDoor
open Go.RowKit Go.Shelf
attribute [local go_sem] Oper.semAt_some

def hiN (V k : Nat) : Nat := V / bp k
theorem or_digits (h d : Nat) (hh : h < 4294967296) (hd : d < 4294967296) : bits BinOp.or IntKind.u64 ((h : Int) * 4294967296) (d : Int) = ((h * 4294967296 + d : Nat) : Int) := by
 have e1 : ((h : Int) * 4294967296) = ((h * 4294967296 : Nat) : Int) := by omega
 rw [e1, bits_or_u64_nat _ _ (by omega) (by omega)]
 congr 1
 have := Nat.shiftLeft_add_eq_or_of_lt (i := 32) (b := d) (by omega) h
 rw [Nat.shiftLeft_eq] at this
 exact this.symm
theorem div_bp_step (V k : Nat) : V / bp k = V / bp (k + 1) * 4294967296 + dgt V k := by
 unfold dgt
 rw [bp_succ, Nat.mul_comm 4294967296, ← Nat.div_div_eq_div_mul]
 omega

set_option maxRecDepth 100000 in
set_option maxHeartbeats 2000000 in
theorem join_any (a : Option Addr) (L cap : Nat) (f : Nat → Nat) (hL : L ≤ 2) (hf : ∀ j, j < L → f j < 4294967296) (w : World) (hd : Dig w a L f) :
 Calls Tryz.prog 108 #[.slice a L cap] w fun e w' => e = .returned (.int .u64 ((valF f L : Nat) : Int)) ∧ Below w.heap.size w w' := by
 refine calls_marks Tryz.func108 rfl ?_
 simp only [Tryz.ntmps108, List.size_toArray, List.length_cons, List.length_nil, Nat.reduceAdd, Nat.reduceSub, Array.replicate_succ, Array.replicate_zero, List.push_toArray, List.append_toArray, List.nil_append, List.cons_append]
 go_wp2_with (go_at_call 66; refine (backward_any _ _ _ _).mono ?_; rintro e w' ⟨rfl, rfl⟩)
 obtain ⟨W0, hW0⟩ : ∃ W0, ((w.alloc (Obj.cells #[.int .u64 0] 77)).alloc (Obj.cells #[.slice a L cap] 23)) = W0 := ⟨_, rfl⟩
 have c1 : W0.cell? ⟨w.heap.size, 0, none⟩ = some (.int .u64 0) := by rw [← hW0]; simp [go_sem]
 have f1 : W0.frozen? ⟨w.heap.size, 0, none⟩ = false := by rw [← hW0]; simp [go_sem]
 have c3 : W0.cell? ⟨w.heap.size + 1, 0, none⟩ = some (.slice a L cap) := by rw [← hW0]; simp [go_sem]
 have hsz : W0.heap.size = w.heap.size + 2 := by rw [← hW0]; simp
 have hB0 : Below w.heap.size w W0 := by rw [← hW0]; exact ((Below.refl _ w).alloc (Nat.le_refl _) _).alloc (by simp) _
 rw [hW0]
 clear hW0
 have HF : Hid (∀ j, j < L → f j < 4294967296) := hf
 have HV : Hid (valF f L < bp L) := valF_lt hf
 clear hf
 refine wp_backW (w.heap.size + 1) a L cap (by omega) rfl rfl
  (fun k W => (W.cell? ⟨w.heap.size, 0, none⟩ = some (.int .u64 ((hiN (valF f L) k : Nat) : Int)) ∧ W.frozen? ⟨w.heap.size, 0, none⟩ = false ∧ W.cell? ⟨w.heap.size + 1, 0, none⟩ = some (.slice a L cap)) ∧
    Below w.heap.size w W ∧ W0.heap.size ≤ W.heap.size)
  (fun _ _ => False)
  ?hI ?hIx (fun _ _ h => h.1.2.2) ⟨⟨by rw [c1, hiN, Nat.div_eq_of_lt HV.out]; rfl, f1, c3⟩, hB0, Nat.le_refl _⟩
  (fun k v => { tmps := #[.slice a L cap, undef, .int .u64 0, .pointer (some ⟨w.heap.size, 0, none⟩), undef, .int .u32 v, .slice a L cap, .func (.func 113) #[] #[.pointer (some ⟨w.heap.size + 1, 0, none⟩)], .int .i64 (k : Int), .int .u32 v, undef, undef, undef, undef, undef, undef], defers := [] })
  ?hcell ?assign ?body ?done ?stop
 case hI =>
  refine ownFrom_of (fun _ _ h => h.2.2) ?_
  rintro s W W' ⟨⟨h1, h2, h3⟩, h5, h6⟩ hc
  exact ⟨⟨hc.cell _ _ h1, (hc.frozen _ _ h1).trans h2, hc.cell _ _ h3⟩, h5.trans (hc.below.mono (by omega)), Nat.le_trans h6 hc.below.size⟩
 case hIx => exact fun _ _ _ _ h _ _ => h
 case hcell =>
  rintro k W hk ⟨_, h5, _⟩
  obtain ⟨b, off, rfl, hc⟩ := (hd.below h5).at (by omega)
  exact ⟨b, off, _, rfl, hc k hk⟩
 case assign =>
  intro l k v W K hK
  gi_wp2
  exact hK
 case body =>
  rintro l k v b off W hk ⟨⟨h1, h2, h3⟩, h5, h6⟩ ha hcv
  obtain rfl : v = ((f k : Nat) : Int) := by
   have h := (hd.below h5).at (by omega)
   obtain ⟨b', off', e, hc⟩ := h
   rw [ha] at e; cases e
   have := hc k hk
   rw [hcv] at this; cases this; rfl
  have hhi : hiN (valF f L) (k + 1) < 4294967296 := by
   unfold hiN
   rw [Nat.div_lt_iff_lt_mul (bp_pos _)]
   have h1 := HV.out
   have h2 : bp L ≤ bp (k + 1 + 1) := bp_le (by omega)
   rw [bp_succ (k + 1)] at h2
   omega
  have hfk := HF.out k hk
  have hor := or_digits (hiN (valF f L) (k + 1)) (f k) hhi hfk
  have hst : hiN (valF f L) (k + 1) * 4294967296 + f k = hiN (valF f L) k := by
   unfold hiN; rw [div_bp_step (valF f L) k, dgt_valF HF.out hk]
  rw [hst] at hor
  have HO := hide hor
  clear hcv ha hor hst
  gi_wp2
  rw [HO.out]
  exact ⟨(KeepsOthers.setCell _ _ _).from _, ⟨World.cell?_setCell_same' _ _ _ (by rw [h1]; rfl), by rw [World.frozen?_setCell]; exact h2, by rw [cell_setCell_ne _ _ _ _ (fun e => by have := congrArg Addr.block e; simp at this) rfl rfl]; exact h3⟩,
   h5.setCell (p := ⟨w.heap.size, 0, none⟩) (Nat.le_refl _) _, by rw [World.size_setCell]; exact h6⟩
 case done =>
  rintro D W hD ⟨⟨h1, h2, h3⟩, h5, h6⟩ hK
  rw [show hiN (valF f L) 0 = valF f L by unfold hiN; rw [bp_zero, Nat.div_one]] at h1
  go_wp2
  have hc := calm_put (.deferred none) hD hK rfl
  exact leavesM_one hK ⟨_, results_tmp rfl _ _ _, rfl, h5.trans (hc.below.mono (by omega))⟩
 case stop => exact fun _ _ _ _ h _ => h.elim
end Go.Proofs.YtgenaicmjddjcaaGreatDoor

/- cmp.Compare at ints and digits; num's compare. -/
namespace Go.Proofs.YtgenaicmjddjcaaGreatDoor
open Go.RowKit Go.Shelf
attribute [local go_sem] Oper.semAt_some

set_option maxHeartbeats 400000 in
theorem cmpI_lt (a b : Int) (h : a < b) (w : World) : Calls Tryz.prog 148 #[.int .i64 a, .int .i64 b] w fun e w' => e = .returned (.int .i64 (-1)) ∧ w = w' := by
 go_enter Tryz.func148, Tryz.ntmps148
 go_wp2
 go_ret
 exact ⟨rfl, rfl⟩
set_option maxHeartbeats 400000 in
theorem cmpI_eq (a : Int) (w : World) : Calls Tryz.prog 148 #[.int .i64 a, .int .i64 a] w fun e w' => e = .returned (.int .i64 0) ∧ w = w' := by
 go_enter Tryz.func148, Tryz.ntmps148
 go_wp2
 go_ret
 exact ⟨rfl, rfl⟩
set_option maxHeartbeats 400000 in
theorem cmpI_gt (a b : Int) (h : b < a) (w : World) : Calls Tryz.prog 148 #[.int .i64 a, .int .i64 b] w fun e w' => e = .returned (.int .i64 1) ∧ w = w' := by
 go_enter Tryz.func148, Tryz.ntmps148
 go_wp2
 go_ret
 exact ⟨rfl, rfl⟩
set_option maxHeartbeats 400000 in
theorem cmpD_lt (a b : Int) (h : a < b) (w : World) : Calls Tryz.prog 149 #[.int .u32 a, .int .u32 b] w fun e w' => e = .returned (.int .i64 (-1)) ∧ w = w' := by
 go_enter Tryz.func149, Tryz.ntmps149
 go_wp2
 go_ret
 exact ⟨rfl, rfl⟩
set_option maxHeartbeats 400000 in
theorem cmpD_eq (a : Int) (w : World) : Calls Tryz.prog 149 #[.int .u32 a, .int .u32 a] w fun e w' => e = .returned (.int .i64 0) ∧ w = w' := by
 go_enter Tryz.func149, Tryz.ntmps149
 go_wp2
 go_ret
 exact ⟨rfl, rfl⟩
set_option maxHeartbeats 400000 in
theorem cmpD_gt (a b : Int) (h : b < a) (w : World) : Calls Tryz.prog 149 #[.int .u32 a, .int .u32 b] w fun e w' => e = .returned (.int .i64 1) ∧ w = w' := by
 go_enter Tryz.func149, Tryz.ntmps149
 go_wp2
 go_ret
 exact ⟨rfl, rfl⟩

def cmpN (x y : Nat) : Int := if x < y then -1 else if x = y then 0 else 1
theorem cmpN_lt {x y : Nat} (h : x < y) : cmpN x y = -1 := by unfold cmpN; rw [if_pos h]
theorem cmpN_eq (x : Nat) : cmpN x x = 0 := by unfold cmpN; rw [if_neg (Nat.lt_irrefl _), if_pos rfl]
theorem cmpN_gt {x y : Nat} (h : y < x) : cmpN x y = 1 := by unfold cmpN; rw [if_neg (by omega), if_neg (by omega)]

set_option maxRecDepth 100000 in
set_option maxHeartbeats 1000000 in
theorem compare_len_lt (ax ay : Option Addr) (nx ny cx cy : Nat) (h : nx < ny) (w : World) :
 Calls Tryz.prog 125 #[.slice ax nx cx, .slice ay ny cy] w fun e w' => e = .returned (.int .i64 (-1)) ∧ Below w.heap.size w w' := by
 go_enter Tryz.func125, Tryz.ntmps125
 go_wp2_with (go_at_call 148; refine (cmpI_lt _ _ (by omega) _).mono ?_; rintro e w' ⟨rfl, rfl⟩)
 refine bodyPost_ret (v := .int .i64 (-1)) (by simp [results, Tryz.results125, go_sem]) rfl ⟨rfl, ?_⟩
 exact ((((Below.refl _ w).alloc (Nat.le_refl _) _).alloc (by simp) _))
set_option maxRecDepth 100000 in
set_option maxHeartbeats 1000000 in
theorem compare_len_gt (ax ay : Option Addr) (nx ny cx cy : Nat) (h : ny < nx) (w : World) :
 Calls Tryz.prog 125 #[.slice ax nx cx, .slice ay ny cy] w fun e w' => e = .returned (.int .i64 1) ∧ Below w.heap.size w w' := by
 go_enter Tryz.func125, Tryz.ntmps125
 go_wp2_with (go_at_call 148; refine (cmpI_gt _ _ (by omega) _).mono ?_; rintro e w' ⟨rfl, rfl⟩)
 refine bodyPost_ret (v := .int .i64 1) (by simp [results, Tryz.results125, go_sem]) rfl ⟨rfl, ?_⟩
 exact ((((Below.refl _ w).alloc (Nat.le_refl _) _).alloc (by simp) _))

set_option maxRecDepth 100000 in
set_option maxHeartbeats 2000000 in
theorem compare_same (ax ay : Option Addr) (n cx cy : Nat) (f g : Nat → Nat) (hn : n ≤ 1099511627776) (hf : ∀ j, j < n → f j < 4294967296) (hg : ∀ j, j < n → g j < 4294967296) (w : World) (hx : Dig w ax n f) (hy : Dig w ay n g) :
 Calls Tryz.prog 125 #[.slice ax n cx, .slice ay n cy] w fun e w' => e = .returned (.int .i64 (cmpN (valF f n) (valF g n))) ∧ Below w.heap.size w w' := by
 refine calls_marks Tryz.func125 rfl ?_
 simp only [Tryz.ntmps125, List.size_toArray, List.length_cons, List.length_nil, Nat.reduceAdd, Nat.reduceSub, Array.replicate_succ, Array.replicate_zero, List.push_toArray, List.append_toArray, List.nil_append, List.cons_append]
 go_wp2_with (first | (go_at_call 148; refine (cmpI_eq _ _).mono ?_; rintro e w' ⟨rfl, rfl⟩) | (go_at_call 66; refine (backward_any _ _ _ _).mono ?_; rintro e w' ⟨rfl, rfl⟩))
 obtain ⟨W0, hW0⟩ : ∃ W0, (((w.alloc (Obj.cells #[.slice ay n cy] 23)).alloc (Obj.cells #[.int .i64 0] 3)).alloc (Obj.cells #[.slice ax n cx] 23)) = W0 := ⟨_, rfl⟩
 have c1 : W0.cell? ⟨w.heap.size, 0, none⟩ = some (.slice ay n cy) := by rw [← hW0]; simp [go_sem]
 have c2 : W0.cell? ⟨w.heap.size + 1, 0, none⟩ = some (.int .i64 0) := by rw [← hW0]; simp [go_sem]
 have c3 : W0.cell? ⟨w.heap.size + 1 + 1, 0, none⟩ = some (.slice ax n cx) := by rw [← hW0]; simp [go_sem]
 have f2 : W0.frozen? ⟨w.heap.size + 1, 0, none⟩ = false := by rw [← hW0]; simp [go_sem]
 have hsz : W0.heap.size = w.heap.size + 3 := by rw [← hW0]; simp
 have hB0 : Below w.heap.size w W0 := by rw [← hW0]; exact (((Below.refl _ w).alloc (Nat.le_refl _) _).alloc (by simp) _).alloc (by simp; omega) _
 rw [hW0]
 clear hW0
 have HF : Hid (∀ j, j < n → f j < 4294967296) := hf
 have HG : Hid (∀ j, j < n → g j < 4294967296) := hg
 clear hf hg
 refine wp_backW (w.heap.size + 1 + 1) ax n cx (by omega) rfl rfl
  (fun k W => (W.cell? ⟨w.heap.size, 0, none⟩ = some (.slice ay n cy) ∧ W.cell? ⟨w.heap.size + 1, 0, none⟩ = some (.int .i64 0) ∧ W.frozen? ⟨w.heap.size + 1, 0, none⟩ = false ∧ W.cell? ⟨w.heap.size + 1 + 1, 0, none⟩ = some (.slice ax n cx)) ∧
    Below w.heap.size w W ∧ W0.heap.size ≤ W.heap.size ∧ (∀ j, k ≤ j → j < n → f j = g j))
  (fun c W => c = .ret ∧ W.cell? ⟨w.heap.size + 1, 0, none⟩ = some (.int .i64 (cmpN (valF f n) (valF g n))) ∧ Below w.heap.size w W ∧ W0.heap.size ≤ W.heap.size)
  ?hI ?hIx (fun _ _ h => h.1.2.2.2) ⟨⟨c1, c2, f2, c3⟩, hB0, Nat.le_refl _, fun j h1 h2 => by omega⟩
  (fun k v => { tmps := #[.slice ax n cx, .slice ay n cy, undef, .pointer (some ⟨w.heap.size, 0, none⟩), .pointer (some ⟨w.heap.size + 1, 0, none⟩), .int .i64 0, .int .i64 (k : Int), .int .u32 v, undef, .slice ax n cx, .int .i64 n, .slice ay n cy, .int .i64 n, .int .i64 0, .int .i64 0, .bool false, undef, .slice ax n cx,
    .func (.func 113) #[] #[.pointer (some ⟨w.heap.size + 1 + 1, 0, none⟩)], .int .i64 (k : Int), .int .u32 v, undef, undef, undef, undef, undef, undef, undef, undef, undef], defers := [] })
  ?hcell ?assign ?body ?done ?stop
 case hI =>
  refine ownFrom_of (fun _ _ h => h.2.2.1) ?_
  rintro s W W' ⟨⟨h1, h2, h3, h4⟩, h5, h6, h7⟩ hc
  exact ⟨⟨hc.cell _ _ h1, hc.cell _ _ h2, (hc.frozen _ _ h2).trans h3, hc.cell _ _ h4⟩, h5.trans (hc.below.mono (by omega)), Nat.le_trans h6 hc.below.size, h7⟩
 case hIx =>
  refine ownFrom_of (fun _ _ h => h.2.2.2) ?_
  rintro s W W' ⟨hr, h2, h5, h6⟩ hc
  exact ⟨hr, hc.cell _ _ h2, h5.trans (hc.below.mono (by omega)), Nat.le_trans h6 hc.below.size⟩
 case hcell =>
  rintro k W hk ⟨_, h5, _, _⟩
  obtain ⟨b, off, rfl, hc⟩ := (hx.below h5).at (by omega)
  exact ⟨b, off, _, rfl, hc k hk⟩
 case assign =>
  intro l k v W K hK
  gi_wp2
  exact hK
 case body =>
  rintro l k v b off W hk ⟨⟨h1, h2, h3, h4⟩, h5, h6, h7⟩ ha hcv
  obtain rfl : v = ((f k : Nat) : Int) := by
   have h := (hx.below h5).at (by omega)
   obtain ⟨b', off', e, hc⟩ := h
   rw [ha] at e; cases e
   have := hc k hk
   rw [hcv] at this; cases this; rfl
  obtain ⟨by', oy, rfl, hcy⟩ := (hy.below h5).at (by omega)
  have hy1 := hcy k hk
  have H7 := hide h7
  have hk' : (k : Int) < n := by omega
  clear h7 hcv ha hcy
  rcases Nat.lt_trichotomy (f k) (g k) with hlt | heq | hgt
  · have hlt' : ((f k : Nat) : Int) < ((g k : Nat) : Int) := by omega
    have hfin : cmpN (valF f n) (valF g n) = -1 := cmpN_lt (valF_lt_valF hk HF.out (fun j h1 h2 => H7.out j (by omega) h2) hlt)
    have HFIN := hide hfin
    clear hfin hlt
    gi_wp2_with (refine ⟨trivial, ?_⟩; gi_at_call 149; refine (CallsIn.inRound l (callsIn_wide.2 (cmpD_lt _ _ hlt' _))).mono ?_; rintro e w' ⟨rfl, rfl⟩)
    exact ⟨(KeepsOthers.setCell _ _ _).from _, rfl, by rw [HFIN.out]; exact World.cell?_setCell_same' _ _ _ (by rw [h2]; rfl), h5.setCell (p := ⟨w.heap.size + 1, 0, none⟩) (by simp) _, by rw [World.size_setCell]; exact h6⟩
  · rw [heq]
    have HE := hide heq
    clear heq
    gi_wp2_with (refine ⟨trivial, ?_⟩; gi_at_call 149; refine (CallsIn.inRound l (callsIn_wide.2 (cmpD_eq _ _))).mono ?_; rintro e w' ⟨rfl, rfl⟩)
    exact ⟨KeepsFrom.refl _ _, ⟨h1, h2, h3, h4⟩, h5, h6, fun j hj hj' => by
     by_cases e : j = k
     · subst e; exact HE.out
     · exact H7.out j (by omega) hj'⟩
  · have hgt' : ((g k : Nat) : Int) < ((f k : Nat) : Int) := by omega
    have hfin : cmpN (valF f n) (valF g n) = 1 := cmpN_gt (valF_lt_valF hk HG.out (fun j h1 h2 => (H7.out j (by omega) h2).symm) hgt)
    have HFIN := hide hfin
    clear hfin hgt
    gi_wp2_with (refine ⟨trivial, ?_⟩; gi_at_call 149; refine (CallsIn.inRound l (callsIn_wide.2 (cmpD_gt _ _ hgt' _))).mono ?_; rintro e w' ⟨rfl, rfl⟩)
    exact ⟨(KeepsOthers.setCell _ _ _).from _, rfl, by rw [HFIN.out]; exact World.cell?_setCell_same' _ _ _ (by rw [h2]; rfl), h5.setCell (p := ⟨w.heap.size + 1, 0, none⟩) (by simp) _, by rw [World.size_setCell]; exact h6⟩
 case done =>
  rintro D W hD ⟨⟨h1, h2, h3, h4⟩, h5, h6, h7⟩ hK
  have h0 : cmpN (valF f n) (valF g n) = 0 := by
   rw [valF_congr (fun j hj => h7 j (Nat.zero_le _) hj)]; exact cmpN_eq _
  have H0 := hide h0
  clear h7 h0
  go_wp2
  have hK2 : (W.setCell ⟨w.heap.size + 1, 0, none⟩ (.int .i64 0)).heap[D]? = some (.deferred (some [])) := (Below.heap_setCell _ _ _ _ (by simp; omega)).trans hK
  have hc := calm_put (.deferred none) hD hK2 rfl
  have h2' := hc.cell ⟨w.heap.size + 1, 0, none⟩ _ (World.cell?_setCell_same' _ _ _ (by rw [h2]; rfl))
  refine leavesM_one hK2 ⟨.int .i64 0, by simp [results, Tryz.results125, go_sem, h2'], by rw [H0.out], ?_⟩
  exact (h5.setCell (p := ⟨w.heap.size + 1, 0, none⟩) (by simp) _).trans (hc.below.mono (by omega))
 case stop =>
  rintro D c W hD ⟨rfl, h2, h5, h6⟩ hK
  go_wp2
  have hc := calm_put (.deferred none) hD hK rfl
  have h2' := hc.cell _ _ h2
  exact leavesM_one hK ⟨_, by simp [results, Tryz.results125, go_sem, h2'], rfl, h5.trans (hc.below.mono (by omega))⟩

theorem compare_any (ax ay : Option Addr) (x y cx cy : Nat) (hn : dlen x ≤ 1099511627776) (w : World) (hx : Dig w ax (dlen x) (dgt x)) (hy : Dig w ay (dlen y) (dgt y)) :
 Calls Tryz.prog 125 #[.slice ax (dlen x) cx, .slice ay (dlen y) cy] w fun e w' => e = .returned (.int .i64 (cmpN x y)) ∧ Below w.heap.size w w' := by
 rcases Nat.lt_trichotomy (dlen x) (dlen y) with h | h | h
 · rw [cmpN_lt (lt_of_dlen h)]; exact compare_len_lt ax ay _ _ cx cy h w
 · have := compare_same ax ay (dlen x) cx cy (dgt x) (dgt y) hn (fun _ _ => dgt_lt _ _) (fun _ _ => dgt_lt _ _) w hx (by rw [h]; exact hy)
   rw [valF_dlen, h, valF_dlen] at this
   rw [h]; exact this
 · rw [cmpN_gt (lt_of_dlen h)]; exact compare_len_gt ax ay _ _ cx cy h w
end Go.Proofs.YtgenaicmjddjcaaGreatDoor

/- num's sums, differences and products of digits; the digits of a word; a right Num of digits. -/
namespace Go.Proofs.YtgenaicmjddjcaaGreatDoor
open Go.RowKit Go.Shelf

structure IsD (w : World) (a : Option Addr) (n x : Nat) : Prop where
 len : n = dlen x
 dig : Dig w a n (dgt x)
theorem IsD.below {w w' : World} {a : Option Addr} {n x : Nat} (h : IsD w a n x) (t : Below w.heap.size w w') : IsD w' a n x := ⟨h.len, h.dig.below t⟩
theorem IsD.of {w : World} {a : Option Addr} {L : Nat} {f : Nat → Nat} (h : Dig w a L f) (hf : ∀ j, j < L → f j < 4294967296) {a' : Option Addr} (ha : a' = a ∨ dlen (valF f L) = 0) : IsD w a' (dlen (valF f L)) (valF f L) := by
 refine ⟨rfl, ?_⟩
 rcases ha with rfl | ha
 · exact (h.mono (dlen_le_iff.2 (valF_lt hf))).congr fun j hj => (dgt_valF hf (Nat.lt_of_lt_of_le hj (dlen_le_iff.2 (valF_lt hf)))).symm
 · exact .inl ha

def Fresh (w : World) (a : Option Addr) : Prop := ∀ ad, a = some ad → w.heap.size ≤ ad.block
theorem Fresh.ne {w : World} {a : Option Addr} {n B : Nat} (h : n = 0 ∨ Fresh w a) (hB : B < w.heap.size) : n = 0 ∨ ∀ ad, a = some ad → ad.block ≠ B :=
 h.imp id fun h ad e => by have := h ad e; omega
theorem Fresh.or {w : World} {a a' : Option Addr} {n : Nat} (h : Fresh w a) (ha : a' = a ∨ n = 0) : n = 0 ∨ Fresh w a' := by
 rcases ha with rfl | ha
 · exact .inr h
 · exact .inl ha

theorem Dig.old {w : World} {a : Option Addr} {L g : Nat} {f : Nat → Nat} (h : Dig w a L f) (hg : w.heap.size ≤ g) : 0 < L → ∀ ad, a = some ad → ad.block ≠ g := fun hL ad e => by
 obtain ⟨b, off, rfl, hc⟩ := h.at hL
 cases e
 have := hc.lt hL
 show b ≠ g
 omega

def splitF (x : Nat) : Nat → Nat := fun j => if j = 0 then x % 4294967296 else x / 4294967296
theorem val_splitF (x : Nat) : valF (splitF x) 2 = x := by
 simp only [valF_succ, valF_zero, bp_zero, bp_one, splitF]
 simp
 omega

set_option maxRecDepth 100000 in
set_option maxHeartbeats 1000000 in
theorem split_any (x : Nat) (hx : x < 18446744073709551616) (w : World) :
 Calls Tryz.prog 103 #[.int .u64 (x : Int)] w fun e w' => ∃ (a : Option Addr) (n cap : Nat), e = .returned (.slice a n cap) ∧ IsD w' a n x ∧ n ≤ cap ∧ (n = 0 ∨ Fresh w a) ∧ Below w.heap.size w w' := by
 have hlt : ∀ j, j < 2 → splitF x j < 4294967296 := fun j _ => by unfold splitF; split <;> omega
 have hc : Cells (w.alloc (.cells #[.int .u32 ((x : Int) % 4294967296), .int .u32 ((x : Int) / 4294967296)] 68)) w.heap.size 0 2 (splitF x) := by
  intro j hj
  match j, hj with
  | 0, _ => rw [show splitF x 0 = x % 4294967296 from rfl, ← cast_mod32]; simp [go_sem]
  | 1, _ => rw [show splitF x 1 = x / 4294967296 from rfl, ← cast_div32]; simp [go_sem]
 have HC := hide hc
 have HL := hide hlt
 have HB : Hid (Below w.heap.size w (w.alloc (.cells #[.int .u32 ((x : Int) % 4294967296), .int .u32 ((x : Int) / 4294967296)] 68))) := (Below.refl _ w).alloc (Nat.le_refl _) _
 clear hc hlt
 go_enter Tryz.func103, Tryz.ntmps103
 go_wp2_with (go_at_call 112; refine (trim_any _ 2 2 (splitF x) (by decide) (by decide) HL.out _ (.inr ⟨_, 0, rfl, HC.out⟩)).mono ?_; rintro e w' ⟨a', cap', rfl, ha, hcap', hb⟩)
 go_ret
 have h1 : Dig _ (some ⟨w.heap.size, 0, none⟩) 2 (splitF x) := .inr ⟨_, 0, rfl, HC.out⟩
 have h2 := (IsD.of (h1.below hb) HL.out ha)
 have hb' := HB.out.trans (hb.mono (by simp))
 exact ⟨a', dlen (valF (splitF x) 2), cap', rfl, ⟨by rw [val_splitF], by rw [val_splitF] at h2 ⊢; exact h2.dig⟩, hcap', Fresh.or (fun ad e => by cases e; exact Nat.le_refl _) ha, hb'⟩

theorem split_int (z : Int) (h0 : 0 ≤ z) (hx : z < 18446744073709551616) (w : World) :
 Calls Tryz.prog 103 #[.int .u64 z] w fun e w' => ∃ (a : Option Addr) (n cap : Nat), e = .returned (.slice a n cap) ∧ IsD w' a n z.toNat ∧ n ≤ cap ∧ (n = 0 ∨ Fresh w a) ∧ Below w.heap.size w w' := by
 obtain ⟨m, rfl⟩ := Int.eq_ofNat_of_zero_le h0
 exact split_any m (by omega) w

set_option maxRecDepth 100000 in
set_option maxHeartbeats 1000000 in
theorem minus_any (ax ay : Option Addr) (x y nx ny cx cy : Nat) (hn : nx ≤ 1000000000000) (w : World) (hx : IsD w ax nx x) (hy : IsD w ay ny y) (hxy : y ≤ x) :
 Calls Tryz.prog 106 #[.slice ax nx cx, .slice ay ny cy] w fun e w' => ∃ (a : Option Addr) (n cap : Nat), e = .returned (.slice a n cap) ∧ IsD w' a n (x - y) ∧ n ≤ cap ∧ (n = 0 ∨ Fresh w a) ∧ Below w.heap.size w w' := by
 have hny : ny ≤ nx := by rw [hx.len, hy.len]; exact dlen_mono hxy
 go_enter Tryz.func106, Tryz.ntmps106
 go_wp2_with fail
 refine (resize_any ax nx cx nx _ rfl (dgt x) (Nat.le_refl _) (by omega) _ hx.dig).mono ?_
 rintro e w1 ⟨g, rfl, hg, hc1, hf1, hb1⟩
 have hlt1 : ∀ j, j < nx → mixF (dgt x) (fun _ => 0) nx j < 4294967296 := fun j hj => by simp [mixF, hj, dgt_lt]
 have hy1 := hy.below hb1
 have hyb := hy.dig.old hg
 go_wp2_with fail
 refine (decrease_int g 0 nx nx ny cy ay _ (dgt y) _ (by decide) (by decide) (by omega) hny hlt1 (fun _ _ => dgt_lt _ _) _ hc1 hy1.dig hyb hf1).mono ?_
 rintro e w2 ⟨f2, r, t, rfl, -, hr, hf2, hv2, hc2, ht2⟩
 have hval : valF f2 nx = x - y ∧ r = 0 := by
  have h1 : valF (mixF (dgt x) (fun _ => 0) nx) nx = x := by
   rw [valF_congr (g := dgt x) (fun j hj => by simp [mixF, hj]), hx.len, valF_dlen]
  have h2 : valF (dgt y) ny = y := by rw [hy.len, valF_dlen]
  rw [h1, h2] at hv2
  have h3 := valF_lt hf2
  simp only [Int.toNat_one, Nat.one_mul] at hv2
  have hr0 : r = 0 := by
   rcases Nat.eq_zero_or_pos r with h | h
   · exact h
   · have : bp nx ≤ r * bp nx := Nat.le_mul_of_pos_left _ h
     omega
  subst hr0
  omega
 have hb2 : Below w.heap.size w w2 := hb1.trans (ht2.below hg hb1.size)
 have HV := hide hval
 have HF := hide hf2
 clear hv2 hf2 hlt1 hyb hval
 go_wp2_with fail
 refine (trim_any (some ⟨g, 0, none⟩) nx nx f2 (by omega) (Nat.le_refl _) HF.out _ (.inr ⟨g, 0, rfl, hc2⟩)).mono ?_
 rintro e w3 ⟨a', cap', rfl, ha, hcap', hb3⟩
 go_wp2
 go_ret
 have h4 := IsD.of ((Dig.below (w' := w3) (.inr ⟨g, 0, rfl, hc2⟩) hb3)) HF.out ha
 rw [HV.out.1] at h4
 have hfr : Fresh w (some ⟨g, 0, none⟩) := fun ad e => by cases e; exact hg
 exact ⟨a', _, cap', rfl, by rw [HV.out.1]; exact h4, hcap', hfr.or ha, hb2.trans (hb3.mono hb2.size)⟩
end Go.Proofs.YtgenaicmjddjcaaGreatDoor

/- num's sums and products of digits. -/
namespace Go.Proofs.YtgenaicmjddjcaaGreatDoor
open Go.RowKit Go.Shelf

theorem valF_mix (x : Nat) {n m : Nat} (hn : n = dlen x) (h : n ≤ m) : valF (mixF (dgt x) (fun _ => 0) n) m = x := by
 obtain ⟨d, rfl⟩ : ∃ d, m = n + d := ⟨m - n, by omega⟩
 rw [valF_add, valF_congr (g := dgt x) (fun j hj => by simp [mixF, hj]), valF_zeros (k := d) (fun j _ => by simp only [mixF]; rw [if_neg (by omega)]), hn, valF_dlen]
 simp
theorem mix_lt (x n : Nat) : ∀ j, mixF (dgt x) (fun _ => 0) n j < 4294967296 := fun j => by
 unfold mixF; split
 · exact dgt_lt _ _
 · show (0 : Nat) < 4294967296; decide

set_option maxRecDepth 100000 in
set_option maxHeartbeats 1000000 in
theorem plus_ge (ax ay : Option Addr) (x y nx ny cx cy : Nat) (hn : nx ≤ 1000000000000) (hxy : ny ≤ nx) (w : World) (hx : IsD w ax nx x) (hy : IsD w ay ny y) :
 Calls Tryz.prog 105 #[.slice ax nx cx, .slice ay ny cy] w fun e w' => ∃ (a : Option Addr) (n cap : Nat), e = .returned (.slice a n cap) ∧ IsD w' a n (x + y) ∧ n ≤ cap ∧ (n = 0 ∨ Fresh w a) ∧ Below w.heap.size w w' := by
 have hxy' : (ny : Int) ≤ nx := by omega
 go_enter Tryz.func105, Tryz.ntmps105
 go_wp2_with fail
 refine (resize_any ax nx cx (nx + 1) _ (by omega) (dgt x) (by omega) (by omega) _ hx.dig).mono ?_
 rintro e w1 ⟨g, rfl, hg, hc1, hf1, hb1⟩
 have hy1 := hy.below hb1
 have hyb := hy.dig.old hg
 go_wp2_with fail
 refine (increase_any g 0 (nx + 1) (nx + 1) ny cy ay _ (dgt y) (by omega) (by omega) (Nat.le_refl _) (fun j _ => mix_lt x nx j) (fun _ _ => dgt_lt _ _) _ hc1 hy1.dig hyb hf1).mono ?_
 rintro e w2 ⟨f2, rfl, hf2, hv2, hc2, ht2⟩
 have hval : valF f2 (nx + 1) = x + y := by
  rw [hv2, valF_mix x hx.len (by omega)]
  have h2 : valF (dgt y) ny = y := by rw [hy.len, valF_dlen]
  rw [h2]
  refine Nat.mod_eq_of_lt ?_
  have h3 := lt_bp_dlen x
  have h4 := lt_bp_dlen y
  rw [← hx.len] at h3
  rw [← hy.len] at h4
  have h5 := bp_le hxy
  rw [bp_succ]; omega
 have hb2 : Below w.heap.size w w2 := hb1.trans (ht2.below hg hb1.size)
 have HV := hide hval
 have HF := hide hf2
 clear hv2 hf2 hyb hval
 go_wp2_with fail
 refine (trim_any (some ⟨g, 0, none⟩) (nx + 1) (nx + 1) f2 (by omega) (Nat.le_refl _) HF.out _ (.inr ⟨g, 0, rfl, hc2⟩)).mono ?_
 rintro e w3 ⟨a', cap', rfl, ha, hcap', hb3⟩
 go_wp2
 go_ret
 have h4 := IsD.of ((Dig.below (w' := w3) (.inr ⟨g, 0, rfl, hc2⟩) hb3)) HF.out ha
 rw [HV.out] at h4
 have hfr : Fresh w (some ⟨g, 0, none⟩) := fun ad e => by cases e; exact hg
 exact ⟨a', _, cap', rfl, by rw [HV.out]; exact h4, hcap', hfr.or ha, hb2.trans (hb3.mono hb2.size)⟩

set_option maxRecDepth 100000 in
set_option maxHeartbeats 1000000 in
theorem plus_lt (ax ay : Option Addr) (x y nx ny cx cy : Nat) (hn : ny ≤ 1000000000000) (hxy : nx < ny) (w : World) (hx : IsD w ax nx x) (hy : IsD w ay ny y) :
 Calls Tryz.prog 105 #[.slice ax nx cx, .slice ay ny cy] w fun e w' => ∃ (a : Option Addr) (n cap : Nat), e = .returned (.slice a n cap) ∧ IsD w' a n (x + y) ∧ n ≤ cap ∧ (n = 0 ∨ Fresh w a) ∧ Below w.heap.size w w' := by
 have hxy' : (nx : Int) < ny := by omega
 go_enter Tryz.func105, Tryz.ntmps105
 go_wp2_with fail
 refine (resize_any ay ny cy (ny + 1) _ (by omega) (dgt y) (by omega) (by omega) _ hy.dig).mono ?_
 rintro e w1 ⟨g, rfl, hg, hc1, hf1, hb1⟩
 have hy1 := hx.below hb1
 have hyb := hx.dig.old hg
 go_wp2_with fail
 refine (increase_any g 0 (ny + 1) (ny + 1) nx cx ax _ (dgt x) (by omega) (by omega) (Nat.le_refl _) (fun j _ => mix_lt y ny j) (fun _ _ => dgt_lt _ _) _ hc1 hy1.dig hyb hf1).mono ?_
 rintro e w2 ⟨f2, rfl, hf2, hv2, hc2, ht2⟩
 have hval : valF f2 (ny + 1) = x + y := by
  rw [hv2, valF_mix y hy.len (by omega)]
  have h2 : valF (dgt x) nx = x := by rw [hx.len, valF_dlen]
  rw [h2, Nat.add_comm]
  refine Nat.mod_eq_of_lt ?_
  have h3 := lt_bp_dlen x
  have h4 := lt_bp_dlen y
  rw [← hx.len] at h3
  rw [← hy.len] at h4
  have h5 := bp_le (Nat.le_of_lt hxy)
  rw [bp_succ]; omega
 have hb2 : Below w.heap.size w w2 := hb1.trans (ht2.below hg hb1.size)
 have HV := hide hval
 have HF := hide hf2
 clear hv2 hf2 hyb hval
 go_wp2_with fail
 refine (trim_any (some ⟨g, 0, none⟩) (ny + 1) (ny + 1) f2 (by omega) (Nat.le_refl _) HF.out _ (.inr ⟨g, 0, rfl, hc2⟩)).mono ?_
 rintro e w3 ⟨a', cap', rfl, ha, hcap', hb3⟩
 go_wp2
 go_ret
 have h4 := IsD.of ((Dig.below (w' := w3) (.inr ⟨g, 0, rfl, hc2⟩) hb3)) HF.out ha
 rw [HV.out] at h4
 have hfr : Fresh w (some ⟨g, 0, none⟩) := fun ad e => by cases e; exact hg
 exact ⟨a', _, cap', rfl, by rw [HV.out]; exact h4, hcap', hfr.or ha, hb2.trans (hb3.mono hb2.size)⟩

theorem plus_any (ax ay : Option Addr) (x y nx ny cx cy : Nat) (hn : nx ≤ 1000000000000) (hn' : ny ≤ 1000000000000) (w : World) (hx : IsD w ax nx x) (hy : IsD w ay ny y) :
 Calls Tryz.prog 105 #[.slice ax nx cx, .slice ay ny cy] w fun e w' => ∃ (a : Option Addr) (n cap : Nat), e = .returned (.slice a n cap) ∧ IsD w' a n (x + y) ∧ n ≤ cap ∧ (n = 0 ∨ Fresh w a) ∧ Below w.heap.size w w' := by
 rcases Nat.lt_or_ge nx ny with h | h
 · exact plus_lt ax ay x y nx ny cx cy hn' h w hx hy
 · exact plus_ge ax ay x y nx ny cx cy hn h w hx hy
end Go.Proofs.YtgenaicmjddjcaaGreatDoor

/- num's products of digits. -/
namespace Go.Proofs.YtgenaicmjddjcaaGreatDoor
open Go.RowKit Go.Shelf

def patchF (f g : Nat → Nat) (k m r : Nat) : Nat → Nat := mixF f (fun j => mixF g (fun i => if i = m then r else 0) m (j - k)) k
theorem patchF_low {f g : Nat → Nat} {k m r j : Nat} (h : j < k) : patchF f g k m r j = f j := by simp [patchF, mixF, h]
theorem patchF_mid {f g : Nat → Nat} {k m r j : Nat} (h : j < m) : patchF f g k m r (k + j) = g j := by
 simp only [patchF, mixF]
 rw [if_neg (by omega), Nat.add_sub_cancel_left, if_pos h]
theorem patchF_top {f g : Nat → Nat} {k m r : Nat} : patchF f g k m r (k + m) = r := by
 simp only [patchF, mixF]
 rw [if_neg (by omega), Nat.add_sub_cancel_left, if_neg (by omega), if_pos rfl]
theorem patchF_zero {f g : Nat → Nat} {k m r j : Nat} (h : k + m < j) : patchF f g k m r j = 0 := by
 simp only [patchF, mixF]
 rw [if_neg (by omega), if_neg (by omega), if_neg (by omega)]
theorem valF_patch {f g : Nat → Nat} {k m r n : Nat} (hn : k + m + 1 ≤ n) : valF (patchF f g k m r) n = valF f k + bp k * (valF g m + r * bp m) := by
 obtain ⟨d, rfl⟩ : ∃ d, n = k + (m + 1) + d := ⟨n - (k + (m + 1)), by omega⟩
 rw [valF_add, valF_zeros (k := d) (fun j _ => patchF_zero (by omega)), Nat.mul_zero, Nat.add_zero, valF_add, valF_congr (fun j hj => patchF_low hj), valF_succ, patchF_top,
  valF_congr (f := fun j => patchF f g k m r (k + j)) (g := g) (fun j hj => patchF_mid hj)]
theorem valF_top {f : Nat → Nat} {k n : Nat} (hn : k ≤ n) (h : ∀ j, k ≤ j → f j = 0) : valF f n = valF f k := by
 obtain ⟨d, rfl⟩ : ∃ d, n = k + d := ⟨n - k, by omega⟩
 rw [valF_add, valF_zeros (k := d) (fun j _ => h _ (by omega)), Nat.mul_zero, Nat.add_zero]

set_option maxRecDepth 100000 in
set_option maxHeartbeats 2000000 in
theorem times_any (ax ay : Option Addr) (x y nx ny cx cy : Nat) (hn : nx ≤ 100000000000) (hn' : ny ≤ 100000000000) (w : World) (hx : IsD w ax nx x) (hy : IsD w ay ny y) :
 Calls Tryz.prog 101 #[.slice ax nx cx, .slice ay ny cy] w fun e w' => ∃ (a : Option Addr) (n cap : Nat), e = .returned (.slice a n cap) ∧ IsD w' a n (x * y) ∧ n ≤ cap ∧ (n = 0 ∨ Fresh w a) ∧ Below w.heap.size w w' := by
 go_enter Tryz.func101, Tryz.ntmps101
 go_wp2_with (at_make; refine make_digs rfl _ _ rfl _ _ _ _ (nx + ny) rfl rfl (by omega) (by omega) (by omega) ?_; intro w1 hc1 hf1 hb1)
 obtain ⟨g, hg⟩ : ∃ g, w.heap.size = g := ⟨_, rfl⟩
 have HG := hide hg
 have hgle : w.heap.size ≤ g := by omega
 rw [hg] at hc1 hf1 ⊢
 clear hg
 go_loopw [16] (fun i wr => ∃ (k : Nat) (f' : Nat → Nat), k ≤ nx ∧ i = .int .i64 (k : Int) ∧ (∀ j, f' j < 4294967296) ∧ (∀ j, k + ny ≤ j → f' j = 0) ∧ valF f' (nx + ny) = valF (dgt x) k * y ∧
  Cells wr g 0 (nx + ny) f' ∧ Free wr g 0 (nx + ny) ∧ Below w.heap.size w wr)
  (fun i _ => nx - (intOf i).toNat)
 case atStart => exact ⟨0, fun _ => 0, Nat.zero_le _, rfl, fun _ => by show (0 : Nat) < 4294967296; decide, fun _ _ => rfl, by rw [valF_zeros (fun _ _ => rfl), valF_zero, Nat.zero_mul], hc1, hf1, hb1⟩
 case round =>
  obtain ⟨k, f', hk, rfl, hlt', hzero, hval, hcx, hfr, hbel⟩ := hrel
  by_cases hlt : k < nx
  · obtain ⟨bx, ox, rfl, hcxx⟩ := (hx.below hbel).dig.at (by omega)
    have hx1 := hcxx k hlt
    have hyr := hy.below hbel
    have hsub : Cells wr g k ny (fun j => f' (k + j)) := by
     have := hcx.shift (k := k) (n := ny) (by omega)
     rw [Nat.zero_add] at this; exact this
    have hfsub : Free wr g k ny := fun j hj => by
     have := hfr (k + j) (by omega)
     rw [Nat.zero_add] at this; exact this
    have hyb := hy.dig.old hgle
    have hd1 : (dgt x k : Int) < 4294967296 := by have := dgt_lt x k; omega
    have hk1 : (k : Int) < nx := by omega
    have HV := hide hval
    have HZ := hide hzero
    have HL := hide hlt'
    have HYB := hide hyb
    clear hval hzero hlt' hyb hcxx hc1 hf1
    go_wp2_with fail
    refine (addTimes_int g k ny _ ny cy ay (fun j => f' (k + j)) (dgt y) _ (by omega) (by omega) (by omega) (Nat.le_refl _) (fun j _ => HL.out _) (fun _ _ => dgt_lt _ _) _ hsub hyr.dig HYB.out hfsub).mono ?_
    rintro e w2 ⟨f1, r, rfl, hr, hf1, hv1, hc2, ht2⟩
    have hfr2 : Free w2 g 0 (nx + ny) := hfr.touch ht2 (hcx.lt (by omega))
    have hfz : w2.frozen? ⟨g, k + ny, none⟩ = false := by have := hfr2 (k + ny) (by omega); rw [Nat.zero_add] at this; exact this
    have hcz : w2.cell? ⟨g, k + ny, none⟩ = some (.int .u32 0) := by
     rw [ht2.cell _ (by omega)]
     have := hcx (k + ny) (by omega)
     rw [Nat.zero_add, HZ.out (k + ny) (Nat.le_refl _)] at this
     exact this
    have hbel2 : Below w.heap.size w w2 := hbel.trans (ht2.below hgle hbel.size)
    have hknx : (k : Int) + ny < (nx : Int) + ny := by omega
    have hpatch : Cells (w2.setCell ⟨g, k + ny, none⟩ (.int .u32 (r : Int))) g 0 (nx + ny) (patchF f' f1 k ny r) := by
     intro j hj
     rw [Nat.zero_add]
     by_cases e1 : j = k + ny
     · subst e1; rw [patchF_top]; exact World.cell?_setCell_same' _ _ _ (by rw [hcz]; rfl)
     · rw [cell_setCell_ne _ _ _ _ (fun e => e1 (congrArg Addr.off e)) rfl rfl]
       by_cases e2 : j < k
       · rw [patchF_low e2, ht2.cell _ (by omega)]; have := hcx j hj; rw [Nat.zero_add] at this; exact this
       · by_cases e3 : j < k + ny
         · obtain ⟨d, rfl⟩ : ∃ d, j = k + d := ⟨j - k, by omega⟩
           rw [patchF_mid (by omega)]; exact hc2 d (by omega)
         · rw [patchF_zero (by omega), ht2.cell _ (by omega)]; have := hcx j hj; rw [Nat.zero_add, HZ.out j (by omega)] at this; exact this
    have hltp : ∀ j, patchF f' (fun j => if j < ny then f1 j else 0) k ny r j < 4294967296 := by
     intro j
     by_cases e2 : j < k
     · rw [patchF_low e2]; exact HL.out j
     · obtain ⟨d, rfl⟩ : ∃ d, j = k + d := ⟨j - k, by omega⟩
       by_cases e3 : d < ny
       · rw [patchF_mid e3]; simp only [e3, if_true]; exact hf1 d e3
       · by_cases e4 : d = ny
         · subst e4; rw [patchF_top]; exact hr
         · rw [patchF_zero (by omega)]; decide
    have hpe : patchF f' (fun j => if j < ny then f1 j else 0) k ny r = patchF f' f1 k ny r := by
     funext j
     by_cases e2 : j < k
     · rw [patchF_low e2, patchF_low e2]
     · obtain ⟨d, rfl⟩ : ∃ d, j = k + d := ⟨j - k, by omega⟩
       by_cases e3 : d < ny
       · rw [patchF_mid e3, patchF_mid e3]; simp [e3]
       · by_cases e4 : d = ny
         · subst e4; rw [patchF_top, patchF_top]
         · rw [patchF_zero (by omega), patchF_zero (by omega)]
    rw [hpe] at hltp
    have hvy : valF (dgt y) ny = y := by rw [hy.len, valF_dlen]
    have hv2 : valF (patchF f' f1 k ny r) (nx + ny) = valF (dgt x) (k + 1) * y := by
     rw [valF_patch (by omega), hv1, hvy, Int.toNat_natCast, valF_succ, Nat.mul_add, ← Nat.add_assoc, ← valF_add, ← valF_top (n := nx + ny) (by omega) HZ.out, HV.out, Nat.add_mul]
     congr 1
     rw [← Nat.mul_assoc, Nat.mul_comm (bp k)]
    have HP := hide hpatch
    have HLP := hide hltp
    have HV2 := hide hv2
    have HFR := hide hfr2
    have HB2 := hide hbel2
    clear hpatch hltp hv2 hpe hvy hfr2 hbel2 hv1 hf1 hc2 ht2 hsub hfsub hcx hfr
    go_wp2
    go_roundw
    case rel => exact ⟨k + 1, patchF f' f1 k ny r, by omega, by go_num, HLP.out, fun j hj => patchF_zero (by omega), HV2.out, HP.out, fun j hj => by rw [World.frozen?_setCell]; exact HFR.out j hj, HB2.out.setCell (p := ⟨g, k + ny, none⟩) hgle _⟩
    case measure => simp [intOf]; omega
  · obtain rfl : k = nx := by omega
    have HV := hide hval
    have HL := hide hlt'
    clear hval hzero hlt' hc1 hf1
    go_wp2_with fail
    refine (trim_any (some ⟨g, 0, none⟩) (k + ny) (k + ny) f' (by omega) (Nat.le_refl _) (fun j _ => HL.out j) _ (.inr ⟨g, 0, rfl, hcx⟩)).mono ?_
    rintro e w3 ⟨a', cap', rfl, ha, hcap', hb3⟩
    go_wp2
    go_ret
    have hxy : valF f' (k + ny) = x * y := by
     have h1 : valF (dgt x) k = x := by rw [hx.len, valF_dlen]
     rw [HV.out, h1]
    have h4 := IsD.of ((Dig.below (w' := w3) (.inr ⟨g, 0, rfl, hcx⟩) hb3)) (fun j _ => HL.out j) ha
    rw [hxy] at h4
    have hfr' : Fresh w (some ⟨g, 0, none⟩) := fun ad e => by cases e; exact hgle
    exact ⟨a', _, cap', rfl, by rw [hxy]; exact h4, hcap', hfr'.or ha, hbel.trans (hb3.mono hbel.size)⟩
end Go.Proofs.YtgenaicmjddjcaaGreatDoor

/- A right Num: num's number, Right, Of. -/
namespace Go.Proofs.YtgenaicmjddjcaaGreatDoor
open Go.RowKit Go.Shelf

structure IsN (w : World) (s : Bool) (a : Option Addr) (n : Nat) (z : Int) : Prop where
 sign : s = decide (z < 0)
 dig : IsD w a n z.natAbs
theorem IsN.below {w w' : World} {s : Bool} {a : Option Addr} {n : Nat} {z : Int} (h : IsN w s a n z) (t : Below w.heap.size w w') : IsN w' s a n z := ⟨h.sign, h.dig.below t⟩
theorem num_store {w w4 : World} {B : Nat} {u0 u1 : Value} {s : Bool} {a : Option Addr} {n cap : Nat} {z : Int} (hb : Box2 w4 B u0 u1) (hB : w.heap.size ≤ B) (h4 : Below w.heap.size w w4) (hn : IsN w4 s a n z) (hne : n = 0 ∨ ∀ ad, a = some ad → ad.block ≠ B) :
 Box2 ((w4.setCell ⟨B, 0, none⟩ (.bool s)).setCell ⟨B, 1, none⟩ (.slice a n cap)) B (.bool s) (.slice a n cap) ∧ IsN ((w4.setCell ⟨B, 0, none⟩ (.bool s)).setCell ⟨B, 1, none⟩ (.slice a n cap)) s a n z ∧
  Below w.heap.size w ((w4.setCell ⟨B, 0, none⟩ (.bool s)).setCell ⟨B, 1, none⟩ (.slice a n cap)) := by
 obtain ⟨r0, r1, ht⟩ := setNum (.bool s) (.slice a n cap) hb.c0 hb.c1
 exact ⟨⟨r0, r1, by rw [World.frozen?_setCell, World.frozen?_setCell]; exact hb.z0, by rw [World.frozen?_setCell, World.frozen?_setCell]; exact hb.z1⟩, ⟨hn.sign, hn.dig.len, hn.dig.dig.touch' ht hne⟩, h4.trans (ht.below hB h4.size)⟩
def signed (s : Bool) (v : Nat) : Int := if s then -(v : Int) else v
theorem signed_abs (s : Bool) (v : Nat) : (signed s v).natAbs = v := by unfold signed; split <;> omega
theorem IsN.mk' {w : World} {s : Bool} {a : Option Addr} {n v : Nat} (h : IsD w a n v) (hs : s = true → v ≠ 0) : IsN w s a n (signed s v) := by
 refine ⟨?_, by rw [signed_abs]; exact h⟩
 cases s with
 | false => simp [signed]
 | true => have := hs rfl; simp [signed]; omega

set_option maxRecDepth 100000 in
set_option maxHeartbeats 1000000 in
theorem number_fit (neg : Bool) (a : Option Addr) (L cap : Nat) (f : Nat → Nat) (hL : L ≤ 1099511627776) (hcap : L ≤ cap) (hf : ∀ j, j < L → f j < 4294967296) (w : World) (hd : Dig w a L f) (hfit : dlen (valF f L) ≤ 64) :
 Calls Tryz.prog 73 #[.bool neg, .slice a L cap] w fun e w' => ∃ (s : Bool) (a' : Option Addr) (n cap' : Nat), e = .returned (.tuple #[.agg #[.bool s, .slice a' n cap'], .bool true]) ∧
  IsN w' s a' n (signed neg (valF f L)) ∧ (n = 0 ∨ a' = a) ∧ Below w.heap.size w w' := by
 go_enter Tryz.func73, Tryz.ntmps73
 go_wp2_with fail
 refine (trim_any a L cap f hL hcap hf _ (hd.below ((Below.refl _ w).alloc (Nat.le_refl _) _))).mono ?_
 rintro e w1 ⟨a', cap', rfl, ha, _, hb⟩
 have c0 : w1.cell? ⟨w.heap.size, 0, none⟩ = some (.bool false) := (hb.cell (p := ⟨w.heap.size, 0, none⟩) (by simp)).trans (by simp [go_sem])
 have c1 : w1.cell? ⟨w.heap.size, 1, none⟩ = some (.slice none 0 0) := (hb.cell (p := ⟨w.heap.size, 1, none⟩) (by simp)).trans (by simp [go_sem])
 have z0 : w1.frozen? ⟨w.heap.size, 0, none⟩ = false := (hb.frozen (p := ⟨w.heap.size, 0, none⟩) (by simp)).trans (by simp [go_sem])
 have z1 : w1.frozen? ⟨w.heap.size, 1, none⟩ = false := (hb.frozen (p := ⟨w.heap.size, 1, none⟩) (by simp)).trans (by simp [go_sem])
 have hD := IsD.of hd hf ha
 have hB : Below w.heap.size w w1 := ((Below.refl _ w).alloc (Nat.le_refl _) _).trans (hb.mono (by simp))
 obtain ⟨n, hn⟩ : ∃ n, n = dlen (valF f L) := ⟨_, rfl⟩
 rw [← hn] at hD ha hfit ⊢
 have hfit' : (n : Int) ≤ 64 := by omega
 have hn0 : n = 0 ↔ valF f L = 0 := by rw [hn]; exact dlen_eq_zero
 have HN := hide hn0
 have HA := hide ha
 have HB : Hid (∀ (s : Bool) (v : Value), Below w.heap.size w ((w1.setCell ⟨w.heap.size, 0, none⟩ (.bool s)).setCell ⟨w.heap.size, 1, none⟩ v)) := fun s v =>
  (hB.setCell (p := ⟨w.heap.size, 0, none⟩) (Nat.le_refl _) _).setCell (p := ⟨w.heap.size, 1, none⟩) (Nat.le_refl _) _
 have HR : Hid (∀ (s : Bool) (v : Value), ((w1.setCell ⟨w.heap.size, 0, none⟩ (.bool s)).setCell ⟨w.heap.size, 1, none⟩ v).cell? ⟨w.heap.size, 0, none⟩ = some (.bool s) ∧
  ((w1.setCell ⟨w.heap.size, 0, none⟩ (.bool s)).setCell ⟨w.heap.size, 1, none⟩ v).cell? ⟨w.heap.size, 1, none⟩ = some v) := fun s v => by
  refine ⟨?_, ?_⟩
  · rw [cell_setCell_ne _ _ _ _ (fun e => by have := congrArg Addr.off e; simp at this) rfl rfl]; exact World.cell?_setCell_same' _ _ _ (by rw [c0]; rfl)
  · refine World.cell?_setCell_same' _ _ _ ?_
    rw [cell_setCell_ne _ _ _ _ (fun e => by have := congrArg Addr.off e; simp at this) rfl rfl, c1]; rfl
 clear hn hb hn0 ha
 cases neg with
 | false =>
   go_wp2
   obtain ⟨r0, r1⟩ := HR.out false (.slice a' n cap')
   refine bodyPost_ret (v := .tuple #[.agg #[.bool false, .slice a' n cap'], .bool true]) (by simp [results, Tryz.results73, go_sem, r0, r1]) rfl ⟨_, _, _, _, rfl, ?_, HA.out.symm, HB.out _ _⟩
   exact (IsN.mk' (s := false) hD (by simp)).below (HB.out _ _)
 | true =>
   rcases Nat.eq_zero_or_pos n with h0 | h0
   · subst h0
     rw [show ((0 : Nat) : Int) = 0 from rfl] at *
     go_wp2
     obtain ⟨r0, r1⟩ := HR.out false (.slice a' 0 cap')
     have hv : valF f L = 0 := dlen_eq_zero.1 hD.len.symm
     rw [hv] at hD ⊢
     refine bodyPost_ret (v := .tuple #[.agg #[.bool false, .slice a' 0 cap'], .bool true]) (by simp [results, Tryz.results73, go_sem, r0, r1]) rfl ⟨_, _, _, _, rfl, ?_, .inl rfl, HB.out _ _⟩
     exact (IsN.mk' (s := false) hD (by simp)).below (HB.out _ _)
   · have h0' : (0 : Int) < n := by omega
     go_wp2
     obtain ⟨r0, r1⟩ := HR.out true (.slice a' n cap')
     refine bodyPost_ret (v := .tuple #[.agg #[.bool true, .slice a' n cap'], .bool true]) (by simp [results, Tryz.results73, go_sem, r0, r1]) rfl ⟨_, _, _, _, rfl, ?_, HA.out.symm, HB.out _ _⟩
     exact (IsN.mk' (s := true) hD (fun _ e => by have := HN.out.2 e; omega)).below (HB.out _ _)

set_option maxRecDepth 100000 in
set_option maxHeartbeats 1000000 in
theorem number_unfit (neg : Bool) (a : Option Addr) (L cap : Nat) (f : Nat → Nat) (hL : L ≤ 1099511627776) (hcap : L ≤ cap) (hf : ∀ j, j < L → f j < 4294967296) (w : World) (hd : Dig w a L f) (hfit : 64 < dlen (valF f L)) :
 Calls Tryz.prog 73 #[.bool neg, .slice a L cap] w fun e w' => e = .returned (.tuple #[.agg #[.bool false, .slice none 0 0], .bool false]) ∧ Below w.heap.size w w' := by
 go_enter Tryz.func73, Tryz.ntmps73
 go_wp2_with fail
 refine (trim_any a L cap f hL hcap hf _ (hd.below ((Below.refl _ w).alloc (Nat.le_refl _) _))).mono ?_
 rintro e w1 ⟨a', cap', rfl, ha, _, hb⟩
 have c0 : w1.cell? ⟨w.heap.size, 0, none⟩ = some (.bool false) := (hb.cell (p := ⟨w.heap.size, 0, none⟩) (by simp)).trans (by simp [go_sem])
 have c1 : w1.cell? ⟨w.heap.size, 1, none⟩ = some (.slice none 0 0) := (hb.cell (p := ⟨w.heap.size, 1, none⟩) (by simp)).trans (by simp [go_sem])
 have z0 : w1.frozen? ⟨w.heap.size, 0, none⟩ = false := (hb.frozen (p := ⟨w.heap.size, 0, none⟩) (by simp)).trans (by simp [go_sem])
 have z1 : w1.frozen? ⟨w.heap.size, 1, none⟩ = false := (hb.frozen (p := ⟨w.heap.size, 1, none⟩) (by simp)).trans (by simp [go_sem])
 have hB : Below w.heap.size w w1 := ((Below.refl _ w).alloc (Nat.le_refl _) _).trans (hb.mono (by simp))
 have hfit' : (64 : Int) < (dlen (valF f L) : Nat) := by omega
 have hlen : dlen (valF f L) ≤ L := dlen_le_iff.2 (valF_lt hf)
 go_wp2
 have HR : ((w1.setCell ⟨w.heap.size, 0, none⟩ (.bool false)).setCell ⟨w.heap.size, 1, none⟩ (.slice none 0 0)).cell? ⟨w.heap.size, 0, none⟩ = some (.bool false) ∧
  ((w1.setCell ⟨w.heap.size, 0, none⟩ (.bool false)).setCell ⟨w.heap.size, 1, none⟩ (.slice none 0 0)).cell? ⟨w.heap.size, 1, none⟩ = some (.slice none 0 0) := by
  refine ⟨?_, ?_⟩
  · rw [cell_setCell_ne _ _ _ _ (fun e => by have := congrArg Addr.off e; simp at this) rfl rfl]; exact World.cell?_setCell_same' _ _ _ (by rw [c0]; rfl)
  · refine World.cell?_setCell_same' _ _ _ ?_
    rw [cell_setCell_ne _ _ _ _ (fun e => by have := congrArg Addr.off e; simp at this) rfl rfl, c1]; rfl
 exact bodyPost_ret (v := .tuple #[.agg #[.bool false, .slice none 0 0], .bool false]) (by simp [results, Tryz.results73, go_sem, HR.1, HR.2]) rfl ⟨rfl, (hB.setCell (p := ⟨w.heap.size, 0, none⟩) (Nat.le_refl _) _).setCell (p := ⟨w.heap.size, 1, none⟩) (Nat.le_refl _) _⟩

set_option maxRecDepth 100000 in
set_option maxHeartbeats 1000000 in
theorem of_any (z : Int) (hz : -9223372036854775808 ≤ z) (hz' : z ≤ 9223372036854775807) (w : World) :
 Calls Tryz.prog 54 #[.int .i64 z] w fun e w' => ∃ (s : Bool) (a : Option Addr) (n cap : Nat), e = .returned (.agg #[.bool s, .slice a n cap]) ∧ IsN w' s a n z ∧ Below w.heap.size w w' := by
 have hB0 : Below w.heap.size w (w.alloc (.cells #[.bool false, .slice none 0 0] 25)) := (Below.refl _ w).alloc (Nat.le_refl _) _
 have HB0 := hide hB0
 clear hB0
 by_cases h : z < 0
 · have hw : IntKind.u64.wrap (-IntKind.u64.wrap z) = -z := by simp only [IntKind.wrap, IntKind.bits, IntKind.signed]; simp; omega
   have HW := hide hw
   clear hw
   go_enter Tryz.func54, Tryz.ntmps54
   go_wp2_with fail
   rw [HW.out]
   refine (split_int (-z) (by omega) (by omega) _).mono ?_
   rintro e w1 ⟨a', n, cap', rfl, hd, _, hfr, hb⟩
   have hB : Below w.heap.size w w1 := HB0.out.trans (hb.mono (by simp))
   have c0 : w1.cell? ⟨w.heap.size, 0, none⟩ = some (.bool false) := (hb.cell (p := ⟨w.heap.size, 0, none⟩) (by simp)).trans (by simp [go_sem])
   have c1 : w1.cell? ⟨w.heap.size, 1, none⟩ = some (.slice none 0 0) := (hb.cell (p := ⟨w.heap.size, 1, none⟩) (by simp)).trans (by simp [go_sem])
   have z0 : w1.frozen? ⟨w.heap.size, 0, none⟩ = false := (hb.frozen (p := ⟨w.heap.size, 0, none⟩) (by simp)).trans (by simp [go_sem])
   have z1 : w1.frozen? ⟨w.heap.size, 1, none⟩ = false := (hb.frozen (p := ⟨w.heap.size, 1, none⟩) (by simp)).trans (by simp [go_sem])
   go_wp2
   obtain ⟨r0, r1, ht⟩ := setNum (.bool true) (.slice a' n cap') c0 c1
   refine bodyPost_ret (v := .agg #[.bool true, .slice a' n cap']) (by simp [results, Tryz.results54, go_sem, r0, r1]) rfl ⟨_, _, _, _, rfl, ⟨by simp [h], ?_⟩, hB.trans (ht.below (Nat.le_refl _) hB.size)⟩
   have := hd.dig.touch' ht (Fresh.ne hfr (by simp))
   rw [show (-z).toNat = z.natAbs by omega] at this
   exact ⟨by rw [hd.len]; congr 1; omega, this⟩
 · have h0 : 0 ≤ z := by omega
   go_enter Tryz.func54, Tryz.ntmps54
   go_wp2_with fail
   refine (split_int z (by omega) (by omega) _).mono ?_
   rintro e w1 ⟨a', n, cap', rfl, hd, _, hfr, hb⟩
   have hB : Below w.heap.size w w1 := HB0.out.trans (hb.mono (by simp))
   have c0 : w1.cell? ⟨w.heap.size, 0, none⟩ = some (.bool false) := (hb.cell (p := ⟨w.heap.size, 0, none⟩) (by simp)).trans (by simp [go_sem])
   have c1 : w1.cell? ⟨w.heap.size, 1, none⟩ = some (.slice none 0 0) := (hb.cell (p := ⟨w.heap.size, 1, none⟩) (by simp)).trans (by simp [go_sem])
   have z0 : w1.frozen? ⟨w.heap.size, 0, none⟩ = false := (hb.frozen (p := ⟨w.heap.size, 0, none⟩) (by simp)).trans (by simp [go_sem])
   have z1 : w1.frozen? ⟨w.heap.size, 1, none⟩ = false := (hb.frozen (p := ⟨w.heap.size, 1, none⟩) (by simp)).trans (by simp [go_sem])
   go_wp2
   obtain ⟨r0, r1, ht⟩ := setNum (.bool false) (.slice a' n cap') c0 c1
   refine bodyPost_ret (v := .agg #[.bool false, .slice a' n cap']) (by simp [results, Tryz.results54, go_sem, r0, r1]) rfl ⟨_, _, _, _, rfl, ⟨by simp; omega, ?_⟩, hB.trans (ht.below (Nat.le_refl _) hB.size)⟩
   have := hd.dig.touch' ht (Fresh.ne hfr (by simp))
   rw [show z.toNat = z.natAbs by omega] at this
   exact ⟨by rw [hd.len]; congr 1; omega, this⟩
end Go.Proofs.YtgenaicmjddjcaaGreatDoor

/- num's Right. -/
namespace Go.Proofs.YtgenaicmjddjcaaGreatDoor
open Go.RowKit Go.Shelf

def rightB (s : Bool) (L : Nat) (f : Nat → Nat) : Bool := if L = 0 then !s else decide (L ≤ 64 ∧ f (L - 1) ≠ 0)

set_option maxRecDepth 100000 in
set_option maxHeartbeats 1000000 in
theorem right_any (s : Bool) (a : Option Addr) (L cap : Nat) (f : Nat → Nat) (hL : L ≤ 140737488355328) (w : World) (hd : Dig w a L f) :
 Calls Tryz.prog 63 #[.agg #[.bool s, .slice a L cap]] w fun e w' => e = .returned (.bool (rightB s L f)) ∧ Below w.heap.size w w' := by
 rcases Nat.eq_zero_or_pos L with h | h
 · subst h
   rw [show rightB s 0 f = !s from rfl]
   go_enter Tryz.func63, Tryz.ntmps63
   go_wp2
   go_ret
   exact ⟨rfl, (Below.refl _ w).alloc (Nat.le_refl _) _⟩
 · have hr0 : rightB s L f = decide (L ≤ 64 ∧ f (L - 1) ≠ 0) := by unfold rightB; rw [if_neg (by omega)]
   obtain ⟨b, off, rfl, hc⟩ := hd.at h
   have hcl := hc (L - 1) (by omega)
   have hb := hc.lt h
   have hz : ((L : Int) == 0) = false := by simp; omega
   have hz1 : ((L : Int) - 1).toNat = L - 1 := by omega
   by_cases h64 : L ≤ 64
   · have h64' : (L : Int) ≤ 64 := by omega
     by_cases hf : f (L - 1) = 0
     · rw [hf] at hcl
       rw [show rightB s L f = false by rw [hr0]; simp [hf]]
       have HC := hide hcl
       clear hf hr0 hc hd
       have hcl2 : w.cell? ⟨b, off + (L - 1), none⟩ = some (.int .u32 0) := HC.out
       clear hcl
       go_enter Tryz.func63, Tryz.ntmps63
       go_wp2
       go_ret
       exact ⟨rfl, (Below.refl _ w).alloc (Nat.le_refl _) _⟩
     · have hne : (((f (L - 1) : Nat) : Int) != 0) = true := by simp; exact hf
       have hne2 : (((f (L - 1) : Nat) : Int) == 0) = false := by simp; exact hf
       rw [show rightB s L f = true by rw [hr0]; simp [hf, h64]]
       clear hf hr0 hc hd
       go_enter Tryz.func63, Tryz.ntmps63
       go_wp2
       go_ret
       exact ⟨rfl, (Below.refl _ w).alloc (Nat.le_refl _) _⟩
   · have h64' : (64 : Int) < L := by omega
     rw [show rightB s L f = false by rw [hr0]; simp [h64]]
     clear hr0 hc hd
     go_enter Tryz.func63, Tryz.ntmps63
     go_wp2
     go_ret
     exact ⟨rfl, (Below.refl _ w).alloc (Nat.le_refl _) _⟩
end Go.Proofs.YtgenaicmjddjcaaGreatDoor

/- num's Int. -/
namespace Go.Proofs.YtgenaicmjddjcaaGreatDoor
open Go.RowKit Go.Shelf

theorem rightB_yes {w : World} {s : Bool} {a : Option Addr} {n : Nat} {z : Int} (h : IsN w s a n z) (hn : n ≤ 64) : rightB s n (dgt z.natAbs) = true := by
 unfold rightB
 split
 · rename_i h0
   subst h0
   have : z.natAbs = 0 := dlen_eq_zero.1 h.dig.len.symm
   rw [h.sign]; simp; omega
 · rename_i h0
   have : z.natAbs ≠ 0 := fun e => h0 (by rw [h.dig.len, e, dlen_zero])
   have ht := dgt_top this
   rw [← h.dig.len] at ht
   simp [hn, ht]
theorem right_yes (s : Bool) (a : Option Addr) (n cap : Nat) (z : Int) (hn : n ≤ 64) (w : World) (h : IsN w s a n z) :
 Calls Tryz.prog 63 #[.agg #[.bool s, .slice a n cap]] w fun e w' => e = .returned (.bool true) ∧ Below w.heap.size w w' := by
 have := right_any s a n cap (dgt z.natAbs) (by omega) w h.dig.dig
 rw [rightB_yes h hn] at this; exact this

theorem dlen_le_two {x : Nat} (h : x < 18446744073709551616) : dlen x ≤ 2 := dlen_le_iff.2 (by rw [bp_two]; exact h)

set_option maxRecDepth 100000 in
set_option maxHeartbeats 1000000 in
theorem int_fit (s : Bool) (a : Option Addr) (n cap : Nat) (z : Int) (h0 : -9223372036854775808 ≤ z) (h1 : z ≤ 9223372036854775807) (w : World) (h : IsN w s a n z) :
 Calls Tryz.prog 59 #[.agg #[.bool s, .slice a n cap]] w fun e w' => e = .returned (.tuple #[.int .i64 z, .bool true]) ∧ Below w.heap.size w w' := by
 have hn2 : n ≤ 2 := by rw [h.dig.len]; exact dlen_le_two (by omega)
 have hb0 : Below w.heap.size w (w.alloc (.cells #[.bool s, .slice a n cap] 25)) := (Below.refl _ w).alloc (Nat.le_refl _) _
 have hv : valF (dgt z.natAbs) n = z.natAbs := by rw [h.dig.len, valF_dlen]
 have HV := hide hv
 have HB0 := hide hb0
 have hn2' : (n : Int) ≤ 2 := by omega
 clear hv hb0
 by_cases hz : z < 0
 · obtain rfl : s = true := by rw [h.sign]; simp [hz]
   go_enter Tryz.func59, Tryz.ntmps59
   go_wp2_with fail
   refine (right_yes true a n cap z (by omega) _ (h.below HB0.out)).mono ?_
   rintro e w1 ⟨rfl, hb⟩
   have c0 : w1.cell? ⟨w.heap.size, 0, none⟩ = some (.bool true) := (hb.cell (p := ⟨w.heap.size, 0, none⟩) (by simp)).trans (by simp [go_sem])
   have c1 : w1.cell? ⟨w.heap.size, 1, none⟩ = some (.slice a n cap) := (hb.cell (p := ⟨w.heap.size, 1, none⟩) (by simp)).trans (by simp [go_sem])
   have hB1 : Below w.heap.size w w1 := HB0.out.trans (hb.mono (by simp))
   go_wp2_with fail
   refine (join_any a n cap (dgt z.natAbs) hn2 (fun _ _ => dgt_lt _ _) _ (h.dig.dig.below hB1)).mono ?_
   rintro e w2 ⟨rfl, hb2⟩
   have c0' := (hb2.cell (p := ⟨w.heap.size, 0, none⟩) (lt_of_cell c0)).trans c0
   rw [HV.out]
   go_wp2
   go_ret2
   refine ⟨?_, hB1.trans (hb2.mono hB1.size)⟩
   have hw : wrap64 (IntKind.u64.wrap (-(z.natAbs : Int))) = z := by
    have e : IntKind.u64.wrap (-(z.natAbs : Int)) = (-(z.natAbs : Int)) % 18446744073709551616 := by simp [IntKind.wrap, IntKind.bits, IntKind.signed]
    rw [e]; unfold wrap64; omega
   simp [hw]
 · obtain rfl : s = false := by rw [h.sign]; simp [hz]
   go_enter Tryz.func59, Tryz.ntmps59
   go_wp2_with fail
   refine (right_yes false a n cap z (by omega) _ (h.below HB0.out)).mono ?_
   rintro e w1 ⟨rfl, hb⟩
   have c0 : w1.cell? ⟨w.heap.size, 0, none⟩ = some (.bool false) := (hb.cell (p := ⟨w.heap.size, 0, none⟩) (by simp)).trans (by simp [go_sem])
   have c1 : w1.cell? ⟨w.heap.size, 1, none⟩ = some (.slice a n cap) := (hb.cell (p := ⟨w.heap.size, 1, none⟩) (by simp)).trans (by simp [go_sem])
   have hB1 : Below w.heap.size w w1 := HB0.out.trans (hb.mono (by simp))
   go_wp2_with fail
   refine (join_any a n cap (dgt z.natAbs) hn2 (fun _ _ => dgt_lt _ _) _ (h.dig.dig.below hB1)).mono ?_
   rintro e w2 ⟨rfl, hb2⟩
   have c0' := (hb2.cell (p := ⟨w.heap.size, 0, none⟩) (lt_of_cell c0)).trans c0
   rw [HV.out]
   go_wp2
   go_ret2
   exact ⟨by simp; omega, hB1.trans (hb2.mono hB1.size)⟩

set_option maxRecDepth 100000 in
set_option maxHeartbeats 1000000 in
theorem int_unfit (s : Bool) (a : Option Addr) (n cap : Nat) (z : Int) (hn : n ≤ 64) (hz : z < -9223372036854775808 ∨ 9223372036854775807 < z) (w : World) (h : IsN w s a n z) :
 Calls Tryz.prog 59 #[.agg #[.bool s, .slice a n cap]] w fun e w' => e = .returned (.tuple #[.int .i64 0, .bool false]) ∧ Below w.heap.size w w' := by
 have hb0 : Below w.heap.size w (w.alloc (.cells #[.bool s, .slice a n cap] 25)) := (Below.refl _ w).alloc (Nat.le_refl _) _
 have HB0 := hide hb0
 clear hb0
 by_cases hn2 : n ≤ 2
 · have hv : valF (dgt z.natAbs) n = z.natAbs := by rw [h.dig.len, valF_dlen]
   have HV := hide hv
   have hn2' : (n : Int) ≤ 2 := by omega
   have hs := h.sign
   clear hv
   rcases hz with hz | hz
   · obtain rfl : s = true := by rw [hs]; simp; omega
     have hbig : (9223372036854775808 : Int) < (z.natAbs : Int) := by omega
     clear hs
     go_enter Tryz.func59, Tryz.ntmps59
     go_wp2_with fail
     refine (right_yes true a n cap z (by omega) _ (h.below HB0.out)).mono ?_
     rintro e w1 ⟨rfl, hb⟩
     have c0 : w1.cell? ⟨w.heap.size, 0, none⟩ = some (.bool true) := (hb.cell (p := ⟨w.heap.size, 0, none⟩) (by simp)).trans (by simp [go_sem])
     have c1 : w1.cell? ⟨w.heap.size, 1, none⟩ = some (.slice a n cap) := (hb.cell (p := ⟨w.heap.size, 1, none⟩) (by simp)).trans (by simp [go_sem])
     have hB1 : Below w.heap.size w w1 := HB0.out.trans (hb.mono (by simp))
     go_wp2_with fail
     refine (join_any a n cap (dgt z.natAbs) hn2 (fun _ _ => dgt_lt _ _) _ (h.dig.dig.below hB1)).mono ?_
     rintro e w2 ⟨rfl, hb2⟩
     have c0' := (hb2.cell (p := ⟨w.heap.size, 0, none⟩) (lt_of_cell c0)).trans c0
     rw [HV.out]
     go_wp2
     go_ret2
     exact ⟨by simp, hB1.trans (hb2.mono hB1.size)⟩
   · obtain rfl : s = false := by rw [hs]; simp; omega
     have hbig : (9223372036854775807 : Int) < (z.natAbs : Int) := by omega
     clear hs
     go_enter Tryz.func59, Tryz.ntmps59
     go_wp2_with fail
     refine (right_yes false a n cap z (by omega) _ (h.below HB0.out)).mono ?_
     rintro e w1 ⟨rfl, hb⟩
     have c0 : w1.cell? ⟨w.heap.size, 0, none⟩ = some (.bool false) := (hb.cell (p := ⟨w.heap.size, 0, none⟩) (by simp)).trans (by simp [go_sem])
     have c1 : w1.cell? ⟨w.heap.size, 1, none⟩ = some (.slice a n cap) := (hb.cell (p := ⟨w.heap.size, 1, none⟩) (by simp)).trans (by simp [go_sem])
     have hB1 : Below w.heap.size w w1 := HB0.out.trans (hb.mono (by simp))
     go_wp2_with fail
     refine (join_any a n cap (dgt z.natAbs) hn2 (fun _ _ => dgt_lt _ _) _ (h.dig.dig.below hB1)).mono ?_
     rintro e w2 ⟨rfl, hb2⟩
     have c0' := (hb2.cell (p := ⟨w.heap.size, 0, none⟩) (lt_of_cell c0)).trans c0
     rw [HV.out]
     go_wp2
     go_ret2
     exact ⟨by simp, hB1.trans (hb2.mono hB1.size)⟩
 · have hn2' : (2 : Int) < n := by omega
   go_enter Tryz.func59, Tryz.ntmps59
   go_wp2_with fail
   refine (right_yes s a n cap z (by omega) _ (h.below HB0.out)).mono ?_
   rintro e w1 ⟨rfl, hb⟩
   have c0 : w1.cell? ⟨w.heap.size, 0, none⟩ = some (.bool s) := (hb.cell (p := ⟨w.heap.size, 0, none⟩) (by simp)).trans (by simp [go_sem])
   have c1 : w1.cell? ⟨w.heap.size, 1, none⟩ = some (.slice a n cap) := (hb.cell (p := ⟨w.heap.size, 1, none⟩) (by simp)).trans (by simp [go_sem])
   have hB1 : Below w.heap.size w w1 := HB0.out.trans (hb.mono (by simp))
   go_wp2
   go_ret2
   exact ⟨by simp, hB1⟩
end Go.Proofs.YtgenaicmjddjcaaGreatDoor

