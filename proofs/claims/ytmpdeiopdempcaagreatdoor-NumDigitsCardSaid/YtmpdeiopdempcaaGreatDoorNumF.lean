/- cmp.Compare at ints and digits; num's compare. -/
import Derived.Test.YtmpdeiopdempcaaGreatDoorNumD
namespace Go.Proofs.YtmpdeiopdempcaaGreatDoor
open Go.RowKit Go.Shelf
attribute [local go_sem] Oper.semAt_some

set_option maxHeartbeats 400000 in
theorem cmpI_lt (a b : Int) (h : a < b) (w : World) : Calls Tryz.prog 89 #[.int .i64 a, .int .i64 b] w fun e w' => e = .returned (.int .i64 (-1)) ∧ w = w' := by
  go_enter Tryz.func89, Tryz.ntmps89
  go_wp2
  go_ret
  exact ⟨rfl, rfl⟩
set_option maxHeartbeats 400000 in
theorem cmpI_eq (a : Int) (w : World) : Calls Tryz.prog 89 #[.int .i64 a, .int .i64 a] w fun e w' => e = .returned (.int .i64 0) ∧ w = w' := by
  go_enter Tryz.func89, Tryz.ntmps89
  go_wp2
  go_ret
  exact ⟨rfl, rfl⟩
set_option maxHeartbeats 400000 in
theorem cmpI_gt (a b : Int) (h : b < a) (w : World) : Calls Tryz.prog 89 #[.int .i64 a, .int .i64 b] w fun e w' => e = .returned (.int .i64 1) ∧ w = w' := by
  go_enter Tryz.func89, Tryz.ntmps89
  go_wp2
  go_ret
  exact ⟨rfl, rfl⟩
set_option maxHeartbeats 400000 in
theorem cmpD_lt (a b : Int) (h : a < b) (w : World) : Calls Tryz.prog 90 #[.int .u32 a, .int .u32 b] w fun e w' => e = .returned (.int .i64 (-1)) ∧ w = w' := by
  go_enter Tryz.func90, Tryz.ntmps90
  go_wp2
  go_ret
  exact ⟨rfl, rfl⟩
set_option maxHeartbeats 400000 in
theorem cmpD_eq (a : Int) (w : World) : Calls Tryz.prog 90 #[.int .u32 a, .int .u32 a] w fun e w' => e = .returned (.int .i64 0) ∧ w = w' := by
  go_enter Tryz.func90, Tryz.ntmps90
  go_wp2
  go_ret
  exact ⟨rfl, rfl⟩
set_option maxHeartbeats 400000 in
theorem cmpD_gt (a b : Int) (h : b < a) (w : World) : Calls Tryz.prog 90 #[.int .u32 a, .int .u32 b] w fun e w' => e = .returned (.int .i64 1) ∧ w = w' := by
  go_enter Tryz.func90, Tryz.ntmps90
  go_wp2
  go_ret
  exact ⟨rfl, rfl⟩

/-- the order of two numbers, as Go's compare says it -/
def cmpN (x y : Nat) : Int := if x < y then -1 else if x = y then 0 else 1
theorem cmpN_lt {x y : Nat} (h : x < y) : cmpN x y = -1 := by unfold cmpN; rw [if_pos h]
theorem cmpN_eq (x : Nat) : cmpN x x = 0 := by unfold cmpN; rw [if_neg (Nat.lt_irrefl _), if_pos rfl]
theorem cmpN_gt {x y : Nat} (h : y < x) : cmpN x y = 1 := by unfold cmpN; rw [if_neg (by omega), if_neg (by omega)]

set_option maxRecDepth 100000 in
set_option maxHeartbeats 1000000 in
theorem compare_len_lt (ax ay : Option Addr) (nx ny cx cy : Nat) (h : nx < ny) (w : World) :
    Calls Tryz.prog 58 #[.slice ax nx cx, .slice ay ny cy] w fun e w' => e = .returned (.int .i64 (-1)) ∧ Below w.heap.size w w' := by
  go_enter Tryz.func58, Tryz.ntmps58
  go_wp2_with (go_at_call 89; refine (cmpI_lt _ _ (by omega) _).mono ?_; rintro e w' ⟨rfl, rfl⟩)
  refine bodyPost_ret (v := .int .i64 (-1)) (by simp [results, Tryz.results58, go_sem]) rfl ⟨rfl, ?_⟩
  exact ((((Below.refl _ w).alloc (Nat.le_refl _) _).alloc (by simp) _))
set_option maxRecDepth 100000 in
set_option maxHeartbeats 1000000 in
theorem compare_len_gt (ax ay : Option Addr) (nx ny cx cy : Nat) (h : ny < nx) (w : World) :
    Calls Tryz.prog 58 #[.slice ax nx cx, .slice ay ny cy] w fun e w' => e = .returned (.int .i64 1) ∧ Below w.heap.size w w' := by
  go_enter Tryz.func58, Tryz.ntmps58
  go_wp2_with (go_at_call 89; refine (cmpI_gt _ _ (by omega) _).mono ?_; rintro e w' ⟨rfl, rfl⟩)
  refine bodyPost_ret (v := .int .i64 1) (by simp [results, Tryz.results58, go_sem]) rfl ⟨rfl, ?_⟩
  exact ((((Below.refl _ w).alloc (Nat.le_refl _) _).alloc (by simp) _))

set_option maxRecDepth 100000 in
set_option maxHeartbeats 2000000 in
theorem compare_same (ax ay : Option Addr) (n cx cy : Nat) (f g : Nat → Nat) (hn : n ≤ 1099511627776) (hf : ∀ j, j < n → f j < 4294967296) (hg : ∀ j, j < n → g j < 4294967296) (w : World) (hx : Dig w ax n f) (hy : Dig w ay n g) :
    Calls Tryz.prog 58 #[.slice ax n cx, .slice ay n cy] w fun e w' => e = .returned (.int .i64 (cmpN (valF f n) (valF g n))) ∧ Below w.heap.size w w' := by
  refine calls_marks Tryz.func58 rfl ?_
  simp only [Tryz.ntmps58, List.size_toArray, List.length_cons, List.length_nil, Nat.reduceAdd, Nat.reduceSub, Array.replicate_succ, Array.replicate_zero, List.push_toArray, List.append_toArray, List.nil_append, List.cons_append]
  go_wp2_with (first | (go_at_call 89; refine (cmpI_eq _ _).mono ?_; rintro e w' ⟨rfl, rfl⟩) | (go_at_call 50; refine (backward_any _ _ _ _).mono ?_; rintro e w' ⟨rfl, rfl⟩))
  obtain ⟨W0, hW0⟩ : ∃ W0, (((w.alloc (Obj.cells #[Value.slice ay n cy] 25)).alloc (Obj.cells #[Value.int .i64 0] 3)).alloc (Obj.cells #[Value.slice ax n cx] 25)) = W0 := ⟨_, rfl⟩
  have c1 : W0.cell? ⟨w.heap.size, 0, none⟩ = some (.slice ay n cy) := by rw [← hW0]; simp [go_sem]
  have c2 : W0.cell? ⟨w.heap.size + 1, 0, none⟩ = some (.int .i64 0) := by rw [← hW0]; simp [go_sem]
  have c3 : W0.cell? ⟨w.heap.size + 1 + 1, 0, none⟩ = some (.slice ax n cx) := by rw [← hW0]; simp [go_sem]
  have f2 : W0.frozen? ⟨w.heap.size + 1, 0, none⟩ = false := by rw [← hW0]; simp [go_sem]
  have hsz : W0.heap.size = w.heap.size + 3 := by rw [← hW0]; simp
  have hB0 : Below w.heap.size w W0 := by rw [← hW0]; exact (((Below.refl _ w).alloc (Nat.le_refl _) _).alloc (by simp) _).alloc (by simp; omega) _
  rw [hW0]
  clear hW0
  have HF : Hid (∀ j, j < n → f j < 4294967296) := hf
  have HG : Hid (∀ j, j < n → g j < 4294967296) := hg
  clear hf hg
  refine wp_backW (w.heap.size + 1 + 1) ax n cx (by omega) rfl rfl
    (fun k W => (W.cell? ⟨w.heap.size, 0, none⟩ = some (.slice ay n cy) ∧ W.cell? ⟨w.heap.size + 1, 0, none⟩ = some (.int .i64 0) ∧ W.frozen? ⟨w.heap.size + 1, 0, none⟩ = false ∧ W.cell? ⟨w.heap.size + 1 + 1, 0, none⟩ = some (.slice ax n cx)) ∧
      Below w.heap.size w W ∧ W0.heap.size ≤ W.heap.size ∧ (∀ j, k ≤ j → j < n → f j = g j))
    (fun c W => c = .ret ∧ W.cell? ⟨w.heap.size + 1, 0, none⟩ = some (.int .i64 (cmpN (valF f n) (valF g n))) ∧ Below w.heap.size w W ∧ W0.heap.size ≤ W.heap.size)
    ?hI ?hIx (fun _ _ h => h.1.2.2.2) ⟨⟨c1, c2, f2, c3⟩, hB0, Nat.le_refl _, fun j h1 h2 => by omega⟩
    (fun k v => { tmps := #[.slice ax n cx, .slice ay n cy, undef, .pointer (some ⟨w.heap.size, 0, none⟩), .pointer (some ⟨w.heap.size + 1, 0, none⟩), .int .i64 0, .int .i64 (k : Int), .int .u32 v, undef, .slice ax n cx, .int .i64 n, .slice ay n cy, .int .i64 n, .int .i64 0, .int .i64 0, .bool false, undef, .slice ax n cx,
      .func (.func 81) #[] #[.pointer (some ⟨w.heap.size + 1 + 1, 0, none⟩)], .int .i64 (k : Int), .int .u32 v, undef, undef, undef, undef, undef, undef, undef, undef, undef], defers := [] })
    ?hcell ?assign ?body ?done ?stop
  case hI =>
    refine ownFrom_of (fun _ _ h => h.2.2.1) ?_
    rintro s W W' ⟨⟨h1, h2, h3, h4⟩, h5, h6, h7⟩ hc
    exact ⟨⟨hc.cell _ _ h1, hc.cell _ _ h2, (hc.frozen _ _ h2).trans h3, hc.cell _ _ h4⟩, h5.trans (hc.below.mono (by omega)), Nat.le_trans h6 hc.below.size, h7⟩
  case hIx =>
    refine ownFrom_of (fun _ _ h => h.2.2.2) ?_
    rintro s W W' ⟨hr, h2, h5, h6⟩ hc
    exact ⟨hr, hc.cell _ _ h2, h5.trans (hc.below.mono (by omega)), Nat.le_trans h6 hc.below.size⟩
  case hcell =>
    rintro k W hk ⟨_, h5, _, _⟩
    obtain ⟨b, off, rfl, hc⟩ := (hx.below h5).at (by omega)
    exact ⟨b, off, _, rfl, hc k hk⟩
  case assign =>
    intro l k v W K hK
    gi_wp2
    exact hK
  case body =>
    rintro l k v b off W hk ⟨⟨h1, h2, h3, h4⟩, h5, h6, h7⟩ ha hcv
    obtain rfl : v = ((f k : Nat) : Int) := by
      have h := (hx.below h5).at (by omega)
      obtain ⟨b', off', e, hc⟩ := h
      rw [ha] at e; cases e
      have := hc k hk
      rw [hcv] at this; cases this; rfl
    obtain ⟨by', oy, rfl, hcy⟩ := (hy.below h5).at (by omega)
    have hy1 := hcy k hk
    have H7 := hide h7
    have hk' : (k : Int) < n := by omega
    clear h7 hcv ha hcy
    rcases Nat.lt_trichotomy (f k) (g k) with hlt | heq | hgt
    · have hlt' : ((f k : Nat) : Int) < ((g k : Nat) : Int) := by omega
      have hfin : cmpN (valF f n) (valF g n) = -1 := cmpN_lt (valF_lt_valF hk HF.out (fun j h1 h2 => H7.out j (by omega) h2) hlt)
      have HFIN := hide hfin
      clear hfin hlt
      gi_wp2_with (refine ⟨trivial, ?_⟩; gi_at_call 90; refine (CallsIn.inRound l (callsIn_wide.2 (cmpD_lt _ _ hlt' _))).mono ?_; rintro e w' ⟨rfl, rfl⟩)
      exact ⟨(KeepsOthers.setCell _ _ _).from _, rfl, by rw [HFIN.out]; exact World.cell?_setCell_same' _ _ _ (by rw [h2]; rfl), h5.setCell (p := ⟨w.heap.size + 1, 0, none⟩) (by simp) _, by rw [World.size_setCell]; exact h6⟩
    · rw [heq]
      have HE := hide heq
      clear heq
      gi_wp2_with (refine ⟨trivial, ?_⟩; gi_at_call 90; refine (CallsIn.inRound l (callsIn_wide.2 (cmpD_eq _ _))).mono ?_; rintro e w' ⟨rfl, rfl⟩)
      exact ⟨KeepsFrom.refl _ _, ⟨h1, h2, h3, h4⟩, h5, h6, fun j hj hj' => by
        by_cases e : j = k
        · subst e; exact HE.out
        · exact H7.out j (by omega) hj'⟩
    · have hgt' : ((g k : Nat) : Int) < ((f k : Nat) : Int) := by omega
      have hfin : cmpN (valF f n) (valF g n) = 1 := cmpN_gt (valF_lt_valF hk HG.out (fun j h1 h2 => (H7.out j (by omega) h2).symm) hgt)
      have HFIN := hide hfin
      clear hfin hgt
      gi_wp2_with (refine ⟨trivial, ?_⟩; gi_at_call 90; refine (CallsIn.inRound l (callsIn_wide.2 (cmpD_gt _ _ hgt' _))).mono ?_; rintro e w' ⟨rfl, rfl⟩)
      exact ⟨(KeepsOthers.setCell _ _ _).from _, rfl, by rw [HFIN.out]; exact World.cell?_setCell_same' _ _ _ (by rw [h2]; rfl), h5.setCell (p := ⟨w.heap.size + 1, 0, none⟩) (by simp) _, by rw [World.size_setCell]; exact h6⟩
  case done =>
    rintro D W hD ⟨⟨h1, h2, h3, h4⟩, h5, h6, h7⟩ hK
    have h0 : cmpN (valF f n) (valF g n) = 0 := by
      rw [valF_congr (fun j hj => h7 j (Nat.zero_le _) hj)]; exact cmpN_eq _
    have H0 := hide h0
    clear h7 h0
    go_wp2
    have hK2 : (W.setCell ⟨w.heap.size + 1, 0, none⟩ (.int .i64 0)).heap[D]? = some (.deferred (some [])) := (Below.heap_setCell _ _ _ _ (by simp; omega)).trans hK
    have hc := calm_put (.deferred none) hD hK2 rfl
    have h2' := hc.cell ⟨w.heap.size + 1, 0, none⟩ _ (World.cell?_setCell_same' _ _ _ (by rw [h2]; rfl))
    refine leavesM_one hK2 ⟨.int .i64 0, by simp [results, Tryz.results58, go_sem, h2'], by rw [H0.out], ?_⟩
    exact (h5.setCell (p := ⟨w.heap.size + 1, 0, none⟩) (by simp) _).trans (hc.below.mono (by omega))
  case stop =>
    rintro D c W hD ⟨rfl, h2, h5, h6⟩ hK
    go_wp2
    have hc := calm_put (.deferred none) hD hK rfl
    have h2' := hc.cell _ _ h2
    exact leavesM_one hK ⟨_, by simp [results, Tryz.results58, go_sem, h2'], rfl, h5.trans (hc.below.mono (by omega))⟩

/-- num's compare of two numbers. -/
theorem compare_any (ax ay : Option Addr) (x y cx cy : Nat) (hn : dlen x ≤ 1099511627776) (w : World) (hx : Dig w ax (dlen x) (dgt x)) (hy : Dig w ay (dlen y) (dgt y)) :
    Calls Tryz.prog 58 #[.slice ax (dlen x) cx, .slice ay (dlen y) cy] w fun e w' => e = .returned (.int .i64 (cmpN x y)) ∧ Below w.heap.size w w' := by
  rcases Nat.lt_trichotomy (dlen x) (dlen y) with h | h | h
  · rw [cmpN_lt (lt_of_dlen h)]; exact compare_len_lt ax ay _ _ cx cy h w
  · have := compare_same ax ay (dlen x) cx cy (dgt x) (dgt y) hn (fun _ _ => dgt_lt _ _) (fun _ _ => dgt_lt _ _) w hx (by rw [h]; exact hy)
    rw [valF_dlen, h, valF_dlen] at this
    rw [h]; exact this
  · rw [cmpN_gt (lt_of_dlen h)]; exact compare_len_gt ax ay _ _ cx cy h w
end Go.Proofs.YtmpdeiopdempcaaGreatDoor
