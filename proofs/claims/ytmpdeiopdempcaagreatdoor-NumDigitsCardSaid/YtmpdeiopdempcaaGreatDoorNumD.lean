/- num's loops over slices.Backward that only read: trim, join, compare. -/
import Derived.RangeFuncBox
import Derived.Test.YtmpdeiopdempcaaGreatDoorMem
import Derived.Test.YtmpdeiopdempcaaGreatDoorBack
namespace Go.Proofs.YtmpdeiopdempcaaGreatDoor
open Go.RowKit Go.Shelf
attribute [local go_sem] Oper.semAt_some

theorem backward_any (a : Option Addr) (L cap : Nat) (w : World) :
    Calls Tryz.prog 50 #[.slice a L cap] w fun e w' => e = .returned (.func (.func 81) #[] #[.pointer (some ⟨w.heap.size, 0, none⟩)]) ∧ w.alloc (.cells #[.slice a L cap] 25) = w' := by
  go_enter Tryz.func50, Tryz.ntmps50
  go_wp2
  go_ret
  exact ⟨rfl, rfl⟩

set_option maxRecDepth 100000 in
set_option maxHeartbeats 2000000 in
theorem trim_any (a : Option Addr) (L cap : Nat) (f : Nat → Nat) (hL : L ≤ 1099511627776) (hcap : L ≤ cap) (hf : ∀ j, j < L → f j < 4294967296) (w : World) (hd : Dig w a L f) :
    Calls Tryz.prog 67 #[.slice a L cap] w fun e w' => ∃ (a' : Option Addr) (cap' : Nat), e = .returned (.slice a' (dlen (valF f L)) cap') ∧ (a' = a ∨ dlen (valF f L) = 0) ∧ dlen (valF f L) ≤ cap' ∧ Below w.heap.size w w' := by
  refine calls_marks Tryz.func67 rfl ?_
  simp only [Tryz.ntmps67, List.size_toArray, List.length_cons, List.length_nil, Nat.reduceAdd, Nat.reduceSub, Array.replicate_succ, Array.replicate_zero, List.push_toArray, List.append_toArray, List.nil_append, List.cons_append]
  go_wp2_with (go_at_call 50; refine (backward_any _ _ _ _).mono ?_; rintro e w' ⟨rfl, rfl⟩)
  obtain ⟨W0, hW0⟩ : ∃ W0, (((w.alloc (Obj.cells #[Value.slice a L cap] 25)).alloc (Obj.cells #[Value.slice none 0 0] 25)).alloc (Obj.cells #[Value.slice a L cap] 25)) = W0 := ⟨_, rfl⟩
  have c1 : W0.cell? ⟨w.heap.size, 0, none⟩ = some (.slice a L cap) := by rw [← hW0]; simp [go_sem]
  have c2 : W0.cell? ⟨w.heap.size + 1, 0, none⟩ = some (.slice none 0 0) := by rw [← hW0]; simp [go_sem]
  have c3 : W0.cell? ⟨w.heap.size + 1 + 1, 0, none⟩ = some (.slice a L cap) := by rw [← hW0]; simp [go_sem]
  have f2 : W0.frozen? ⟨w.heap.size + 1, 0, none⟩ = false := by rw [← hW0]; simp [go_sem]
  have hsz : W0.heap.size = w.heap.size + 3 := by rw [← hW0]; simp
  have hB0 : Below w.heap.size w W0 := by rw [← hW0]; exact (((Below.refl _ w).alloc (Nat.le_refl _) _).alloc (by simp) _).alloc (by simp; omega) _
  rw [hW0]
  clear hW0
  have HF : Hid (∀ j, j < L → f j < 4294967296) := hf
  clear hf
  refine wp_backW (w.heap.size + 1 + 1) a L cap (by omega) rfl rfl
    (fun k W => (W.cell? ⟨w.heap.size, 0, none⟩ = some (.slice a L cap) ∧ W.cell? ⟨w.heap.size + 1, 0, none⟩ = some (.slice none 0 0) ∧ W.frozen? ⟨w.heap.size + 1, 0, none⟩ = false ∧ W.cell? ⟨w.heap.size + 1 + 1, 0, none⟩ = some (.slice a L cap)) ∧
      Below w.heap.size w W ∧ W0.heap.size ≤ W.heap.size ∧ (∀ j, k ≤ j → j < L → f j = 0))
    (fun c W => c = .ret ∧ ∃ k, k < L ∧ W.cell? ⟨w.heap.size + 1, 0, none⟩ = some (.slice a (k + 1) cap) ∧ Below w.heap.size w W ∧ W0.heap.size ≤ W.heap.size ∧ f k ≠ 0 ∧ (∀ j, k < j → j < L → f j = 0))
    ?hI ?hIx (fun _ _ h => h.1.2.2.2) ⟨⟨c1, c2, f2, c3⟩, hB0, Nat.le_refl _, fun j h1 h2 => by omega⟩
    (fun k v => { tmps := #[.slice a L cap, .pointer (some ⟨w.heap.size, 0, none⟩), .pointer (some ⟨w.heap.size + 1, 0, none⟩), .int .i64 (k : Int), .int .u32 v, .slice a L cap, .func (.func 81) #[] #[.pointer (some ⟨w.heap.size + 1 + 1, 0, none⟩)], .int .i64 (k : Int), .int .u32 v, undef, undef, undef, undef, undef, undef], defers := [] })
    ?hcell ?assign ?body ?done ?stop
  case hI =>
    refine ownFrom_of (fun _ _ h => h.2.2.1) ?_
    rintro s W W' ⟨⟨h1, h2, h3, h4⟩, h5, h6, h7⟩ hc
    exact ⟨⟨hc.cell _ _ h1, hc.cell _ _ h2, (hc.frozen _ _ h2).trans h3, hc.cell _ _ h4⟩, h5.trans (hc.below.mono (by omega)), Nat.le_trans h6 hc.below.size, h7⟩
  case hIx =>
    refine ownFrom_of (fun _ _ h => by obtain ⟨_, _, _, _, _, h, _⟩ := h; exact h) ?_
    rintro s W W' ⟨hr, k, hk, h2, h5, h6, h7⟩ hc
    exact ⟨hr, k, hk, hc.cell _ _ h2, h5.trans (hc.below.mono (by omega)), Nat.le_trans h6 hc.below.size, h7⟩
  case hcell =>
    rintro k W hk ⟨_, h5, _, _⟩
    obtain ⟨b, off, rfl, hc⟩ := (hd.below h5).at (by omega)
    exact ⟨b, off, _, rfl, hc k hk⟩
  case assign =>
    intro l k v W K hK
    gi_wp2
    exact hK
  case body =>
    rintro l k v b off W hk ⟨⟨h1, h2, h3, h4⟩, h5, h6, h7⟩ ha hcv
    obtain rfl : v = ((f k : Nat) : Int) := by
      have h := (hd.below h5).at (by omega)
      obtain ⟨b', off', e, hc⟩ := h
      rw [ha] at e; cases e
      have := hc k hk
      rw [hcv] at this; cases this; rfl
    have H7 := hide h7
    clear h7 hcv ha
    by_cases hz : f k = 0
    · rw [hz, show ((0 : Nat) : Int) = 0 from rfl]
      have HZ := hide hz
      clear hz
      gi_wp2
      exact ⟨KeepsFrom.refl _ _, ⟨h1, h2, h3, h4⟩, h5, h6, fun j hj hj' => by
        by_cases e : j = k
        · subst e; exact HZ.out
        · exact H7.out j (by omega) hj'⟩
    · have hz1 : (((f k : Nat) : Int) == 0) = false := by simp; exact hz
      have hz2 : (((f k : Nat) : Int) != 0) = true := by simp; exact hz
      have HZ := hide hz
      have hk' : (k : Int) + 1 ≤ cap := by omega
      clear hz
      gi_wp2
      exact ⟨(KeepsOthers.setCell _ _ _).from _, rfl, k, hk, World.cell?_setCell_same' _ _ _ (by rw [h2]; rfl), h5.setCell (p := ⟨w.heap.size + 1, 0, none⟩) (by simp) _, by rw [World.size_setCell]; exact h6, HZ.out, fun j hj hj' => H7.out j (by omega) hj'⟩
  case done =>
    rintro D W hD ⟨⟨h1, h2, h3, h4⟩, h5, h6, h7⟩ hK
    have H7 := hide h7
    clear h7
    go_wp2
    have hK2 : (W.setCell ⟨w.heap.size + 1, 0, none⟩ (.slice none 0 0)).heap[D]? = some (.deferred (some [])) := (Below.heap_setCell _ _ _ _ (by simp; omega)).trans hK
    have hc := calm_put (.deferred none) hD hK2 rfl
    have h2' := hc.cell ⟨w.heap.size + 1, 0, none⟩ _ (World.cell?_setCell_same' _ _ _ (by rw [h2]; rfl))
    have h0 : dlen (valF f L) = 0 := by rw [valF_zeros (fun j hj => H7.out j (Nat.zero_le _) hj), dlen_zero]
    refine leavesM_one hK2 ⟨.slice none 0 0, by simp [results, Tryz.results67, go_sem, h2'], none, 0, by rw [h0], .inr h0, by omega, ?_⟩
    exact (h5.setCell (p := ⟨w.heap.size + 1, 0, none⟩) (by simp) _).trans (hc.below.mono (by omega))
  case stop =>
    rintro D c W hD ⟨rfl, k, hk, h2, h5, h6, h7, h8⟩ hK
    have H7 := hide h7
    have H8 := hide h8
    clear h7 h8
    go_wp2
    have hc := calm_put (.deferred none) hD hK rfl
    have h2' := hc.cell _ _ h2
    have h0 : dlen (valF f L) = k + 1 := by
      obtain ⟨d, hd'⟩ : ∃ d, L = k + 1 + d := ⟨L - (k + 1), by omega⟩
      have hf' : ∀ j, j < k + 1 → f j < 4294967296 := fun j hj => HF.out j (by omega)
      rw [hd', valF_add, valF_zeros (f := fun j => f (k + 1 + j)) (fun j hj => H8.out (k + 1 + j) (by omega) (by omega)), Nat.mul_zero, Nat.add_zero]
      exact dlen_valF hf' (.inr (by simpa using H7.out))
    refine leavesM_one hK ⟨.slice a (k + 1) cap, by simp [results, Tryz.results67, go_sem, h2'], a, cap, by rw [h0], .inl rfl, by omega, ?_⟩
    exact h5.trans (hc.below.mono (by omega))
end Go.Proofs.YtmpdeiopdempcaaGreatDoor
