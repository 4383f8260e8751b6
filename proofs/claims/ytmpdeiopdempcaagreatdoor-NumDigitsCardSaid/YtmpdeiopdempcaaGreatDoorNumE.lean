/- num's join: the word of at most two digits. -/
import Derived.Laws.Bits64b
import Derived.Test.YtmpdeiopdempcaaGreatDoorNumD
namespace Go.Proofs.YtmpdeiopdempcaaGreatDoor
open Go.RowKit Go.Shelf
attribute [local go_sem] Oper.semAt_some

/-- the number without its last k digits -/
def hiN (V k : Nat) : Nat := V / bp k
theorem or_digits (h d : Nat) (hh : h < 4294967296) (hd : d < 4294967296) : bits BinOp.or IntKind.u64 ((h : Int) * 4294967296) (d : Int) = ((h * 4294967296 + d : Nat) : Int) := by
  have e1 : ((h : Int) * 4294967296) = ((h * 4294967296 : Nat) : Int) := by omega
  rw [e1, bits_or_u64_nat _ _ (by omega) (by omega)]
  congr 1
  have := Nat.shiftLeft_add_eq_or_of_lt (i := 32) (b := d) (by omega) h
  rw [Nat.shiftLeft_eq] at this
  exact this.symm
theorem div_bp_step (V k : Nat) : V / bp k = V / bp (k + 1) * 4294967296 + dgt V k := by
  unfold dgt
  rw [bp_succ, Nat.mul_comm 4294967296, ← Nat.div_div_eq_div_mul]
  omega

set_option maxRecDepth 100000 in
set_option maxHeartbeats 2000000 in
theorem join_any (a : Option Addr) (L cap : Nat) (f : Nat → Nat) (hL : L ≤ 2) (hf : ∀ j, j < L → f j < 4294967296) (w : World) (hd : Dig w a L f) :
    Calls Tryz.prog 61 #[.slice a L cap] w fun e w' => e = .returned (.int .u64 ((valF f L : Nat) : Int)) ∧ Below w.heap.size w w' := by
  refine calls_marks Tryz.func61 rfl ?_
  simp only [Tryz.ntmps61, List.size_toArray, List.length_cons, List.length_nil, Nat.reduceAdd, Nat.reduceSub, Array.replicate_succ, Array.replicate_zero, List.push_toArray, List.append_toArray, List.nil_append, List.cons_append]
  go_wp2_with (go_at_call 50; refine (backward_any _ _ _ _).mono ?_; rintro e w' ⟨rfl, rfl⟩)
  obtain ⟨W0, hW0⟩ : ∃ W0, ((w.alloc (Obj.cells #[Value.int .u64 0] 61)).alloc (Obj.cells #[Value.slice a L cap] 25)) = W0 := ⟨_, rfl⟩
  have c1 : W0.cell? ⟨w.heap.size, 0, none⟩ = some (.int .u64 0) := by rw [← hW0]; simp [go_sem]
  have f1 : W0.frozen? ⟨w.heap.size, 0, none⟩ = false := by rw [← hW0]; simp [go_sem]
  have c3 : W0.cell? ⟨w.heap.size + 1, 0, none⟩ = some (.slice a L cap) := by rw [← hW0]; simp [go_sem]
  have hsz : W0.heap.size = w.heap.size + 2 := by rw [← hW0]; simp
  have hB0 : Below w.heap.size w W0 := by rw [← hW0]; exact ((Below.refl _ w).alloc (Nat.le_refl _) _).alloc (by simp) _
  rw [hW0]
  clear hW0
  have HF : Hid (∀ j, j < L → f j < 4294967296) := hf
  have HV : Hid (valF f L < bp L) := valF_lt hf
  clear hf
  refine wp_backW (w.heap.size + 1) a L cap (by omega) rfl rfl
    (fun k W => (W.cell? ⟨w.heap.size, 0, none⟩ = some (.int .u64 ((hiN (valF f L) k : Nat) : Int)) ∧ W.frozen? ⟨w.heap.size, 0, none⟩ = false ∧ W.cell? ⟨w.heap.size + 1, 0, none⟩ = some (.slice a L cap)) ∧
      Below w.heap.size w W ∧ W0.heap.size ≤ W.heap.size)
    (fun _ _ => False)
    ?hI ?hIx (fun _ _ h => h.1.2.2) ⟨⟨by rw [c1, hiN, Nat.div_eq_of_lt HV.out]; rfl, f1, c3⟩, hB0, Nat.le_refl _⟩
    (fun k v => { tmps := #[.slice a L cap, undef, .int .u64 0, .pointer (some ⟨w.heap.size, 0, none⟩), undef, .int .u32 v, .slice a L cap, .func (.func 81) #[] #[.pointer (some ⟨w.heap.size + 1, 0, none⟩)], .int .i64 (k : Int), .int .u32 v, undef, undef, undef, undef, undef, undef], defers := [] })
    ?hcell ?assign ?body ?done ?stop
  case hI =>
    refine ownFrom_of (fun _ _ h => h.2.2) ?_
    rintro s W W' ⟨⟨h1, h2, h3⟩, h5, h6⟩ hc
    exact ⟨⟨hc.cell _ _ h1, (hc.frozen _ _ h1).trans h2, hc.cell _ _ h3⟩, h5.trans (hc.below.mono (by omega)), Nat.le_trans h6 hc.below.size⟩
  case hIx => exact fun _ _ _ _ h _ _ => h
  case hcell =>
    rintro k W hk ⟨_, h5, _⟩
    obtain ⟨b, off, rfl, hc⟩ := (hd.below h5).at (by omega)
    exact ⟨b, off, _, rfl, hc k hk⟩
  case assign =>
    intro l k v W K hK
    gi_wp2
    exact hK
  case body =>
    rintro l k v b off W hk ⟨⟨h1, h2, h3⟩, h5, h6⟩ ha hcv
    obtain rfl : v = ((f k : Nat) : Int) := by
      have h := (hd.below h5).at (by omega)
      obtain ⟨b', off', e, hc⟩ := h
      rw [ha] at e; cases e
      have := hc k hk
      rw [hcv] at this; cases this; rfl
    have hhi : hiN (valF f L) (k + 1) < 4294967296 := by
      unfold hiN
      rw [Nat.div_lt_iff_lt_mul (bp_pos _)]
      have h1 := HV.out
      have h2 : bp L ≤ bp (k + 1 + 1) := bp_le (by omega)
      rw [bp_succ (k + 1)] at h2
      omega
    have hfk := HF.out k hk
    have hor := or_digits (hiN (valF f L) (k + 1)) (f k) hhi hfk
    have hst : hiN (valF f L) (k + 1) * 4294967296 + f k = hiN (valF f L) k := by
      unfold hiN; rw [div_bp_step (valF f L) k, dgt_valF HF.out hk]
    rw [hst] at hor
    have HO := hide hor
    clear hcv ha hor hst
    gi_wp2
    rw [HO.out]
    exact ⟨(KeepsOthers.setCell _ _ _).from _, ⟨World.cell?_setCell_same' _ _ _ (by rw [h1]; rfl), by rw [World.frozen?_setCell]; exact h2, by rw [cell_setCell_ne _ _ _ _ (fun e => by have := congrArg Addr.block e; simp at this) rfl rfl]; exact h3⟩,
      h5.setCell (p := ⟨w.heap.size, 0, none⟩) (Nat.le_refl _) _, by rw [World.size_setCell]; exact h6⟩
  case done =>
    rintro D W hD ⟨⟨h1, h2, h3⟩, h5, h6⟩ hK
    rw [show hiN (valF f L) 0 = valF f L by unfold hiN; rw [bp_zero, Nat.div_one]] at h1
    go_wp2
    have hc := calm_put (.deferred none) hD hK rfl
    exact leavesM_one hK ⟨_, results_tmp rfl _ _ _, rfl, h5.trans (hc.below.mono (by omega))⟩
  case stop => exact fun _ _ _ _ h _ => h.elim
end Go.Proofs.YtmpdeiopdempcaaGreatDoor
