/- colletlaw01's cut and raised. -/
import Derived.Test.YtmpdeiopdempcaaGreatDoorFanD
import Derived.Test.YtmpdeiopdempcaaGreatDoorRfB
import Derived.Laws.OwnMore
namespace Go.Proofs.YtmpdeiopdempcaaGreatDoor
open Go.RowKit Go.Shelf

set_option maxRecDepth 100000 in
set_option maxHeartbeats 2000000 in
theorem cut_some (s : Bool) (ad : Addr) (n c : Nat) (hc : n ≤ c) (w : World) (hd : Raw w (some ad) n) :
    Calls Tryz.prog 12 #[.agg #[.bool s, .slice (some ad) n c], .int .i64 68] w fun e w' => ∃ m, m ≤ n ∧ e = .returned (.agg #[.bool s, .slice (some ad) m c]) ∧ Digs w' (some ad) m ∧ Below w.heap.size w w' := by
  have hD0 : ∀ m, m ≤ n → m ≤ 68 → ∀ w', Below w.heap.size w w' → Digs w' (some ad) m := fun m hm h68 w' hb => by
    obtain ⟨f, h1, h2⟩ := hd
    exact ⟨f, (h1.below hb).mono hm, fun j hj => h2 j (by omega), by omega⟩
  have HD := hide hD0
  have hB := below_alloc' w (Obj.cells #[Value.bool s, Value.slice (some ad) n c] 27)
  have hB2 := hB.trans ((below_alloc' (w.alloc (Obj.cells #[Value.bool s, Value.slice (some ad) n c] 27)) (Obj.cells #[Value.bool false, Value.slice none 0 0] 27)).mono hB.size)
  have bA : Box2 ((w.alloc (Obj.cells #[Value.bool s, Value.slice (some ad) n c] 27)).alloc (Obj.cells #[Value.bool false, Value.slice none 0 0] 27)) w.heap.size (.bool s) (.slice (some ad) n c) := (Box2.new w _ _ _).alloc _
  have bC : Box2 ((w.alloc (Obj.cells #[Value.bool s, Value.slice (some ad) n c] 27)).alloc (Obj.cells #[Value.bool false, Value.slice none 0 0] 27)) (w.heap.size + 1) (.bool false) (.slice none 0 0) := by
    have := Box2.new (w.alloc (Obj.cells #[Value.bool s, Value.slice (some ad) n c] 27)) (.bool false) (.slice none 0 0) 27
    rw [World.size_alloc] at this; exact this
  have hc' : (n : Int) ≤ c := by omega
  clear hD0 hd hB
  go_enter Tryz.func12, Tryz.ntmps12
  go_wp2_with fail
  obtain ⟨W0, hW0⟩ : ∃ W0, (w.alloc (Obj.cells #[Value.bool s, Value.slice (some ad) n c] 27)).alloc (Obj.cells #[Value.bool false, Value.slice none 0 0] 27) = W0 := ⟨_, rfl⟩
  rw [hW0] at bA bC hB2 ⊢
  clear hW0
  obtain ⟨a0, a1, -, -⟩ := bA
  have bC0 := bC
  obtain ⟨r0, r1, z0, z1⟩ := bC
  rcases Nat.lt_or_ge n 69 with h68 | h68
  · have h0 : (0 : Int) ≤ n := by omega
    have h68n : (n : Int) ≤ 68 := by omega
    have K := hide (bC0.set (.bool s) (.slice (some ad) n c))
    have KB := hide (below_set2 hB2 (B := w.heap.size + 1) (by omega) (.bool s) (.slice (some ad) n c))
    have HDM := hide (HD.out n (by omega) (by omega))
    clear bC0
    go_region_held (fun w' => w'.cell? ⟨w.heap.size, 0, none⟩ = some (.bool s) ∧ w'.cell? ⟨w.heap.size, 1, none⟩ = some (.slice (some ad) n c))
      (first | exact ⟨a0, a1⟩ | go_keep) (fail)
    all_goals
      obtain ⟨q0, q1, -, -⟩ := K.out
      go_wp2
      exact bodyPost_ret (v := .agg #[.bool s, .slice (some ad) n c]) (by simp [results, Tryz.results12, go_sem, q0, q1]) rfl ⟨n, by omega, rfl, HDM.out _ (below_drewN' KB.out 1), below_drewN' KB.out 1⟩
  · have h0 : (68 : Int) ≤ c := by omega
    have h68c : 68 ≤ c := by omega
    have h68m : ¬ (n : Int) ≤ 68 := by omega
    have K := hide (bC0.set (.bool s) (.slice (some ad) 68 c))
    have KB := hide (below_set2 hB2 (B := w.heap.size + 1) (by omega) (.bool s) (.slice (some ad) 68 c))
    have HDM := hide (HD.out 68 (by omega) (by omega))
    clear bC0
    go_region_held (fun w' => w'.cell? ⟨w.heap.size, 0, none⟩ = some (.bool s) ∧ w'.cell? ⟨w.heap.size, 1, none⟩ = some (.slice (some ad) n c))
      (first | exact ⟨a0, a1⟩ | go_keep) (fail)
    all_goals
      obtain ⟨q0, q1, -, -⟩ := K.out
      go_wp2
      exact bodyPost_ret (v := .agg #[.bool s, .slice (some ad) 68 c]) (by simp [results, Tryz.results12, go_sem, q0, q1]) rfl ⟨68, by omega, rfl, HDM.out _ (below_drewN' KB.out 1), below_drewN' KB.out 1⟩
set_option maxRecDepth 100000 in
set_option maxHeartbeats 2000000 in
theorem cut_none (s : Bool) (w : World) :
    Calls Tryz.prog 12 #[.agg #[.bool s, .slice none 0 0], .int .i64 68] w fun e w' => ∃ m, m ≤ 0 ∧ e = .returned (.agg #[.bool s, .slice none m 0]) ∧ Digs w' none m ∧ Below w.heap.size w w' := by
  have hB := below_alloc' w (Obj.cells #[Value.bool s, Value.slice none 0 0] 27)
  have hB2 := hB.trans ((below_alloc' (w.alloc (Obj.cells #[Value.bool s, Value.slice none 0 0] 27)) (Obj.cells #[Value.bool false, Value.slice none 0 0] 27)).mono hB.size)
  have bA : Box2 ((w.alloc (Obj.cells #[Value.bool s, Value.slice none 0 0] 27)).alloc (Obj.cells #[Value.bool false, Value.slice none 0 0] 27)) w.heap.size (.bool s) (.slice none 0 0) := (Box2.new w _ _ _).alloc _
  have bC : Box2 ((w.alloc (Obj.cells #[Value.bool s, Value.slice none 0 0] 27)).alloc (Obj.cells #[Value.bool false, Value.slice none 0 0] 27)) (w.heap.size + 1) (.bool false) (.slice none 0 0) := by
    have := Box2.new (w.alloc (Obj.cells #[Value.bool s, Value.slice none 0 0] 27)) (.bool false) (.slice none 0 0) 27
    rw [World.size_alloc] at this; exact this
  clear hB
  go_enter Tryz.func12, Tryz.ntmps12
  go_wp2_with fail
  obtain ⟨W0, hW0⟩ : ∃ W0, (w.alloc (Obj.cells #[Value.bool s, Value.slice none 0 0] 27)).alloc (Obj.cells #[Value.bool false, Value.slice none 0 0] 27) = W0 := ⟨_, rfl⟩
  rw [hW0] at bA bC hB2 ⊢
  clear hW0
  obtain ⟨a0, a1, -, -⟩ := bA
  have bC0 := bC
  obtain ⟨r0, r1, z0, z1⟩ := bC
  have K := hide (bC0.set (.bool s) (.slice none 0 0))
  have KB := hide (below_set2 hB2 (B := w.heap.size + 1) (by omega) (.bool s) (.slice none 0 0))
  clear bC0
  go_region_held (fun w' => w'.cell? ⟨w.heap.size, 0, none⟩ = some (.bool s) ∧ w'.cell? ⟨w.heap.size, 1, none⟩ = some (.slice none 0 0))
    (first | exact ⟨a0, a1⟩ | go_keep) (fail)
  all_goals
    obtain ⟨q0, q1, -, -⟩ := K.out
    go_wp2
    exact bodyPost_ret (v := .agg #[.bool s, .slice none 0 0]) (by simp [results, Tryz.results12, go_sem, q0, q1]) rfl ⟨0, by omega, rfl, ⟨fun _ => 0, .inl rfl, fun _ _ => by show (0 : Nat) < 4294967296; decide, by omega⟩, below_drewN' KB.out 1⟩
theorem cut_any (s : Bool) (a : Option Addr) (n c : Nat) (hc : n ≤ c) (ha : a = none → n = 0 ∧ c = 0) (w : World) (hd : Raw w a n) :
    Calls Tryz.prog 12 #[.agg #[.bool s, .slice a n c], .int .i64 68] w fun e w' => ∃ m, m ≤ n ∧ e = .returned (.agg #[.bool s, .slice a m c]) ∧ Digs w' a m ∧ Below w.heap.size w w' := by
  cases a with
  | some ad => exact cut_some s ad n c hc w hd
  | none =>
    obtain ⟨rfl, rfl⟩ := ha rfl
    exact cut_none s w

theorem wp_make_digs {w : World} {o : Oper} {a : Act} {K : Act → World → Prop} {Q : Exit → Act → World → Prop} (l c : Operand) (hop : o.op = Op.makeSlice 25 l c)
    (kl kc : IntKind) (n : Nat) (hl : a.eval l = .int kl (n : Int)) (hc : a.eval c = .int kc (n : Int)) (hn : n ≤ 35184372088832)
    (hK : ∀ w', w'.ownsRow w.heap.size 52 1 (.slice (some ⟨w.heap.size, 0, none⟩) n n) n (digVals (fun _ => 0) n) → Below w.heap.size w w' → w'.heap.size = w.heap.size + 1 → K (a.put o.dst (.slice (some ⟨w.heap.size, 0, none⟩) n n)) w') :
    o.wp Tryz.prog a w K Q := by
  obtain ⟨i0, hi, hz0, hz1, hz2⟩ := info_parts info_u32
  have hrun := run_make_row (P := Tryz.prog) 25 52 i0 (.int .u32 0) Tryz.underlying25 hi hz0 hz1 rfl kl kc n (by rw [hz2]; omega) (by omega) w
  unfold Oper.wp
  simp [execOp, hop, hl, hc, hrun, Result.andThen]
  refine hK _ ?_ (below_alloc' _ _) (by simp)
  have := World.ownsRow_lit (e := 52) (size := 1) w (madeCells #[.int .u32 0] n) n (Nat.le_refl _) (by unfold maxLen; omega) (by rw [madeCells_digs]; simp [digVals_length])
  rw [madeCells_digs] at this ⊢
  simpa using this
/-- k zeros below the digits -/
def shF (f : Nat → Nat) (k : Nat) : Nat → Nat := fun j => if j < k then 0 else f (j - k)
theorem digVals_sh (f : Nat → Nat) (k n : Nat) : digVals (fun _ => 0) k ++ digVals f n = digVals (shF f k) (k + n) := by
  induction n with
  | zero =>
    rw [Nat.add_zero, digVals_congr (f := shF f k) (g := fun _ => 0) (fun j hj => by simp [shF, hj])]
    simp [digVals]
  | succ n ih => rw [digVals_succ, ← List.append_assoc, ih, ← Nat.add_assoc, digVals_succ]; simp [shF, show ¬ k + n < k by omega]
/-- one operation alone may come up -/
theorem wpAnyH_one {P : Program} {md : Region.Mode} {ops : Array Oper} {Q : Exit → Act → World → Prop} {S : World → Prop} {fuel : Nat} {l : Array Bool} {a : Act} {w : World} (i : Nat) (hr : Region.ready md ops l = [i])
    (h : wpOp P ops Q i (fun a' w' => S w' ∧ wpAnyH P md ops Q S fuel (l.setIfInBounds i true) a' w') a w) : wpAnyH P md ops Q S (fuel + 1) l a w := by
  refine ⟨fun h0 => ?_, fun j hj => ?_⟩
  · rw [hr] at h0; cases h0
  · rw [hr] at hj
    obtain rfl : j = i := by simpa using hj
    exact h

set_option maxRecDepth 100000 in
set_option maxHeartbeats 2000000 in
theorem raised_pos (s : Bool) (a : Option Addr) (n c k : Nat) (hk : k ≤ 64) (hn : 0 < n) (h6 : n ≤ 70) (w : World) (hd : Digs w a n) :
    Calls Tryz.prog 11 #[.agg #[.bool s, .slice a n c], .int .i64 (k : Int)] w fun e w' => ∃ a' m c', e = .returned (.agg #[.bool s, .slice a' m c']) ∧ Digs w' a' m ∧ Below w.heap.size w w' := by
  obtain ⟨f, hdf, hf, hn0⟩ := hd
  obtain ⟨b, off, rfl, hcs⟩ := hdf.at hn
  have hn' : ((n : Int) == 0) = false := by simp; omega
  obtain ⟨i0, hi, hz0, hz1, hz2⟩ := info_parts info_u32
  have hB := below_alloc' w (Obj.cells #[Value.bool s, Value.slice (some ⟨b, off, none⟩) n c] 27)
  have hB2 := hB.trans ((below_alloc' (w.alloc (Obj.cells #[Value.bool s, Value.slice (some ⟨b, off, none⟩) n c] 27)) (Obj.cells #[Value.bool false, Value.slice none 0 0] 27)).mono hB.size)
  have bA : Box2 ((w.alloc (Obj.cells #[Value.bool s, Value.slice (some ⟨b, off, none⟩) n c] 27)).alloc (Obj.cells #[Value.bool false, Value.slice none 0 0] 27)) w.heap.size (.bool s) (.slice (some ⟨b, off, none⟩) n c) := (Box2.new w _ _ _).alloc _
  have bC : Box2 ((w.alloc (Obj.cells #[Value.bool s, Value.slice (some ⟨b, off, none⟩) n c] 27)).alloc (Obj.cells #[Value.bool false, Value.slice none 0 0] 27)) (w.heap.size + 1) (.bool false) (.slice none 0 0) := by
    have := Box2.new (w.alloc (Obj.cells #[Value.bool s, Value.slice (some ⟨b, off, none⟩) n c] 27)) (.bool false) (.slice none 0 0) 27
    rw [World.size_alloc] at this; exact this
  have HI := hide hi
  have HZ := hide (And.intro hz0 (And.intro hz1 hz2))
  have HCS := hide hcs
  have HF := hide hf
  clear hi hz0 hz1 hz2 hB hdf hcs hf
  go_enter Tryz.func11, Tryz.ntmps11
  go_wp2_with fail
  obtain ⟨W0, hW0⟩ : ∃ W0, (w.alloc (Obj.cells #[Value.bool s, Value.slice (some ⟨b, off, none⟩) n c] 27)).alloc (Obj.cells #[Value.bool false, Value.slice none 0 0] 27) = W0 := ⟨_, rfl⟩
  rw [hW0] at bA bC hB2 ⊢
  clear hW0
  have HD2 := hide (below_drewN' hB2 1)
  have HC := hide bC
  obtain ⟨a0, a1, -, -⟩ := bA
  have hlt : w.heap.size < w.heap.size + 1 := Nat.lt_succ_self _
  have hsz1 : w.heap.size + 1 < W0.heap.size := bC.lt
  refine wp_region_held_drew (S := fun w' => Below (w.heap.size + 1) W0.drew w') (by kernel_rfl) (Below.refl _ _) (fun hHeld => ?_)
  refine take_at (i := 0) (v := .pointer (some ⟨w.heap.size, 0, none⟩)) 10 rfl rfl (by kernel_rfl) (by kernel_rfl) (by kernel_rfl) (fun _ _ _ h => h) (Or.inl ⟨by rfl, fun w' hSw => by go_simp⟩) (by assumption) ?_
  simp only [Act.put, List.setIfInBounds_toArray, List.set_cons_zero, List.set_cons_succ]
  refine take_at (i := 1) (v := .bool s) 11 rfl rfl (by kernel_rfl) (by kernel_rfl) (by kernel_rfl) (fun _ _ _ h => h) (Or.inl ⟨by rfl, fun w' hSw => by have q := (hSw.cell (p := ⟨w.heap.size, 0, none⟩) hlt).trans a0; go_simp⟩) (by assumption) ?_
  simp only [Act.put, List.setIfInBounds_toArray, List.set_cons_zero, List.set_cons_succ]
  refine take_at (i := 2) (v := .int .i64 (k : Int)) 12 rfl rfl (by kernel_rfl) (by kernel_rfl) (by kernel_rfl) (fun _ _ _ h => h) (Or.inl ⟨by rfl, fun w' hSw => by go_simp⟩) (by assumption) ?_
  simp only [Act.put, List.setIfInBounds_toArray, List.set_cons_zero, List.set_cons_succ]
  refine take_at (i := 4) (v := .pointer (some ⟨w.heap.size, 1, none⟩)) 14 rfl rfl (by kernel_rfl) (by kernel_rfl) (by kernel_rfl) (fun _ _ _ h => h) (Or.inl ⟨by rfl, fun w' hSw => by go_simp⟩) (by assumption) ?_
  simp only [Act.put, List.setIfInBounds_toArray, List.set_cons_zero, List.set_cons_succ]
  refine take_at (i := 5) (v := .slice (some ⟨b, off, none⟩) n c) 15 rfl rfl (by kernel_rfl) (by kernel_rfl) (by kernel_rfl) (fun _ _ _ h => h) (Or.inl ⟨by rfl, fun w' hSw => by have q := (hSw.cell (p := ⟨w.heap.size, 1, none⟩) hlt).trans a1; go_simp⟩) (by assumption) ?_
  simp only [Act.put, List.setIfInBounds_toArray, List.set_cons_zero, List.set_cons_succ]
  refine wpAnyH_one 3 (by kernel_rfl) ?_
  refine wpOp_run (i := 3) rfl ?_
  rw [if_pos (by rfl)]
  refine wp_make_digs _ _ rfl .i64 .i64 k rfl rfl (by omega) ?_
  intro w1 hown1 hb1 hs1
  have hsz0 := hB2.size
  have hBw1 : Below w.heap.size w w1 := hB2.drew.trans (hb1.mono hsz0)
  refine ⟨hb1.mono (Nat.le_of_lt hsz1), ?_⟩
  simp only [Act.put, List.setIfInBounds_toArray]
  refine wpAnyH_one 6 (by kernel_rfl) ?_
  refine wpOp_run (i := 6) rfl ?_
  rw [if_pos (by rfl)]
  refine wp_append_own _ _ _ _ rfl W0.drew.heap.size 52 i0 (.int .u32 0) 1 4 Tryz.underlying25 HI.out HZ.out.1 HZ.out.2.1 HZ.out.2.2 rfl (by decide) _ k (digVals (fun _ => 0) k) rfl hown1 ⟨b, off, none⟩ n c (digVals f n) rfl (by rw [digVals_length]; omega) (fun j u hj => ?_) (digVals_one f n) (by unfold maxLen; omega) (by omega) (by omega) ?_
  · have hjn : j < n := by have := (List.getElem?_eq_some_iff.1 hj).1; rw [digVals_length] at this; exact this
    rw [digVals_get f hjn] at hj
    cases hj
    have := (HCS.out.below hBw1 (.inl (Nat.le_refl _))) j hjn
    rw [← this]; congr 1; unfold Addr.add; split <;> simp_all
  intro v' w2 hown hgrow _
  rw [digVals_sh] at hown
  obtain ⟨a', c', rfl, hc', hd', hf'⟩ := owns_digF hown
  have hb2 : Below W0.drew.heap.size W0.drew w2 := hb1.grown hgrow hb1.size (fun k' hk' => (hown1.lt k' hk').1)
  have hbC : Box2 W0.drew (w.heap.size + 1) (.bool false) (.slice none 0 0) := HC.out.below (Below.drew (Below.refl _ _)) HC.out.lt
  have hbC2 := hbC.below hb2 hbC.lt
  have hBw2 : Below w.heap.size w w2 := hB2.drew.trans (hb2.mono hsz0)
  have hD : Digs w2 a' (k + n) := ⟨_, hd', fun j hj => by unfold shF; split; decide; exact HF.out _ (by omega), by omega⟩
  have hD2 := hD.set2 hbC2 (.bool s) (.slice a' (k + n) c') (.inr fun ad e => by have h1 := hf' ad e; have h2 := hbC.lt; omega)
  have hBB := below_set2 hBw2 (B := w.heap.size + 1) (by omega) (.bool s) (.slice a' (k + n) c')
  have hQ := hbC2.set (.bool s) (.slice a' (k + n) c')
  have HK := hide (And.intro hQ (And.intro hD2 hBB))
  refine ⟨hb2.mono (Nat.le_of_lt hsz1), ?_⟩
  simp only [Act.put]
  refine wpAnyH_one 7 (by kernel_rfl) ?_
  refine wpOp_run (i := 7) rfl ?_
  go_simp
  refine ⟨hb2.mono (Nat.le_of_lt hsz1), ?_⟩
  obtain ⟨r0, r1, z0, z1⟩ := hbC2
  refine wpAnyH_one 8 (by kernel_rfl) ?_
  refine wpOp_run (i := 8) rfl ?_
  go_simp
  refine ⟨below_set2 (hb2.mono (Nat.le_of_lt hsz1)) (Nat.le_refl _) _ _, ?_⟩
  refine wpAnyH_done (by kernel_rfl) ?_ _
  obtain ⟨⟨q0, q1, -, -⟩, hDD, hBB⟩ := HK.out
  clear r0 r1
  go_wp2
  exact bodyPost_ret (v := .agg #[.bool s, .slice a' (k + n) c']) (by simp [results, Tryz.results11, go_sem, q0, q1]) rfl ⟨a', _, c', rfl, hDD, hBB⟩

set_option maxRecDepth 100000 in
set_option maxHeartbeats 2000000 in
theorem raised_zero (s : Bool) (a : Option Addr) (c k : Nat) (w : World) :
    Calls Tryz.prog 11 #[.agg #[.bool s, .slice a 0 c], .int .i64 (k : Int)] w fun e w' => ∃ a' m c', e = .returned (.agg #[.bool s, .slice a' m c']) ∧ Digs w' a' m ∧ Below w.heap.size w w' := by
  have hB := below_alloc' w (Obj.cells #[Value.bool s, Value.slice a 0 c] 27)
  have hB2 := hB.trans ((below_alloc' (w.alloc (Obj.cells #[Value.bool s, Value.slice a 0 c] 27)) (Obj.cells #[Value.bool s, Value.slice a 0 c] 27)).mono hB.size)
  have HB := hide hB2
  clear hB hB2
  go_enter Tryz.func11, Tryz.ntmps11
  go_wp2
  exact bodyPost_ret (v := .agg #[.bool s, .slice a 0 c]) (by simp [results, Tryz.results11, go_sem]) rfl ⟨a, 0, c, rfl, ⟨fun _ => 0, .inl rfl, fun _ _ => by show (0 : Nat) < 4294967296; decide, by omega⟩, HB.out⟩
theorem raised_any (s : Bool) (a : Option Addr) (n c k : Nat) (hk : k ≤ 64) (h6 : n ≤ 70) (w : World) (hd : Digs w a n) :
    Calls Tryz.prog 11 #[.agg #[.bool s, .slice a n c], .int .i64 (k : Int)] w fun e w' => ∃ a' m c', e = .returned (.agg #[.bool s, .slice a' m c']) ∧ Digs w' a' m ∧ Below w.heap.size w w' := by
  rcases Nat.eq_zero_or_pos n with rfl | h
  · exact raised_zero s a c k w
  · exact raised_pos s a n c k hk h h6 w hd
end Go.Proofs.YtmpdeiopdempcaaGreatDoor
