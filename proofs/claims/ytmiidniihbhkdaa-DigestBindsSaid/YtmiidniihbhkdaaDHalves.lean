/- The law DigestHalves is true. -/
import Derived.Test.YtmiidniihbhkdaaDHalvesM
import Derived.Outline
namespace Go.Proofs.Ytmiidniihbhkdaa
open Go.RowKit

/-- the strings, and then empty ones -/
def padF (S : Nat → ByteArray) (m k : Nat) : List UInt8 := if k < m then cutF S k else []
theorem pad_len (S : Nat → ByteArray) (m k : Nat) : (padF S m k).length ≤ 30 := by
  unfold padF
  split
  · rw [cutF, List.length_take]; omega
  · simp
theorem OwnS.congr {w : World} {base : Nat} {v : Value} {n : Nat} {f g : Nat → List UInt8} (h : OwnS w base v n f) (e : ∀ k, k < n → f k = g k) : OwnS w base v n g := by
  unfold OwnS at *
  rwa [List.map_congr_left (g := fun k => str (g k)) (fun k hk => by rw [e k (List.mem_range.1 hk)])] at h
theorem Strs.at {w : World} {g n : Nat} {S : Nat → ByteArray} (h : Strs w (some ⟨g, 0, none⟩) n S) {j : Nat} (hj : j < n) : w.cell? ⟨g, j, none⟩ = some (.string (S j)) := by
  rcases h with h | ⟨b, off, e, h⟩
  · omega
  · cases e
    have := h j hj
    rwa [Nat.zero_add] at this
def lenOf : Value → Nat
  | .slice _ n _ => n
  | _ => 0
theorem missing_none (w : World) : Calls Try.prog 27 #[] w fun e w' => e = .returned (str (dig (noneP 0))) ∧ Below w.heap.size w w' := missingP_any w
theorem leaf_one (l : List UInt8) (h : l.length ≤ 1000) (w : World) : Calls Try.prog 23 #[str l] w fun e w' => e = .returned (str (dig (oneP l 0))) ∧ Below w.heap.size w w' := leaf_any _ (le_of_small h) w
theorem inner_none (k : Nat) (w : World) : Calls Try.prog 25 #[str (dig (noneP k)), str (dig (noneP k))] w fun e w' => e = .returned (str (dig (noneP (k + 1)))) ∧ Below w.heap.size w w' := inner_any _ (dig_size _) _ (dig_size _) w
theorem inner_one (l : List UInt8) (k : Nat) (w : World) : Calls Try.prog 25 #[str (dig (oneP l k)), str (dig (noneP k))] w fun e w' => e = .returned (str (dig (oneP l (k + 1)))) ∧ Below w.heap.size w w' := inner_any _ (dig_size _) _ (dig_size _) w
theorem root_len8 (S : Nat → ByteArray) (n : Nat) : (rootOf S n).length ≤ 1000 := by show 8 ≤ 1000; decide
theorem dig_len8 (l : List UInt8) : (dig l).length ≤ 1000 := by show 8 ≤ 1000; decide
theorem Strs.from {w : World} {g n k m : Nat} {S : Nat → ByteArray} (h : Strs w (some ⟨g, 0, none⟩) n S) (hk : k + m ≤ n) : Strs w (some ⟨g, k, none⟩) m (fun i => S (k + i)) :=
  .inr ⟨g, k, rfl, fun j hj => h.at (by omega)⟩

set_option maxRecDepth 100000 in
set_option maxHeartbeats 8000000 in
theorem halves_0 (lv : Nat) (hlv : lv < 256) (hr : (lv : Int) % 4 = 0) (a : Option Addr) (n c : Nat) (hn : n ≤ 9223372036854775807) (S : Nat → ByteArray) (hs : ∀ j, j < n → (S j).size ≤ 9223372036854775807) (w : World) (hS : Strs w a n S) :
    Calls Try.prog 7 #[.slice a n c, .int .u8 (lv : Int)] w fun e w' => e = .returned (.bool true) ∧ Below w.heap.size w w' := by
  obtain ⟨i0, hi, hz0, hz1, hz2⟩ := info_parts infoS
  have HI := hide hi
  have HZ := hide (And.intro hz0 (And.intro hz1 hz2))
  have HSS := hide hs
  clear hi hz0 hz1 hz2 hs
  go_enter Try.func7, Try.ntmps7
  go_wp2_with fail
  refine (sanity_true w).mono ?_
  rintro e w1 ⟨rfl, B1⟩
  go_wp2_with fail
  refine (list_any a n c hn S HSS.out _ (hS.below B1 (Nat.le_refl _))).mono ?_
  rintro e w2 ⟨v, rfl, ho, hb2⟩
  have B2 := B1.trans (hb2.mono B1.size)
  obtain ⟨m, hm⟩ : ∃ m, min n 20 = m := ⟨_, rfl⟩
  have hm20 : m ≤ 20 := by omega
  rw [hm] at ho
  have hof : OwnS w2 w1.heap.size v m (padF S m) := ho.congr fun k hk => by rw [padF, if_pos hk]
  have HO := hide hof
  clear ho hof hm
  go_wp2_with fail
  rw [hr]
  clear hr
  go_loopw [0] (fun v wr => ∃ j : Nat, m ≤ j ∧ j ≤ max m 2 ∧ OwnS wr w1.heap.size v j (padF S m) ∧ Below w1.heap.size w1 wr) (fun v _ => 2 - lenOf v)
  case atStart => exact ⟨m, Nat.le_refl _, by omega, HO.out, hb2⟩
  case round =>
    obtain ⟨j, hj1, hj2, hown, hB⟩ := hrel
    have hform := hown.form
    have HO := hide hown
    clear hown
    by_cases hjn : j < 2
    · have hjn' : (j : Int) < 2 := by omega
      have HP : Hid (([] : List UInt8) = padF S m j) := by show _ = _; rw [padF, if_neg (by omega)]
      have BA := hB.trans ((below_alloc' wr (.cells #[.string ⟨#[]⟩] 9)).mono hB.size)
      have HO3 := hide ((show wr.ownsRow _ _ _ _ _ _ from HO.out).alloc (.cells #[.string ⟨#[]⟩] 9))
      have fin : ∀ (v' : Value) (w4 : World), w4.ownsRow w1.heap.size 9 1 v' (j + 1) (((List.range j).map fun k => str (padF S m k)) ++ [.string ⟨#[]⟩]) → OwnS w4 w1.heap.size v' (j + 1) (padF S m) := fun v' w4 h => OwnS.snoc (l := []) h HP.out
      have HF := hide fin
      clear fin
      rcases hform with ⟨rfl, rfl⟩ | ⟨g, cap, rfl, hg, hjc, hcm, hst⟩
      all_goals
        go_wp2_with (at_builtin; refine wpList_append_own _ rfl _ _ 29 rfl w1.heap.size 9 i0 (.string ⟨#[]⟩) 1 16 Try.underlying29 HI.out HZ.out.1 HZ.out.2.1 HZ.out.2.2 rfl (by decide) _ _ _ rfl HO3.out ⟨wr.heap.size, 0, none⟩ 1 1 [.string ⟨#[]⟩] rfl rfl (cell_one_new _ _ _) (one_str []) (by unfold maxLen; omega) (by omega) BA.size ?_)
        intro v' w4 hown4 hgrow4 _
        have B4 : Below w1.heap.size w1 w4 := BA.grown hgrow4 BA.size (fun k' hk' => (HO3.out.lt k' hk').1)
        have HO5 := HF.out v' w4 hown4
        obtain ⟨a5, cap5, rfl, -⟩ := HO5.strs
        have HO4 := hide HO5
        clear hown4 hgrow4 HO5
        go_wp2_with fail
        go_roundw
        case rel => exact ⟨_, by omega, by omega, HO4.out, B4⟩
        case measure => simp only [lenOf]; omega
    · have hjn' : ¬ (j : Int) < 2 := by omega
      rcases hform with ⟨rfl, rfl⟩ | ⟨g, cap, rfl, hg, hjc, hcm, hst⟩
      · omega
      obtain ⟨wo, rfl⟩ : ∃ wo : World, wo = wr := ⟨_, rfl⟩
      have hst' := hst.mono (show 2 ≤ j by omega)
      have hc1 : (2 : Int) ≤ (cap : Int) := by omega
      have hc2 : ¬ cap = 1 := by omega
      have HST := hide hst'
      clear hst hst'
      go_wp2_with fail
      go_region
      have hleaf : wo.cell? ⟨g, 1, none⟩ = some (str (padF S m 1)) := HST.out.at (by omega)
      have hpl := pad_len S m 1
      have hp1 : (padF S m 1).length ≤ 1000 := by omega
      have hR : rootOf (fun k => ⟨(padF S m k).toArray⟩) 2 = dig (2 :: (rootOf (fun k => ⟨(padF S m k).toArray⟩) 1 ++ rootOf (fun k => ⟨(padF S m (1 + k)).toArray⟩) 1)) := root_halves 0 (fun k => ⟨(padF S m k).toArray⟩)
      have hN : rootOf (fun k => ⟨(padF S m k).toArray⟩) 2 = dig (2 :: (rootOf (fun k => ⟨(padF S m k).toArray⟩) 1 ++ dig (oneP (padF S m 1) 0))) := root_next 0 (fun k => ⟨(padF S m k).toArray⟩)
      have HR := hide hR
      have HN := hide hN
      have hG : ∀ k, (⟨(padF S m k).toArray⟩ : ByteArray).size ≤ 9223372036854775807 := fun k => by rw [size_mk]; have := pad_len S m k; omega
      have HG := hide hG
      clear hR hN hG
      go_wp2_with fail
      refine (missing_none _).mono ?_
      rintro e x1 ⟨rfl, hx1⟩
      have D1 : Below w1.heap.size w1 x1 := hB.trans (below_drewL (hx1.mono hB.size))
      have T1 : Strs x1 (some ⟨g, 0, none⟩) 2 (fun k => ⟨(padF S m k).toArray⟩) := HST.out.drew.below hx1 (Nat.le_refl _)
      go_wp2_with fail
      refine wp_loop_rounds 1 ?_
      rw [rounds_succ]
      have hl1 : x1.cell? ⟨g, 1, none⟩ = some (str (padF S m 1)) := T1.at (by omega)
      go_wp2_with fail
      refine (leaf_one (padF S m 1) hp1 _).mono ?_
      rintro e x2 ⟨rfl, hx2⟩
      have D2 := D1.trans (hx2.mono D1.size)
      have T2 := T1.below hx2 (Nat.le_refl _)
      clear T1 D1 hx2
      go_wp2_with fail
      refine (missing_none _).mono ?_
      rintro e x3 ⟨rfl, hx3⟩
      have D3 := D2.trans (hx3.mono D2.size)
      have T3 := T2.below hx3 (Nat.le_refl _)
      clear T2 D2 hx3
      go_wp2_with fail
      refine wp_loop_rounds 1 ?_
      rw [rounds_succ]
      go_wp2_with fail
      refine (root_any (some ⟨g, 0, none⟩) 2 cap (by omega) (fun k => ⟨(padF S m k).toArray⟩) (fun k _ => HG.out k) _ T3).mono ?_
      rintro e x4 ⟨rfl, hx4⟩
      have D4 := D3.trans (hx4.mono D3.size)
      have T4 := T3.below hx4 (Nat.le_refl _)
      clear T3 D3 hx4
      rw [HR.out]
      go_wp2_with fail
      refine (root_any (some ⟨g, 0, none⟩) 1 cap (by omega) (fun k => ⟨(padF S m k).toArray⟩) (fun k _ => HG.out k) _ (T4.mono (by omega))).mono ?_
      rintro e x5 ⟨rfl, hx5⟩
      have D5 := D4.trans (hx5.mono D4.size)
      have T5 := T4.below hx5 (Nat.le_refl _)
      clear T4 D4 hx5
      go_wp2_with fail
      refine (root_any (some ⟨g, 1, none⟩) 1 (cap - 1) (by omega) (fun k => ⟨(padF S m (1 + k)).toArray⟩) (fun k _ => HG.out _) _ (T5.from (by omega))).mono ?_
      rintro e x6 ⟨rfl, hx6⟩
      have D6 := D5.trans (hx6.mono D5.size)
      have T6 := T5.below hx6 (Nat.le_refl _)
      clear T5 D5 hx6
      go_wp2_with fail
      refine (inner_l (rootOf (fun k => ⟨(padF S m k).toArray⟩) 1) (rootOf (fun k => ⟨(padF S m (1 + k)).toArray⟩) 1) (root_len8 _ _) (root_len8 _ _) _).mono ?_
      rintro e x7 ⟨rfl, hx7⟩
      have D7 := D6.trans (hx7.mono D6.size)
      have T7 := T6.below hx7 (Nat.le_refl _)
      clear T6 D6 hx7
      go_wp2_with fail
      refine (root_any (some ⟨g, 0, none⟩) 2 cap (by omega) (fun k => ⟨(padF S m k).toArray⟩) (fun k _ => HG.out k) _ (T7.mono (by omega))).mono ?_
      rintro e x8 ⟨rfl, hx8⟩
      have D8 := D7.trans (hx8.mono D7.size)
      have T8 := T7.below hx8 (Nat.le_refl _)
      clear T7 D7 hx8
      rw [HN.out]
      go_wp2_with fail
      refine (root_any (some ⟨g, 0, none⟩) 1 cap (by omega) (fun k => ⟨(padF S m k).toArray⟩) (fun k _ => HG.out k) _ (T8.mono (by omega))).mono ?_
      rintro e x9 ⟨rfl, hx9⟩
      have D9 := D8.trans (hx9.mono D8.size)
      have T9 := T8.below hx9 (Nat.le_refl _)
      clear T8 D8 hx9
      go_wp2_with fail
      refine (inner_l (rootOf (fun k => ⟨(padF S m k).toArray⟩) 1) (dig (oneP (padF S m 1) 0)) (root_len8 _ _) (dig_len8 _) _).mono ?_
      rintro e x10 ⟨rfl, hx10⟩
      have D10 := D9.trans (hx10.mono D9.size)
      have T10 := T9.below hx10 (Nat.le_refl _)
      clear T9 D9 hx10
      go_wp2
      go_ret
      exact ⟨rfl, B1.trans (D10.mono B1.size)⟩


set_option maxRecDepth 100000 in
set_option maxHeartbeats 8000000 in
theorem halves_1 (lv : Nat) (hlv : lv < 256) (hr : (lv : Int) % 4 = 1) (a : Option Addr) (n c : Nat) (hn : n ≤ 9223372036854775807) (S : Nat → ByteArray) (hs : ∀ j, j < n → (S j).size ≤ 9223372036854775807) (w : World) (hS : Strs w a n S) :
    Calls Try.prog 7 #[.slice a n c, .int .u8 (lv : Int)] w fun e w' => e = .returned (.bool true) ∧ Below w.heap.size w w' := by
  obtain ⟨i0, hi, hz0, hz1, hz2⟩ := info_parts infoS
  have HI := hide hi
  have HZ := hide (And.intro hz0 (And.intro hz1 hz2))
  have HSS := hide hs
  clear hi hz0 hz1 hz2 hs
  go_enter Try.func7, Try.ntmps7
  go_wp2_with fail
  refine (sanity_true w).mono ?_
  rintro e w1 ⟨rfl, B1⟩
  go_wp2_with fail
  refine (list_any a n c hn S HSS.out _ (hS.below B1 (Nat.le_refl _))).mono ?_
  rintro e w2 ⟨v, rfl, ho, hb2⟩
  have B2 := B1.trans (hb2.mono B1.size)
  obtain ⟨m, hm⟩ : ∃ m, min n 20 = m := ⟨_, rfl⟩
  have hm20 : m ≤ 20 := by omega
  rw [hm] at ho
  have hof : OwnS w2 w1.heap.size v m (padF S m) := ho.congr fun k hk => by rw [padF, if_pos hk]
  have HO := hide hof
  clear ho hof hm
  go_wp2_with fail
  rw [hr]
  clear hr
  go_loopw [0] (fun v wr => ∃ j : Nat, m ≤ j ∧ j ≤ max m 4 ∧ OwnS wr w1.heap.size v j (padF S m) ∧ Below w1.heap.size w1 wr) (fun v _ => 4 - lenOf v)
  case atStart => exact ⟨m, Nat.le_refl _, by omega, HO.out, hb2⟩
  case round =>
    obtain ⟨j, hj1, hj2, hown, hB⟩ := hrel
    have hform := hown.form
    have HO := hide hown
    clear hown
    by_cases hjn : j < 4
    · have hjn' : (j : Int) < 4 := by omega
      have HP : Hid (([] : List UInt8) = padF S m j) := by show _ = _; rw [padF, if_neg (by omega)]
      have BA := hB.trans ((below_alloc' wr (.cells #[.string ⟨#[]⟩] 9)).mono hB.size)
      have HO3 := hide ((show wr.ownsRow _ _ _ _ _ _ from HO.out).alloc (.cells #[.string ⟨#[]⟩] 9))
      have fin : ∀ (v' : Value) (w4 : World), w4.ownsRow w1.heap.size 9 1 v' (j + 1) (((List.range j).map fun k => str (padF S m k)) ++ [.string ⟨#[]⟩]) → OwnS w4 w1.heap.size v' (j + 1) (padF S m) := fun v' w4 h => OwnS.snoc (l := []) h HP.out
      have HF := hide fin
      clear fin
      rcases hform with ⟨rfl, rfl⟩ | ⟨g, cap, rfl, hg, hjc, hcm, hst⟩
      all_goals
        go_wp2_with (at_builtin; refine wpList_append_own _ rfl _ _ 29 rfl w1.heap.size 9 i0 (.string ⟨#[]⟩) 1 16 Try.underlying29 HI.out HZ.out.1 HZ.out.2.1 HZ.out.2.2 rfl (by decide) _ _ _ rfl HO3.out ⟨wr.heap.size, 0, none⟩ 1 1 [.string ⟨#[]⟩] rfl rfl (cell_one_new _ _ _) (one_str []) (by unfold maxLen; omega) (by omega) BA.size ?_)
        intro v' w4 hown4 hgrow4 _
        have B4 : Below w1.heap.size w1 w4 := BA.grown hgrow4 BA.size (fun k' hk' => (HO3.out.lt k' hk').1)
        have HO5 := HF.out v' w4 hown4
        obtain ⟨a5, cap5, rfl, -⟩ := HO5.strs
        have HO4 := hide HO5
        clear hown4 hgrow4 HO5
        go_wp2_with fail
        go_roundw
        case rel => exact ⟨_, by omega, by omega, HO4.out, B4⟩
        case measure => simp only [lenOf]; omega
    · have hjn' : ¬ (j : Int) < 4 := by omega
      rcases hform with ⟨rfl, rfl⟩ | ⟨g, cap, rfl, hg, hjc, hcm, hst⟩
      · omega
      obtain ⟨wo, rfl⟩ : ∃ wo : World, wo = wr := ⟨_, rfl⟩
      have hst' := hst.mono (show 4 ≤ j by omega)
      have hc1 : (4 : Int) ≤ (cap : Int) := by omega
      have hc2 : ¬ cap = 2 := by omega
      have HST := hide hst'
      clear hst hst'
      go_wp2_with fail
      go_region
      have hleaf : wo.cell? ⟨g, 2, none⟩ = some (str (padF S m 2)) := HST.out.at (by omega)
      have hpl := pad_len S m 2
      have hp1 : (padF S m 2).length ≤ 1000 := by omega
      have hR : rootOf (fun k => ⟨(padF S m k).toArray⟩) 4 = dig (2 :: (rootOf (fun k => ⟨(padF S m k).toArray⟩) 2 ++ rootOf (fun k => ⟨(padF S m (2 + k)).toArray⟩) 2)) := root_halves 1 (fun k => ⟨(padF S m k).toArray⟩)
      have hN : rootOf (fun k => ⟨(padF S m k).toArray⟩) 3 = dig (2 :: (rootOf (fun k => ⟨(padF S m k).toArray⟩) 2 ++ dig (oneP (padF S m 2) 1))) := root_next 1 (fun k => ⟨(padF S m k).toArray⟩)
      have HR := hide hR
      have HN := hide hN
      have hG : ∀ k, (⟨(padF S m k).toArray⟩ : ByteArray).size ≤ 9223372036854775807 := fun k => by rw [size_mk]; have := pad_len S m k; omega
      have HG := hide hG
      clear hR hN hG
      go_wp2_with fail
      refine (missing_none _).mono ?_
      rintro e x1 ⟨rfl, hx1⟩
      have D1 : Below w1.heap.size w1 x1 := hB.trans (below_drewL (hx1.mono hB.size))
      have T1 : Strs x1 (some ⟨g, 0, none⟩) 4 (fun k => ⟨(padF S m k).toArray⟩) := HST.out.drew.below hx1 (Nat.le_refl _)
      go_wp2_with fail
      refine wp_loop_rounds 2 ?_
      rw [rounds_succ]
      go_wp2_with fail
      refine (inner_none 0 _).mono ?_
      rintro e x2 ⟨rfl, hx2⟩
      have D2 := D1.trans (hx2.mono D1.size)
      have T2 := T1.below hx2 (Nat.le_refl _)
      clear T1 D1 hx2
      go_wp2_with fail
      rw [rounds_succ]
      have hl2 : x2.cell? ⟨g, 2, none⟩ = some (str (padF S m 2)) := T2.at (by omega)
      go_wp2_with fail
      refine (leaf_one (padF S m 2) hp1 _).mono ?_
      rintro e x3 ⟨rfl, hx3⟩
      have D3 := D2.trans (hx3.mono D2.size)
      have T3 := T2.below hx3 (Nat.le_refl _)
      clear T2 D2 hx3
      go_wp2_with fail
      refine (missing_none _).mono ?_
      rintro e x4 ⟨rfl, hx4⟩
      have D4 := D3.trans (hx4.mono D3.size)
      have T4 := T3.below hx4 (Nat.le_refl _)
      clear T3 D3 hx4
      go_wp2_with fail
      refine wp_loop_rounds 2 ?_
      rw [rounds_succ]
      go_wp2_with fail
      refine (inner_one (padF S m 2) 0 _).mono ?_
      rintro e x5 ⟨rfl, hx5⟩
      have D5 := D4.trans (hx5.mono D4.size)
      have T5 := T4.below hx5 (Nat.le_refl _)
      clear T4 D4 hx5
      go_wp2_with fail
      refine (inner_none 0 _).mono ?_
      rintro e x6 ⟨rfl, hx6⟩
      have D6 := D5.trans (hx6.mono D5.size)
      have T6 := T5.below hx6 (Nat.le_refl _)
      clear T5 D5 hx6
      go_wp2_with fail
      rw [rounds_succ]
      go_wp2_with fail
      refine (root_any (some ⟨g, 0, none⟩) 4 cap (by omega) (fun k => ⟨(padF S m k).toArray⟩) (fun k _ => HG.out k) _ T6).mono ?_
      rintro e x7 ⟨rfl, hx7⟩
      have D7 := D6.trans (hx7.mono D6.size)
      have T7 := T6.below hx7 (Nat.le_refl _)
      clear T6 D6 hx7
      rw [HR.out]
      go_wp2_with fail
      refine (root_any (some ⟨g, 0, none⟩) 2 cap (by omega) (fun k => ⟨(padF S m k).toArray⟩) (fun k _ => HG.out k) _ (T7.mono (by omega))).mono ?_
      rintro e x8 ⟨rfl, hx8⟩
      have D8 := D7.trans (hx8.mono D7.size)
      have T8 := T7.below hx8 (Nat.le_refl _)
      clear T7 D7 hx8
      go_wp2_with fail
      refine (root_any (some ⟨g, 2, none⟩) 2 (cap - 2) (by omega) (fun k => ⟨(padF S m (2 + k)).toArray⟩) (fun k _ => HG.out _) _ (T8.from (by omega))).mono ?_
      rintro e x9 ⟨rfl, hx9⟩
      have D9 := D8.trans (hx9.mono D8.size)
      have T9 := T8.below hx9 (Nat.le_refl _)
      clear T8 D8 hx9
      go_wp2_with fail
      refine (inner_l (rootOf (fun k => ⟨(padF S m k).toArray⟩) 2) (rootOf (fun k => ⟨(padF S m (2 + k)).toArray⟩) 2) (root_len8 _ _) (root_len8 _ _) _).mono ?_
      rintro e x10 ⟨rfl, hx10⟩
      have D10 := D9.trans (hx10.mono D9.size)
      have T10 := T9.below hx10 (Nat.le_refl _)
      clear T9 D9 hx10
      go_wp2_with fail
      refine (root_any (some ⟨g, 0, none⟩) 3 cap (by omega) (fun k => ⟨(padF S m k).toArray⟩) (fun k _ => HG.out k) _ (T10.mono (by omega))).mono ?_
      rintro e x11 ⟨rfl, hx11⟩
      have D11 := D10.trans (hx11.mono D10.size)
      have T11 := T10.below hx11 (Nat.le_refl _)
      clear T10 D10 hx11
      rw [HN.out]
      go_wp2_with fail
      refine (root_any (some ⟨g, 0, none⟩) 2 cap (by omega) (fun k => ⟨(padF S m k).toArray⟩) (fun k _ => HG.out k) _ (T11.mono (by omega))).mono ?_
      rintro e x12 ⟨rfl, hx12⟩
      have D12 := D11.trans (hx12.mono D11.size)
      have T12 := T11.below hx12 (Nat.le_refl _)
      clear T11 D11 hx12
      go_wp2_with fail
      refine (inner_l (rootOf (fun k => ⟨(padF S m k).toArray⟩) 2) (dig (oneP (padF S m 2) 1)) (root_len8 _ _) (dig_len8 _) _).mono ?_
      rintro e x13 ⟨rfl, hx13⟩
      have D13 := D12.trans (hx13.mono D12.size)
      have T13 := T12.below hx13 (Nat.le_refl _)
      clear T12 D12 hx13
      go_wp2
      go_ret
      exact ⟨rfl, B1.trans (D13.mono B1.size)⟩


set_option maxRecDepth 100000 in
set_option maxHeartbeats 8000000 in
theorem halves_2 (lv : Nat) (hlv : lv < 256) (hr : (lv : Int) % 4 = 2) (a : Option Addr) (n c : Nat) (hn : n ≤ 9223372036854775807) (S : Nat → ByteArray) (hs : ∀ j, j < n → (S j).size ≤ 9223372036854775807) (w : World) (hS : Strs w a n S) :
    Calls Try.prog 7 #[.slice a n c, .int .u8 (lv : Int)] w fun e w' => e = .returned (.bool true) ∧ Below w.heap.size w w' := by
  obtain ⟨i0, hi, hz0, hz1, hz2⟩ := info_parts infoS
  have HI := hide hi
  have HZ := hide (And.intro hz0 (And.intro hz1 hz2))
  have HSS := hide hs
  clear hi hz0 hz1 hz2 hs
  go_enter Try.func7, Try.ntmps7
  go_wp2_with fail
  refine (sanity_true w).mono ?_
  rintro e w1 ⟨rfl, B1⟩
  go_wp2_with fail
  refine (list_any a n c hn S HSS.out _ (hS.below B1 (Nat.le_refl _))).mono ?_
  rintro e w2 ⟨v, rfl, ho, hb2⟩
  have B2 := B1.trans (hb2.mono B1.size)
  obtain ⟨m, hm⟩ : ∃ m, min n 20 = m := ⟨_, rfl⟩
  have hm20 : m ≤ 20 := by omega
  rw [hm] at ho
  have hof : OwnS w2 w1.heap.size v m (padF S m) := ho.congr fun k hk => by rw [padF, if_pos hk]
  have HO := hide hof
  clear ho hof hm
  go_wp2_with fail
  rw [hr]
  clear hr
  go_loopw [0] (fun v wr => ∃ j : Nat, m ≤ j ∧ j ≤ max m 8 ∧ OwnS wr w1.heap.size v j (padF S m) ∧ Below w1.heap.size w1 wr) (fun v _ => 8 - lenOf v)
  case atStart => exact ⟨m, Nat.le_refl _, by omega, HO.out, hb2⟩
  case round =>
    obtain ⟨j, hj1, hj2, hown, hB⟩ := hrel
    have hform := hown.form
    have HO := hide hown
    clear hown
    by_cases hjn : j < 8
    · have hjn' : (j : Int) < 8 := by omega
      have HP : Hid (([] : List UInt8) = padF S m j) := by show _ = _; rw [padF, if_neg (by omega)]
      have BA := hB.trans ((below_alloc' wr (.cells #[.string ⟨#[]⟩] 9)).mono hB.size)
      have HO3 := hide ((show wr.ownsRow _ _ _ _ _ _ from HO.out).alloc (.cells #[.string ⟨#[]⟩] 9))
      have fin : ∀ (v' : Value) (w4 : World), w4.ownsRow w1.heap.size 9 1 v' (j + 1) (((List.range j).map fun k => str (padF S m k)) ++ [.string ⟨#[]⟩]) → OwnS w4 w1.heap.size v' (j + 1) (padF S m) := fun v' w4 h => OwnS.snoc (l := []) h HP.out
      have HF := hide fin
      clear fin
      rcases hform with ⟨rfl, rfl⟩ | ⟨g, cap, rfl, hg, hjc, hcm, hst⟩
      all_goals
        go_wp2_with (at_builtin; refine wpList_append_own _ rfl _ _ 29 rfl w1.heap.size 9 i0 (.string ⟨#[]⟩) 1 16 Try.underlying29 HI.out HZ.out.1 HZ.out.2.1 HZ.out.2.2 rfl (by decide) _ _ _ rfl HO3.out ⟨wr.heap.size, 0, none⟩ 1 1 [.string ⟨#[]⟩] rfl rfl (cell_one_new _ _ _) (one_str []) (by unfold maxLen; omega) (by omega) BA.size ?_)
        intro v' w4 hown4 hgrow4 _
        have B4 : Below w1.heap.size w1 w4 := BA.grown hgrow4 BA.size (fun k' hk' => (HO3.out.lt k' hk').1)
        have HO5 := HF.out v' w4 hown4
        obtain ⟨a5, cap5, rfl, -⟩ := HO5.strs
        have HO4 := hide HO5
        clear hown4 hgrow4 HO5
        go_wp2_with fail
        go_roundw
        case rel => exact ⟨_, by omega, by omega, HO4.out, B4⟩
        case measure => simp only [lenOf]; omega
    · have hjn' : ¬ (j : Int) < 8 := by omega
      rcases hform with ⟨rfl, rfl⟩ | ⟨g, cap, rfl, hg, hjc, hcm, hst⟩
      · omega
      obtain ⟨wo, rfl⟩ : ∃ wo : World, wo = wr := ⟨_, rfl⟩
      have hst' := hst.mono (show 8 ≤ j by omega)
      have hc1 : (8 : Int) ≤ (cap : Int) := by omega
      have hc2 : ¬ cap = 4 := by omega
      have HST := hide hst'
      clear hst hst'
      go_wp2_with fail
      go_region
      have hleaf : wo.cell? ⟨g, 4, none⟩ = some (str (padF S m 4)) := HST.out.at (by omega)
      have hpl := pad_len S m 4
      have hp1 : (padF S m 4).length ≤ 1000 := by omega
      have hR : rootOf (fun k => ⟨(padF S m k).toArray⟩) 8 = dig (2 :: (rootOf (fun k => ⟨(padF S m k).toArray⟩) 4 ++ rootOf (fun k => ⟨(padF S m (4 + k)).toArray⟩) 4)) := root_halves 2 (fun k => ⟨(padF S m k).toArray⟩)
      have hN : rootOf (fun k => ⟨(padF S m k).toArray⟩) 5 = dig (2 :: (rootOf (fun k => ⟨(padF S m k).toArray⟩) 4 ++ dig (oneP (padF S m 4) 2))) := root_next 2 (fun k => ⟨(padF S m k).toArray⟩)
      have HR := hide hR
      have HN := hide hN
      have hG : ∀ k, (⟨(padF S m k).toArray⟩ : ByteArray).size ≤ 9223372036854775807 := fun k => by rw [size_mk]; have := pad_len S m k; omega
      have HG := hide hG
      clear hR hN hG
      go_wp2_with fail
      refine (missing_none _).mono ?_
      rintro e x1 ⟨rfl, hx1⟩
      have D1 : Below w1.heap.size w1 x1 := hB.trans (below_drewL (hx1.mono hB.size))
      have T1 : Strs x1 (some ⟨g, 0, none⟩) 8 (fun k => ⟨(padF S m k).toArray⟩) := HST.out.drew.below hx1 (Nat.le_refl _)
      go_wp2_with fail
      refine wp_loop_rounds 3 ?_
      rw [rounds_succ]
      go_wp2_with fail
      refine (inner_none 0 _).mono ?_
      rintro e x2 ⟨rfl, hx2⟩
      have D2 := D1.trans (hx2.mono D1.size)
      have T2 := T1.below hx2 (Nat.le_refl _)
      clear T1 D1 hx2
      go_wp2_with fail
      rw [rounds_succ]
      go_wp2_with fail
      refine (inner_none 1 _).mono ?_
      rintro e x3 ⟨rfl, hx3⟩
      have D3 := D2.trans (hx3.mono D2.size)
      have T3 := T2.below hx3 (Nat.le_refl _)
      clear T2 D2 hx3
      go_wp2_with fail
      rw [rounds_succ]
      have hl3 : x3.cell? ⟨g, 4, none⟩ = some (str (padF S m 4)) := T3.at (by omega)
      go_wp2_with fail
      refine (leaf_one (padF S m 4) hp1 _).mono ?_
      rintro e x4 ⟨rfl, hx4⟩
      have D4 := D3.trans (hx4.mono D3.size)
      have T4 := T3.below hx4 (Nat.le_refl _)
      clear T3 D3 hx4
      go_wp2_with fail
      refine (missing_none _).mono ?_
      rintro e x5 ⟨rfl, hx5⟩
      have D5 := D4.trans (hx5.mono D4.size)
      have T5 := T4.below hx5 (Nat.le_refl _)
      clear T4 D4 hx5
      go_wp2_with fail
      refine wp_loop_rounds 3 ?_
      rw [rounds_succ]
      go_wp2_with fail
      refine (inner_one (padF S m 4) 0 _).mono ?_
      rintro e x6 ⟨rfl, hx6⟩
      have D6 := D5.trans (hx6.mono D5.size)
      have T6 := T5.below hx6 (Nat.le_refl _)
      clear T5 D5 hx6
      go_wp2_with fail
      refine (inner_none 0 _).mono ?_
      rintro e x7 ⟨rfl, hx7⟩
      have D7 := D6.trans (hx7.mono D6.size)
      have T7 := T6.below hx7 (Nat.le_refl _)
      clear T6 D6 hx7
      go_wp2_with fail
      rw [rounds_succ]
      go_wp2_with fail
      refine (inner_one (padF S m 4) 1 _).mono ?_
      rintro e x8 ⟨rfl, hx8⟩
      have D8 := D7.trans (hx8.mono D7.size)
      have T8 := T7.below hx8 (Nat.le_refl _)
      clear T7 D7 hx8
      go_wp2_with fail
      refine (inner_none 1 _).mono ?_
      rintro e x9 ⟨rfl, hx9⟩
      have D9 := D8.trans (hx9.mono D8.size)
      have T9 := T8.below hx9 (Nat.le_refl _)
      clear T8 D8 hx9
      go_wp2_with fail
      rw [rounds_succ]
      go_wp2_with fail
      refine (root_any (some ⟨g, 0, none⟩) 8 cap (by omega) (fun k => ⟨(padF S m k).toArray⟩) (fun k _ => HG.out k) _ T9).mono ?_
      rintro e x10 ⟨rfl, hx10⟩
      have D10 := D9.trans (hx10.mono D9.size)
      have T10 := T9.below hx10 (Nat.le_refl _)
      clear T9 D9 hx10
      rw [HR.out]
      go_wp2_with fail
      refine (root_any (some ⟨g, 0, none⟩) 4 cap (by omega) (fun k => ⟨(padF S m k).toArray⟩) (fun k _ => HG.out k) _ (T10.mono (by omega))).mono ?_
      rintro e x11 ⟨rfl, hx11⟩
      have D11 := D10.trans (hx11.mono D10.size)
      have T11 := T10.below hx11 (Nat.le_refl _)
      clear T10 D10 hx11
      go_wp2_with fail
      refine (root_any (some ⟨g, 4, none⟩) 4 (cap - 4) (by omega) (fun k => ⟨(padF S m (4 + k)).toArray⟩) (fun k _ => HG.out _) _ (T11.from (by omega))).mono ?_
      rintro e x12 ⟨rfl, hx12⟩
      have D12 := D11.trans (hx12.mono D11.size)
      have T12 := T11.below hx12 (Nat.le_refl _)
      clear T11 D11 hx12
      go_wp2_with fail
      refine (inner_l (rootOf (fun k => ⟨(padF S m k).toArray⟩) 4) (rootOf (fun k => ⟨(padF S m (4 + k)).toArray⟩) 4) (root_len8 _ _) (root_len8 _ _) _).mono ?_
      rintro e x13 ⟨rfl, hx13⟩
      have D13 := D12.trans (hx13.mono D12.size)
      have T13 := T12.below hx13 (Nat.le_refl _)
      clear T12 D12 hx13
      go_wp2_with fail
      refine (root_any (some ⟨g, 0, none⟩) 5 cap (by omega) (fun k => ⟨(padF S m k).toArray⟩) (fun k _ => HG.out k) _ (T13.mono (by omega))).mono ?_
      rintro e x14 ⟨rfl, hx14⟩
      have D14 := D13.trans (hx14.mono D13.size)
      have T14 := T13.below hx14 (Nat.le_refl _)
      clear T13 D13 hx14
      rw [HN.out]
      go_wp2_with fail
      refine (root_any (some ⟨g, 0, none⟩) 4 cap (by omega) (fun k => ⟨(padF S m k).toArray⟩) (fun k _ => HG.out k) _ (T14.mono (by omega))).mono ?_
      rintro e x15 ⟨rfl, hx15⟩
      have D15 := D14.trans (hx15.mono D14.size)
      have T15 := T14.below hx15 (Nat.le_refl _)
      clear T14 D14 hx15
      go_wp2_with fail
      refine (inner_l (rootOf (fun k => ⟨(padF S m k).toArray⟩) 4) (dig (oneP (padF S m 4) 2)) (root_len8 _ _) (dig_len8 _) _).mono ?_
      rintro e x16 ⟨rfl, hx16⟩
      have D16 := D15.trans (hx16.mono D15.size)
      have T16 := T15.below hx16 (Nat.le_refl _)
      clear T15 D15 hx16
      go_wp2
      go_ret
      exact ⟨rfl, B1.trans (D16.mono B1.size)⟩


set_option maxRecDepth 100000 in
set_option maxHeartbeats 8000000 in
theorem halves_3 (lv : Nat) (hlv : lv < 256) (hr : (lv : Int) % 4 = 3) (a : Option Addr) (n c : Nat) (hn : n ≤ 9223372036854775807) (S : Nat → ByteArray) (hs : ∀ j, j < n → (S j).size ≤ 9223372036854775807) (w : World) (hS : Strs w a n S) :
    Calls Try.prog 7 #[.slice a n c, .int .u8 (lv : Int)] w fun e w' => e = .returned (.bool true) ∧ Below w.heap.size w w' := by
  obtain ⟨i0, hi, hz0, hz1, hz2⟩ := info_parts infoS
  have HI := hide hi
  have HZ := hide (And.intro hz0 (And.intro hz1 hz2))
  have HSS := hide hs
  clear hi hz0 hz1 hz2 hs
  go_enter Try.func7, Try.ntmps7
  go_wp2_with fail
  refine (sanity_true w).mono ?_
  rintro e w1 ⟨rfl, B1⟩
  go_wp2_with fail
  refine (list_any a n c hn S HSS.out _ (hS.below B1 (Nat.le_refl _))).mono ?_
  rintro e w2 ⟨v, rfl, ho, hb2⟩
  have B2 := B1.trans (hb2.mono B1.size)
  obtain ⟨m, hm⟩ : ∃ m, min n 20 = m := ⟨_, rfl⟩
  have hm20 : m ≤ 20 := by omega
  rw [hm] at ho
  have hof : OwnS w2 w1.heap.size v m (padF S m) := ho.congr fun k hk => by rw [padF, if_pos hk]
  have HO := hide hof
  clear ho hof hm
  go_wp2_with fail
  rw [hr]
  clear hr
  go_loopw [0] (fun v wr => ∃ j : Nat, m ≤ j ∧ j ≤ max m 16 ∧ OwnS wr w1.heap.size v j (padF S m) ∧ Below w1.heap.size w1 wr) (fun v _ => 16 - lenOf v)
  case atStart => exact ⟨m, Nat.le_refl _, by omega, HO.out, hb2⟩
  case round =>
    obtain ⟨j, hj1, hj2, hown, hB⟩ := hrel
    have hform := hown.form
    have HO := hide hown
    clear hown
    by_cases hjn : j < 16
    · have hjn' : (j : Int) < 16 := by omega
      have HP : Hid (([] : List UInt8) = padF S m j) := by show _ = _; rw [padF, if_neg (by omega)]
      have BA := hB.trans ((below_alloc' wr (.cells #[.string ⟨#[]⟩] 9)).mono hB.size)
      have HO3 := hide ((show wr.ownsRow _ _ _ _ _ _ from HO.out).alloc (.cells #[.string ⟨#[]⟩] 9))
      have fin : ∀ (v' : Value) (w4 : World), w4.ownsRow w1.heap.size 9 1 v' (j + 1) (((List.range j).map fun k => str (padF S m k)) ++ [.string ⟨#[]⟩]) → OwnS w4 w1.heap.size v' (j + 1) (padF S m) := fun v' w4 h => OwnS.snoc (l := []) h HP.out
      have HF := hide fin
      clear fin
      rcases hform with ⟨rfl, rfl⟩ | ⟨g, cap, rfl, hg, hjc, hcm, hst⟩
      all_goals
        go_wp2_with (at_builtin; refine wpList_append_own _ rfl _ _ 29 rfl w1.heap.size 9 i0 (.string ⟨#[]⟩) 1 16 Try.underlying29 HI.out HZ.out.1 HZ.out.2.1 HZ.out.2.2 rfl (by decide) _ _ _ rfl HO3.out ⟨wr.heap.size, 0, none⟩ 1 1 [.string ⟨#[]⟩] rfl rfl (cell_one_new _ _ _) (one_str []) (by unfold maxLen; omega) (by omega) BA.size ?_)
        intro v' w4 hown4 hgrow4 _
        have B4 : Below w1.heap.size w1 w4 := BA.grown hgrow4 BA.size (fun k' hk' => (HO3.out.lt k' hk').1)
        have HO5 := HF.out v' w4 hown4
        obtain ⟨a5, cap5, rfl, -⟩ := HO5.strs
        have HO4 := hide HO5
        clear hown4 hgrow4 HO5
        go_wp2_with fail
        go_roundw
        case rel => exact ⟨_, by omega, by omega, HO4.out, B4⟩
        case measure => simp only [lenOf]; omega
    · have hjn' : ¬ (j : Int) < 16 := by omega
      rcases hform with ⟨rfl, rfl⟩ | ⟨g, cap, rfl, hg, hjc, hcm, hst⟩
      · omega
      obtain ⟨wo, rfl⟩ : ∃ wo : World, wo = wr := ⟨_, rfl⟩
      have hst' := hst.mono (show 16 ≤ j by omega)
      have hc1 : (16 : Int) ≤ (cap : Int) := by omega
      have hc2 : ¬ cap = 8 := by omega
      have HST := hide hst'
      clear hst hst'
      go_wp2_with fail
      go_region
      have hleaf : wo.cell? ⟨g, 8, none⟩ = some (str (padF S m 8)) := HST.out.at (by omega)
      have hpl := pad_len S m 8
      have hp1 : (padF S m 8).length ≤ 1000 := by omega
      have hR : rootOf (fun k => ⟨(padF S m k).toArray⟩) 16 = dig (2 :: (rootOf (fun k => ⟨(padF S m k).toArray⟩) 8 ++ rootOf (fun k => ⟨(padF S m (8 + k)).toArray⟩) 8)) := root_halves 3 (fun k => ⟨(padF S m k).toArray⟩)
      have hN : rootOf (fun k => ⟨(padF S m k).toArray⟩) 9 = dig (2 :: (rootOf (fun k => ⟨(padF S m k).toArray⟩) 8 ++ dig (oneP (padF S m 8) 3))) := root_next 3 (fun k => ⟨(padF S m k).toArray⟩)
      have HR := hide hR
      have HN := hide hN
      have hG : ∀ k, (⟨(padF S m k).toArray⟩ : ByteArray).size ≤ 9223372036854775807 := fun k => by rw [size_mk]; have := pad_len S m k; omega
      have HG := hide hG
      clear hR hN hG
      go_wp2_with fail
      refine (missing_none _).mono ?_
      rintro e x1 ⟨rfl, hx1⟩
      have D1 : Below w1.heap.size w1 x1 := hB.trans (below_drewL (hx1.mono hB.size))
      have T1 : Strs x1 (some ⟨g, 0, none⟩) 16 (fun k => ⟨(padF S m k).toArray⟩) := HST.out.drew.below hx1 (Nat.le_refl _)
      go_wp2_with fail
      refine wp_loop_rounds 4 ?_
      rw [rounds_succ]
      go_wp2_with fail
      refine (inner_none 0 _).mono ?_
      rintro e x2 ⟨rfl, hx2⟩
      have D2 := D1.trans (hx2.mono D1.size)
      have T2 := T1.below hx2 (Nat.le_refl _)
      clear T1 D1 hx2
      go_wp2_with fail
      rw [rounds_succ]
      go_wp2_with fail
      refine (inner_none 1 _).mono ?_
      rintro e x3 ⟨rfl, hx3⟩
      have D3 := D2.trans (hx3.mono D2.size)
      have T3 := T2.below hx3 (Nat.le_refl _)
      clear T2 D2 hx3
      go_wp2_with fail
      rw [rounds_succ]
      go_wp2_with fail
      refine (inner_none 2 _).mono ?_
      rintro e x4 ⟨rfl, hx4⟩
      have D4 := D3.trans (hx4.mono D3.size)
      have T4 := T3.below hx4 (Nat.le_refl _)
      clear T3 D3 hx4
      go_wp2_with fail
      rw [rounds_succ]
      have hl4 : x4.cell? ⟨g, 8, none⟩ = some (str (padF S m 8)) := T4.at (by omega)
      go_wp2_with fail
      refine (leaf_one (padF S m 8) hp1 _).mono ?_
      rintro e x5 ⟨rfl, hx5⟩
      have D5 := D4.trans (hx5.mono D4.size)
      have T5 := T4.below hx5 (Nat.le_refl _)
      clear T4 D4 hx5
      go_wp2_with fail
      refine (missing_none _).mono ?_
      rintro e x6 ⟨rfl, hx6⟩
      have D6 := D5.trans (hx6.mono D5.size)
      have T6 := T5.below hx6 (Nat.le_refl _)
      clear T5 D5 hx6
      go_wp2_with fail
      refine wp_loop_rounds 4 ?_
      rw [rounds_succ]
      go_wp2_with fail
      refine (inner_one (padF S m 8) 0 _).mono ?_
      rintro e x7 ⟨rfl, hx7⟩
      have D7 := D6.trans (hx7.mono D6.size)
      have T7 := T6.below hx7 (Nat.le_refl _)
      clear T6 D6 hx7
      go_wp2_with fail
      refine (inner_none 0 _).mono ?_
      rintro e x8 ⟨rfl, hx8⟩
      have D8 := D7.trans (hx8.mono D7.size)
      have T8 := T7.below hx8 (Nat.le_refl _)
      clear T7 D7 hx8
      go_wp2_with fail
      rw [rounds_succ]
      go_wp2_with fail
      refine (inner_one (padF S m 8) 1 _).mono ?_
      rintro e x9 ⟨rfl, hx9⟩
      have D9 := D8.trans (hx9.mono D8.size)
      have T9 := T8.below hx9 (Nat.le_refl _)
      clear T8 D8 hx9
      go_wp2_with fail
      refine (inner_none 1 _).mono ?_
      rintro e x10 ⟨rfl, hx10⟩
      have D10 := D9.trans (hx10.mono D9.size)
      have T10 := T9.below hx10 (Nat.le_refl _)
      clear T9 D9 hx10
      go_wp2_with fail
      rw [rounds_succ]
      go_wp2_with fail
      refine (inner_one (padF S m 8) 2 _).mono ?_
      rintro e x11 ⟨rfl, hx11⟩
      have D11 := D10.trans (hx11.mono D10.size)
      have T11 := T10.below hx11 (Nat.le_refl _)
      clear T10 D10 hx11
      go_wp2_with fail
      refine (inner_none 2 _).mono ?_
      rintro e x12 ⟨rfl, hx12⟩
      have D12 := D11.trans (hx12.mono D11.size)
      have T12 := T11.below hx12 (Nat.le_refl _)
      clear T11 D11 hx12
      go_wp2_with fail
      rw [rounds_succ]
      go_wp2_with fail
      refine (root_any (some ⟨g, 0, none⟩) 16 cap (by omega) (fun k => ⟨(padF S m k).toArray⟩) (fun k _ => HG.out k) _ T12).mono ?_
      rintro e x13 ⟨rfl, hx13⟩
      have D13 := D12.trans (hx13.mono D12.size)
      have T13 := T12.below hx13 (Nat.le_refl _)
      clear T12 D12 hx13
      rw [HR.out]
      go_wp2_with fail
      refine (root_any (some ⟨g, 0, none⟩) 8 cap (by omega) (fun k => ⟨(padF S m k).toArray⟩) (fun k _ => HG.out k) _ (T13.mono (by omega))).mono ?_
      rintro e x14 ⟨rfl, hx14⟩
      have D14 := D13.trans (hx14.mono D13.size)
      have T14 := T13.below hx14 (Nat.le_refl _)
      clear T13 D13 hx14
      go_wp2_with fail
      refine (root_any (some ⟨g, 8, none⟩) 8 (cap - 8) (by omega) (fun k => ⟨(padF S m (8 + k)).toArray⟩) (fun k _ => HG.out _) _ (T14.from (by omega))).mono ?_
      rintro e x15 ⟨rfl, hx15⟩
      have D15 := D14.trans (hx15.mono D14.size)
      have T15 := T14.below hx15 (Nat.le_refl _)
      clear T14 D14 hx15
      go_wp2_with fail
      refine (inner_l (rootOf (fun k => ⟨(padF S m k).toArray⟩) 8) (rootOf (fun k => ⟨(padF S m (8 + k)).toArray⟩) 8) (root_len8 _ _) (root_len8 _ _) _).mono ?_
      rintro e x16 ⟨rfl, hx16⟩
      have D16 := D15.trans (hx16.mono D15.size)
      have T16 := T15.below hx16 (Nat.le_refl _)
      clear T15 D15 hx16
      go_wp2_with fail
      refine (root_any (some ⟨g, 0, none⟩) 9 cap (by omega) (fun k => ⟨(padF S m k).toArray⟩) (fun k _ => HG.out k) _ (T16.mono (by omega))).mono ?_
      rintro e x17 ⟨rfl, hx17⟩
      have D17 := D16.trans (hx17.mono D16.size)
      have T17 := T16.below hx17 (Nat.le_refl _)
      clear T16 D16 hx17
      rw [HN.out]
      go_wp2_with fail
      refine (root_any (some ⟨g, 0, none⟩) 8 cap (by omega) (fun k => ⟨(padF S m k).toArray⟩) (fun k _ => HG.out k) _ (T17.mono (by omega))).mono ?_
      rintro e x18 ⟨rfl, hx18⟩
      have D18 := D17.trans (hx18.mono D17.size)
      have T18 := T17.below hx18 (Nat.le_refl _)
      clear T17 D17 hx18
      go_wp2_with fail
      refine (inner_l (rootOf (fun k => ⟨(padF S m k).toArray⟩) 8) (dig (oneP (padF S m 8) 3)) (root_len8 _ _) (dig_len8 _) _).mono ?_
      rintro e x19 ⟨rfl, hx19⟩
      have D19 := D18.trans (hx19.mono D18.size)
      have T19 := T18.below hx19 (Nat.le_refl _)
      clear T18 D18 hx19
      go_wp2
      go_ret
      exact ⟨rfl, B1.trans (D19.mono B1.size)⟩


theorem halves_true (lv : Nat) (hlv : lv < 256) (a : Option Addr) (n c : Nat) (hn : n ≤ 9223372036854775807) (S : Nat → ByteArray) (hs : ∀ j, j < n → (S j).size ≤ 9223372036854775807) (w : World) (hS : Strs w a n S) :
    Calls Try.prog 7 #[.slice a n c, .int .u8 (lv : Int)] w fun e w' => e = .returned (.bool true) ∧ Below w.heap.size w w' := by
  rcases (show (lv : Int) % 4 = 0 ∨ (lv : Int) % 4 = 1 ∨ (lv : Int) % 4 = 2 ∨ (lv : Int) % 4 = 3 by omega) with h | h | h | h
  · exact halves_0 lv hlv h a n c hn S hs w hS
  · exact halves_1 lv hlv h a n c hn S hs w hS
  · exact halves_2 lv hlv h a n c hn S hs w hS
  · exact halves_3 lv hlv h a n c hn S hs w hS
end Go.Proofs.Ytmiidniihbhkdaa
