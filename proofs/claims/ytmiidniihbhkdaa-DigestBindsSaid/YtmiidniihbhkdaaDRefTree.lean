/- The reference's levels. -/
import Derived.Test.YtmiidniihbhkdaaDDiffer
import Derived.Test.YtmiidniihbhkdaaDLevels
import Derived.Deep.AppendLies
import Derived.Deep.RegionLaw
import Derived.Laws.OwnMore
import Derived.OwnWalk
import Derived.IntWalk
import Derived.Deep.RegionHeld3
import Derived.Outline
namespace Go.Proofs.Ytmiidniihbhkdaa
open Go.RowKit

theorem infoS : (Try.prog.info? 9).map (fun i => (i.zero, i.size, i.bytes)) = some (some (.string ⟨#[]⟩), 1, 16) := by kernel_rfl
theorem refInner_dig (l1 l2 : List UInt8) (w : World) : Calls Try.prog 26 #[str (dig l1), str (dig l2)] w fun e w' => e = .returned (str (dig (2 :: (dig l1 ++ dig l2)))) ∧ Below w.heap.size w w' :=
  refInner_any _ (by rw [size_mk, dig_len]; decide) _ (by rw [size_mk, dig_len]; decide) w
/-- a slice of the call's own holds the strings f 0 .. f (n - 1) -/
def OwnS (w : World) (base : Nat) (v : Value) (n : Nat) (f : Nat → List UInt8) : Prop := w.ownsRow base 9 1 v n ((List.range n).map fun k => str (f k))
theorem OwnS.strs {w : World} {base : Nat} {v : Value} {n : Nat} {f : Nat → List UInt8} (h : OwnS w base v n f) : ∃ a cap, v = .slice a n cap ∧ Strs w a n (fun k => ⟨(f k).toArray⟩) := by
  have h' := h
  rcases h.2 with ⟨rfl, rfl⟩ | ⟨g, cap, cur, rfl, hb, hg, hn, hc, hs, ht⟩
  · exact ⟨none, 0, rfl, .inl rfl⟩
  · refine ⟨_, cap, rfl, .inr ⟨g, 0, rfl, fun j hj => ?_⟩⟩
    have hcur : cur.toList[j]? = some (str (f j)) := by
      have := congrArg (fun l => l[j]?) ht
      simp only [Nat.mul_one, List.getElem?_take, if_pos hj] at this
      rw [this, List.getElem?_map, List.getElem?_range hj]
      rfl
    simp [World.cell?, hg, ← hcur]
theorem OwnS.snoc {w : World} {base : Nat} {v : Value} {n : Nat} {f : Nat → List UInt8} {l : List UInt8} (h : w.ownsRow base 9 1 v (n + 1) (((List.range n).map fun k => str (f k)) ++ [str l])) (hl : l = f n) : OwnS w base v (n + 1) f := by
  unfold OwnS
  rw [List.range_succ, List.map_append, List.map_cons, List.map_nil, ← hl]
  exact h

theorem ownsRow_below {W W' : World} {base : Nat} {e : TypeId} {size : Nat} {v : Value} {n : Nat} {xs : List Value} (h : W.ownsRow base e size v n xs) (t : Below W.heap.size W W') : W'.ownsRow base e size v n xs := by
  refine ⟨h.1, ?_⟩
  rcases h.2 with h' | ⟨g, cap, cur, hv, hb, hg, hr⟩
  · exact .inl h'
  · exact .inr ⟨g, cap, cur, hv, hb, (t.block g (Array.getElem?_eq_some_iff.1 hg).1).trans hg, hr⟩
theorem below_alloc' (w : World) (o : Obj) : Below w.heap.size w (w.alloc o) := (Below.refl _ w).alloc (Nat.le_refl _) o
theorem one_str (l : List UInt8) : ∀ u ∈ [str l], u.oneCell' = true := by intro u hu; simp at hu; subst hu; rfl
theorem cell_own_ne {W W' : World} {base : Nat} {v : Value} {n : Nat} {xs : List Value} {e : TypeId} {a : Addr} {x : Value} (h : W.ownsRow base e 1 v n xs) (hg : W.grownBy W' v.ownBlock) (hc : W.cell? a = some x) (hb : a.block < base) : W'.cell? a = some x :=
  (hg.cell_far a (lt_of_cell hc) (fun e => by have := (h.lt _ e.symm).1; omega)).trans hc

set_option maxRecDepth 100000 in
set_option maxHeartbeats 2000000 in
theorem refAbove_any (a : Option Addr) (n c : Nat) (hn : n ≤ 1099511627776) (P : Nat → List UInt8) (w : World) (hS : Strs w a n (fun k => ⟨(dig (P k)).toArray⟩)) :
    Calls Try.prog 37 #[.slice a n c] w fun e w' => ∃ v, e = .returned v ∧ OwnS w' w.heap.size v (n / 2) (fun k => dig (upP P k)) ∧ Below w.heap.size w w' := by
  obtain ⟨i0, hi, hz0, hz1, hz2⟩ := info_parts infoS
  have HI := hide hi
  have HZ := hide (And.intro hz0 (And.intro hz1 hz2))
  clear hi hz0 hz1 hz2
  go_enter Try.func37, Try.ntmps37
  go_wp2_with fail
  go_loopw [3, 4] (fun v i wr => ∃ k : Nat, 2 * k ≤ n ∧ i = .int .i64 (2 * (k : Int)) ∧ OwnS wr w.heap.size v k (fun k => dig (upP P k)) ∧ Below w.heap.size w wr) (fun _ i _ => n + 2 - (intOf i).toNat)
  case atStart => exact ⟨0, by omega, by simp, World.ownsRow_nil _ _ _ _, Below.refl _ _⟩
  case round =>
    obtain ⟨k, hk, rfl, hown, hB⟩ := hrel
    by_cases hlt : 2 * k + 1 < n
    · obtain ⟨b, off, rfl, hc⟩ : ∃ b off, a = some ⟨b, off, none⟩ ∧ ∀ j, j < n → wr.cell? ⟨b, off + j, none⟩ = some (str (dig (P j))) := by
        rcases hS.below hB (Nat.le_refl _) with h | h
        · omega
        · exact h
      have ha := hc (2 * k) (by omega)
      have hb := hc (2 * k + 1) (by omega)
      have HC := hide hc
      have HO := hide hown
      clear hc hown
      have hbw : b < w.heap.size := by
        rcases hS with h | ⟨b', off', e, h⟩
        · omega
        · cases e; exact lt_of_cell (h 0 (by omega))
      have hlt' : 2 * (k : Int) + 1 < (n : Int) := by omega
      have hi0 : 2 * (k : Int) < (n : Int) := by omega
      have hi1 : (0 : Int) ≤ 2 * (k : Int) := by omega
      have ht1 : (2 * (k : Int)).toNat = 2 * k := by omega
      have hw2 : IntKind.i64.wrap (2 * (k : Int) + 1) = 2 * (k : Int) + 1 := IntWalk.i64_in _ (by omega)
      have ht2 : (2 * (k : Int) + 1).toNat = 2 * k + 1 := by omega
      have hi3 : (0 : Int) ≤ 2 * (k : Int) + 1 := by omega
      have HSZ := hide hB.size
      go_wp2_with fail
      have K0 : wr.drew.cell? ⟨b, off + 2 * k, none⟩ = some (str (dig (P (2 * k)))) ∧ wr.drew.cell? ⟨b, off + (2 * k + 1), none⟩ = some (str (dig (P (2 * k + 1)))) := ⟨ha, hb⟩
      go_region_held3 (fun w' => w'.cell? ⟨b, off + 2 * k, none⟩ = some (str (dig (P (2 * k)))) ∧ w'.cell? ⟨b, off + (2 * k + 1), none⟩ = some (str (dig (P (2 * k + 1)))))
        (first | with_reducible exact K0 | with_reducible exact K1 | with_reducible exact K3 | go_keep)
        (first
          | (go_at_call 26; (with_reducible refine (refInner_dig (P (2 * k)) (P (2 * k + 1)) _).mono ?_); rintro e w3 ⟨rfl, hb3⟩; have K1 : w3.cell? ⟨b, off + 2 * k, none⟩ = some (str (dig (P (2 * k)))) ∧ w3.cell? ⟨b, off + (2 * k + 1), none⟩ = some (str (dig (P (2 * k + 1)))) := ⟨(hb3.cell (p := ⟨b, off + 2 * k, none⟩) (lt_of_cell ha)).trans ha, (hb3.cell (p := ⟨b, off + (2 * k + 1), none⟩) (lt_of_cell hb)).trans hb⟩)
          | (refine step_append_lies _ rfl (.tmp 12) (.tmp 23) 29 rfl w.heap.size 9 i0 (.string ⟨#[]⟩) 1 16 Try.underlying29 HI.out HZ.out.1 HZ.out.2.1 HZ.out.2.2 rfl (by decide) _ _ _ rfl ((ownsRow_below (show wr.drew.ownsRow _ _ _ _ _ _ from HO.out) hb3).alloc _) ⟨w3.heap.size, 0, none⟩ 1 1 [str (dig (upP P k))] rfl rfl (cell_one_new _ _ _) (one_str _) (by decide) (by unfold maxLen; omega) (by omega) (Nat.le_trans (Nat.le_trans HSZ.out hb3.size) (below_alloc' w3 _).size) _ rfl ?_; intro g cap w4 hown4 hgrow4 hat4 hlt4; have hA := below_alloc' w3 (.cells #[str (dig (upP P k))] 9); have hO3 := (ownsRow_below (show wr.drew.ownsRow _ _ _ _ _ _ from HO.out) hb3).alloc (.cells #[str (dig (upP P k))] 9); have K3 : w4.cell? ⟨b, off + 2 * k, none⟩ = some (str (dig (P (2 * k)))) ∧ w4.cell? ⟨b, off + (2 * k + 1), none⟩ = some (str (dig (P (2 * k + 1)))) := ⟨cell_own_ne hO3 hgrow4 ((hA.cell (p := ⟨b, off + 2 * k, none⟩) (lt_of_cell K1.1)).trans K1.1) hbw, cell_own_ne hO3 hgrow4 ((hA.cell (p := ⟨b, off + (2 * k + 1), none⟩) (lt_of_cell K1.2)).trans K1.2) hbw⟩))
      have B3 : Below w.heap.size w w3 := hB.trans (below_drewL (hb3.mono hB.size))
      have B4 : Below w.heap.size w w4 := (B3.trans (hA.mono B3.size)).grown hgrow4 (Nat.le_trans B3.size hA.size) (fun k' hk' => (hO3.lt k' hk').1)
      have HO4 := hide hown4
      clear K0 K1 K3 ha hb hown4 hgrow4 hO3 ht1 ht2 hw2 hat4
      go_wp2_with fail
      go_roundw
      case rel => exact ⟨k + 1, by omega, by go_num, OwnS.snoc HO4.out rfl, B4⟩
      case measure => simp [intOf]; omega
    · have hlt' : ¬ 2 * (k : Int) + 1 < (n : Int) := by omega
      have e : n / 2 = k := by omega
      have HO := hide hown
      have HE := hide e
      clear hown e
      go_wp2_with fail
      go_ret
      exact ⟨_, rfl, by rw [HE.out]; exact HO.out, hB⟩

theorem refLeaf_l (s : ByteArray) (hs : s.size ≤ 274877906944) (w : World) : Calls Try.prog 24 #[.string s] w fun e w' => e = .returned (str (dig (1 :: bs s))) ∧ Below w.heap.size w w' := refLeaf_any s hs w
theorem refMissing_l (w : World) : Calls Try.prog 28 #[] w fun e w' => e = .returned (str (dig [3])) ∧ Below w.heap.size w w' := refMissing_any w

set_option maxRecDepth 100000 in
set_option maxHeartbeats 2000000 in
theorem refLowest_any (a : Option Addr) (n c : Nat) (hn : n ≤ 1099511627776) (S : Nat → ByteArray) (hs : ∀ j, j < n → (S j).size ≤ 274877906944) (w : World) (hS : Strs w a n S) :
    Calls Try.prog 36 #[.slice a n c] w fun e w' => ∃ v, e = .returned v ∧ OwnS w' w.heap.size v (2 ^ lg n) (fun k => dig (lowP S n k)) ∧ Below w.heap.size w w' := by
  obtain ⟨i0, hi, hz0, hz1, hz2⟩ := info_parts infoS
  have HI := hide hi
  have HZ := hide (And.intro hz0 (And.intro hz1 hz2))
  have HSS := hide hs
  clear hi hz0 hz1 hz2 hs
  go_enter Try.func36, Try.ntmps36
  go_wp2_with fail
  go_loopw [3, 4] (fun v i wr => ∃ k : Nat, k ≤ n ∧ i = .int .i64 (k : Int) ∧ OwnS wr w.heap.size v k (fun k => dig (lowP S n k)) ∧ Below w.heap.size w wr) (fun _ i _ => n - (intOf i).toNat)
  case atStart => exact ⟨0, by omega, rfl, World.ownsRow_nil _ _ _ _, Below.refl _ _⟩
  case round =>
    obtain ⟨k, hk, rfl, hown, hB⟩ := hrel
    by_cases hlt : k < n
    · obtain ⟨b, off, rfl, hc⟩ : ∃ b off, a = some ⟨b, off, none⟩ ∧ ∀ j, j < n → wr.cell? ⟨b, off + j, none⟩ = some (.string (S j)) := by
        rcases hS.below hB (Nat.le_refl _) with h | h
        · omega
        · exact h
      have hck := hc k hlt
      have hsk := HSS.out k hlt
      have hlt' : (k : Int) < (n : Int) := by omega
      have HO := hide hown
      have HL : Hid (dig (1 :: bs (S k)) = dig (lowP S n k)) := by show _ = _; rw [lowP, if_pos hlt]
      clear hc hown
      go_wp2_with fail
      refine (refLeaf_l _ hsk _).mono ?_
      rintro e w3 ⟨rfl, hb3⟩
      have B3 := hB.trans (hb3.mono hB.size)
      have O3 := (ownsRow_below (show wr.ownsRow _ _ _ _ _ _ from HO.out) hb3).alloc (.cells #[str (dig (1 :: bs (S k)))] 9)
      have HO3 := hide O3
      have BA := B3.trans ((below_alloc' w3 (.cells #[str (dig (1 :: bs (S k)))] 9)).mono B3.size)
      clear O3
      go_wp2_with (at_builtin; refine wpList_append_own _ rfl _ _ 29 rfl w.heap.size 9 i0 (.string ⟨#[]⟩) 1 16 Try.underlying29 HI.out HZ.out.1 HZ.out.2.1 HZ.out.2.2 rfl (by decide) _ _ _ rfl HO3.out ⟨w3.heap.size, 0, none⟩ 1 1 [str (dig (1 :: bs (S k)))] rfl rfl (cell_one_new _ _ _) (one_str _) (by unfold maxLen; omega) (by omega) BA.size ?_)
      intro v' w4 hown4 hgrow4 _
      have B4 : Below w.heap.size w w4 := BA.grown hgrow4 BA.size (fun k' hk' => (HO3.out.lt k' hk').1)
      have HO4 := hide hown4
      clear hown4 hgrow4 hck
      go_wp2_with fail
      go_roundw
      case rel => exact ⟨k + 1, by omega, by go_num, OwnS.snoc HO4.out HL.out, B4⟩
      case measure => simp [intOf]; omega
    · obtain rfl : k = n := by omega
      have HO := hide hown
      clear hown
      obtain ⟨wo, rfl⟩ : ∃ wo : World, wo = wr := ⟨_, rfl⟩
      have hl := lg_small hn
      go_wp2_with fail
      go_loop [5] (fun x => ∃ (k' m : Nat), k' ≤ lg k ∧ x = .int .i64 (m : Int) ∧ Hid (m = 2 ^ k') ∧ 1 ≤ m ∧ m ≤ 1099511627776) (fun x => k - (intOf x).toNat)
      case atStart => exact ⟨0, 1, Nat.zero_le _, rfl, rfl, by decide, by decide⟩
      case round =>
        obtain ⟨k', m, hk', rfl, hm, hm1, hm2⟩ := hrel
        by_cases hlt2 : m < k
        · have hm0 : m = 2 ^ k' := hm
          have hk1 : k' < lg k := lg_least (by omega)
          have h2 : 2 ^ (k' + 1) ≤ 1099511627776 := pow_small (by omega)
          have h3 : m * 2 ≤ 1099511627776 := by rw [Nat.pow_succ] at h2; omega
          clear hm0 h2
          go_wp2
          go_round
          case rel => exact ⟨k' + 1, m * 2, by omega, by go_num, by show _ = _; rw [show m = 2 ^ k' from hm, Nat.pow_succ], by omega, h3⟩
          case measure => simp [intOf]; omega
        · have hm0 : m = 2 ^ k' := hm
          have e : k' = lg k := by
            rcases Nat.lt_or_ge k' (lg k) with h | h
            · exfalso
              unfold lg at h
              split at h
              · omega
              · have := (Nat.le_log2 (n := k - 1) (k := k') (by omega)).1 (by omega)
                omega
            · omega
          have HE : Hid (m = 2 ^ lg k) := by rw [← e]; exact hm0
          clear hm0 hm e hk'
          go_wp2_with fail
          go_loopw [3] (fun v wr => ∃ j : Nat, k ≤ j ∧ j ≤ m ∧ OwnS wr w.heap.size v j (fun i => dig (lowP S k i)) ∧ Below w.heap.size w wr) (fun v _ => m - (match v with | .slice _ j _ => j | _ => 0))
          case atStart => exact ⟨k, Nat.le_refl _, by omega, HO.out, hB⟩
          case round =>
            obtain ⟨j, hj1, hj2, hown, hB⟩ := hrel
            obtain ⟨a', cap', rfl, -⟩ := hown.strs
            have HO := hide hown
            clear hown
            by_cases hjm : j < m
            · have hjm' : (j : Int) < (m : Int) := by omega
              have HL : Hid (dig [3] = dig (lowP S k j)) := by show _ = _; rw [lowP, if_neg (by omega)]
              go_wp2_with fail
              refine (refMissing_l _).mono ?_
              rintro e w3 ⟨rfl, hb3⟩
              have B3 := hB.trans (hb3.mono hB.size)
              have O3 := (ownsRow_below (show wr.ownsRow _ _ _ _ _ _ from HO.out) hb3).alloc (.cells #[str (dig [3])] 9)
              have HO3 := hide O3
              have BA := B3.trans ((below_alloc' w3 (.cells #[str (dig [3])] 9)).mono B3.size)
              clear O3
              go_wp2_with (at_builtin; refine wpList_append_own _ rfl _ _ 29 rfl w.heap.size 9 i0 (.string ⟨#[]⟩) 1 16 Try.underlying29 HI.out HZ.out.1 HZ.out.2.1 HZ.out.2.2 rfl (by decide) _ _ _ rfl HO3.out ⟨w3.heap.size, 0, none⟩ 1 1 [str (dig [3])] rfl rfl (cell_one_new _ _ _) (one_str _) (by unfold maxLen; omega) (by omega) BA.size ?_)
              intro v' w4 hown4 hgrow4 _
              have B4 : Below w.heap.size w w4 := BA.grown hgrow4 BA.size (fun k' hk' => (HO3.out.lt k' hk').1)
              have HO5 : OwnS w4 w.heap.size v' (j + 1) (fun i => dig (lowP S k i)) := OwnS.snoc hown4 HL.out
              obtain ⟨a5, cap5, rfl, -⟩ := HO5.strs
              have HO4 := hide HO5
              clear hown4 hgrow4 HO5
              go_wp2_with fail
              go_roundw
              case rel => exact ⟨j + 1, by omega, by omega, HO4.out, B4⟩
              case measure => show m - (j + 1) < m - j; omega
            · have hjm' : ¬ (j : Int) < (m : Int) := by omega
              obtain rfl : j = m := by omega
              go_wp2_with fail
              go_ret
              exact ⟨_, rfl, by rw [← show j = _ from HE.out]; exact HO.out, hB⟩

set_option maxRecDepth 100000 in
set_option maxHeartbeats 2000000 in
theorem refRoot_any (a : Option Addr) (n c : Nat) (hn : n ≤ 1099511627776) (S : Nat → ByteArray) (hs : ∀ j, j < n → (S j).size ≤ 274877906944) (w : World) (hS : Strs w a n S) :
    Calls Try.prog 22 #[.slice a n c] w fun e w' => e = .returned (str (rootOf S n)) ∧ Below w.heap.size w w' := by
  have hl := lg_small hn
  go_enter Try.func22, Try.ntmps22
  go_wp2_with fail
  refine (refLowest_any a n c hn S hs _ hS).mono ?_
  rintro e w1 ⟨v1, rfl, ho1, hb1⟩
  obtain ⟨a1, c1, rfl, hs1⟩ := ho1.strs
  clear ho1
  go_wp2_with fail
  go_loopw [3] (fun v wr => ∃ (k m : Nat) (a : Option Addr) (c : Nat), k ≤ lg n ∧ Hid (m = 2 ^ (lg n - k)) ∧ 1 ≤ m ∧ m ≤ 1099511627776 ∧ v = .slice a m c ∧ Strs wr a m (fun j => ⟨(dig (climbP (lowP S n) k j)).toArray⟩) ∧ Below w.heap.size w wr) (fun v _ => match v with | .slice _ j _ => j | _ => 0)
  case atStart => exact ⟨0, _, a1, c1, Nat.zero_le _, rfl, Nat.two_pow_pos _, pow_small hl, rfl, hs1, hb1⟩
  case round =>
    obtain ⟨k, m, a, c, hk, hm, hm1, hm2, rfl, hst, hB⟩ := hrel
    by_cases hlt : 1 < m
    · have hlt' : (1 : Int) < (m : Int) := by omega
      have hm0 : m = 2 ^ (lg n - k) := hm
      have hk1 : k < lg n := by
        rcases Nat.lt_or_ge k (lg n) with h | h
        · exact h
        · rw [show lg n - k = 0 from by omega] at hm0; omega
      have hm' : Hid (m / 2 = 2 ^ (lg n - (k + 1))) := by show _ = _; rw [hm0, pow_step hk1]; omega
      have h2 : 1 ≤ m / 2 := by omega
      have HB := hide hB
      have HST := hide hst
      clear hm0 hm hst
      go_wp2_with fail
      refine (refAbove_any a m c hm2 _ _ HST.out).mono ?_
      rintro e w3 ⟨v3, rfl, ho3, hb3⟩
      obtain ⟨a3, c3, rfl, hs3⟩ := ho3.strs
      have B3 := HB.out.trans (hb3.mono HB.out.size)
      have HS3 := hide hs3
      clear ho3 hs3
      go_wp2_with fail
      go_roundw
      case rel => exact ⟨k + 1, m / 2, a3, c3, by omega, hm', h2, by omega, rfl, HS3.out, B3⟩
      case measure => show m / 2 < m; omega
    · have hlt' : ¬ (1 : Int) < (m : Int) := by omega
      have hm0 : m = 2 ^ (lg n - k) := hm
      have hk1 : k = lg n := by
        rcases Nat.lt_or_ge k (lg n) with h | h
        · exfalso; rw [pow_step h] at hm0; have := Nat.two_pow_pos (lg n - (k + 1)); omega
        · omega
      subst hk1
      obtain ⟨b, off, rfl, hc⟩ : ∃ b off, a = some ⟨b, off, none⟩ ∧ ∀ j, j < m → wr.cell? ⟨b, off + j, none⟩ = some (str (dig (climbP (lowP S n) (lg n) j))) := by
        rcases hst with h | h
        · omega
        · exact h
      have hc0 : wr.cell? ⟨b, off, none⟩ = some (str (dig (climbP (lowP S n) (lg n) 0))) := hc 0 (by omega)
      have hi : (0 : Int) < (m : Int) := by omega
      clear hm0 hm hc hst
      go_wp2_with fail
      go_ret
      exact ⟨rfl, hB⟩
end Go.Proofs.Ytmiidniihbhkdaa
