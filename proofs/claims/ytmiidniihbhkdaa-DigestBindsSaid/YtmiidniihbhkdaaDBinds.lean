/- The law DigestBinds is true. -/
import Derived.Test.YtmiidniihbhkdaaDBindsM
import Derived.Test.YtmiidniihbhkdaaDHalves
import Derived.Outline
namespace Go.Proofs.Ytmiidniihbhkdaa
open Go.RowKit

/-- the list's strings, as they lie in memory -/
def strsOf (F : Nat → List UInt8) (n : Nat) : List Value := (List.range n).map fun k => str (F k)
theorem strsOf_one (F : Nat → List UInt8) (n : Nat) : ∀ u ∈ strsOf F n, u.oneCell' = true := by
  intro u hu
  obtain ⟨k, _, rfl⟩ := List.mem_map.1 hu
  rfl
theorem strsOf_len (F : Nat → List UInt8) (n : Nat) : (strsOf F n).length = n := by simp [strsOf]
theorem strsOf_cells {w : World} {g n : Nat} {F : Nat → List UInt8} (h : Strs w (some ⟨g, 0, none⟩) n (fun k => ⟨(F k).toArray⟩)) : ∀ j u, (strsOf F n)[j]? = some u → w.cell? ((⟨g, 0, none⟩ : Addr).add j) = some u := by
  intro j u hu
  have hj : j < n := by have := (List.getElem?_eq_some_iff.1 hu).1; rwa [strsOf_len] at this
  rw [addr_add, h.at hj, ← hu, strsOf, List.getElem?_map, List.getElem?_range hj]
  rfl

theorem Chg3.with {w : World} {B g i ic bc : Nat} {tc : ByteArray} {l : List UInt8} (c : Chg3 w B ic bc tc) (h : w.cell? ⟨g, i, none⟩ = some (str l)) : w.cell? ⟨B, 0, none⟩ = some (.int .u8 (ic : Int)) ∧ w.cell? ⟨B, 1, none⟩ = some (.int .u8 (bc : Int)) ∧ w.cell? ⟨B, 2, none⟩ = some (.string tc) ∧ w.cell? ⟨g, i, none⟩ = some (str l) := ⟨c.1, c.2.1, c.2.2, h⟩
theorem Chg3.setFar {w : World} {B g i ic bc : Nat} {tc : ByteArray} (c : Chg3 w B ic bc tc) (v : Value) (hne : g ≠ B) : Chg3 (w.setCell ⟨g, i, none⟩ v) B ic bc tc :=
  ⟨(cell_setCell_ne _ _ _ _ (fun e => hne (congrArg Addr.block e).symm) rfl rfl).trans c.1, (cell_setCell_ne _ _ _ _ (fun e => hne (congrArg Addr.block e).symm) rfl rfl).trans c.2.1, (cell_setCell_ne _ _ _ _ (fun e => hne (congrArg Addr.block e).symm) rfl rfl).trans c.2.2⟩

/-- the two paths differ, where no two digests on them have been found equal -/
def Path (P P' : Nat → List UInt8) (i t : Nat) (ne : Prop) (sm : Bool) : Prop := sm = false → dig (climbP P t (i / 2 ^ t)) ≠ dig (climbP P' t (i / 2 ^ t)) ∧ ne
theorem inner_dig (l1 l2 : List UInt8) (w : World) : Calls Try.prog 25 #[str (dig l1), str (dig l2)] w fun e w' => e = .returned (str (dig (2 :: (dig l1 ++ dig l2)))) ∧ Below w.heap.size w w' := inner_l _ _ (dig_len8 _) (dig_len8 _) w
theorem and_i64 {j : Nat} (h0 : 1 ≤ j) (h : j ≤ 1000) : bits BinOp.and .i64 (j : Int) ((j : Int) - 1) = ((j &&& (j - 1) : Nat) : Int) := by
  rw [show (j : Int) - 1 = ((j - 1 : Nat) : Int) by omega]
  exact (bits_nat .i64 63 (by decide) (fun n h0 h1 => IntWalk.i64_in n (by omega)) j (j - 1) (by omega) (by omega)).1

set_option maxRecDepth 100000 in
set_option maxHeartbeats 8000000 in
theorem binds_true (a : Option Addr) (n c : Nat) (hn : n ≤ 9223372036854775807) (S : Nat → ByteArray) (hs : ∀ j, j < n → (S j).size ≤ 9223372036854775807) (wh ic bc : Nat) (tc : ByteArray) (hwh : wh < 256) (hic : ic < 256) (hbc : bc < 256) (htc : tc.size ≤ 9223372036854775807) (w : World) (hS : Strs w a n S) :
    Calls Try.prog 8 #[.slice a n c, .int .u8 (wh : Int), .agg #[.int .u8 (ic : Int), .int .u8 (bc : Int), .string tc]] w fun e w' => e = .returned (.bool true) ∧ Below w.heap.size w w' := by
  obtain ⟨i0, hi, hz0, hz1, hz2⟩ := info_parts infoS
  have HI := hide hi
  have HZ := hide (And.intro hz0 (And.intro hz1 hz2))
  have HSS := hide hs
  have c0 := Chg3.new w ic bc tc 23
  have B0 := below_alloc' w (.cells #[.int .u8 (ic : Int), .int .u8 (bc : Int), .string tc] 23)
  have hS0 := hS.below B0 (Nat.le_refl _)
  clear hi hz0 hz1 hz2 hs hS
  go_enter Try.func8, Try.ntmps8
  go_wp2_with fail
  generalize w.alloc (.cells #[.int .u8 (ic : Int), .int .u8 (bc : Int), .string tc] 23) = W0 at c0 B0 hS0 ⊢
  refine (sanity_true W0).mono ?_
  rintro e w1 ⟨rfl, hb1⟩
  have c1 := c0.below hb1 c0.lt
  have B1 := B0.trans (hb1.mono B0.size)
  go_wp2_with fail
  refine (list_any a n c hn S HSS.out _ (hS0.below hb1 (Nat.le_refl _))).mono ?_
  rintro e w2 ⟨v, rfl, ho, hb2⟩
  have c2 := c1.below hb2 c1.lt
  have B2 := B1.trans (hb2.mono B1.size)
  obtain ⟨m0, hm0⟩ : ∃ m0, min n 20 = m0 := ⟨_, rfl⟩
  have hm20 : m0 ≤ 20 := by omega
  rw [hm0] at ho
  have hform := ho.form
  clear ho hm0 hS0 c0 c1 hb1
  rcases hform with ⟨rfl, rfl⟩ | ⟨g, cap, rfl, hg, hmc, hcm, hst⟩
  · go_wp2
    go_ret
    exact ⟨rfl, B2⟩
  obtain ⟨m, hm⟩ : ∃ m, min m0 16 = m := ⟨_, rfl⟩
  have hmn : min (m0 : Int) 16 = (m : Int) := by omega
  have hm16 : m ≤ 16 := by omega
  have hmm : m ≤ m0 := by omega
  have hstm := hst.mono hmm
  have HST := hide hstm
  have hc1 : (m : Int) ≤ (cap : Int) := by omega
  have hc0 : (0 : Int) ≤ (m : Int) := by omega
  by_cases hmz : m = 0
  · have hz : ((m : Int) == 0) = true := by rw [hmz]; rfl
    clear hmz hm hst hstm
    go_wp2
    go_ret
    exact ⟨rfl, B2⟩
  have hz : ((m : Int) == 0) = false := by rw [beq_eq_false_iff_ne]; omega
  obtain ⟨i, hi⟩ : ∃ i, wh % m = i := ⟨_, rfl⟩
  have him : i < m := by rw [← hi]; exact Nat.mod_lt _ (by omega)
  have hiw : (wh : Int) % (m : Int) = (i : Int) := by rw [← hi]; rfl
  have hm1 : 1 ≤ m := by omega
  have hmi : (0 : Int) < (m : Int) := by omega
  clear hmz hm hst hstm hi
  obtain ⟨F, hF⟩ : ∃ F, cutF S = F := ⟨_, rfl⟩
  have hFl : ∀ k, (F k).length ≤ 30 := fun k => by rw [← hF, cutF, List.length_take]; omega
  rw [hF] at HST
  have HFL := hide hFl
  clear hF hFl
  have HIW := hide hiw
  clear hiw
  have HO0 : Hid ((w2.alloc (.cells #[] 9)).ownsRow w2.heap.size 9 1 (.slice (some ⟨w2.heap.size, 0, none⟩) 0 0) 0 []) := World.ownsRow_made w2 #[] 0 (Nat.le_refl _) (by unfold maxLen; omega) rfl
  have A2 := below_alloc' w2 (.cells #[] 9)
  have HSA := hide (HST.out.below A2 (Nat.le_refl _))
  go_wp2_with (at_builtin; refine wpList_append_lies _ rfl (.tmp 35) (.tmp 36) 29 rfl w2.heap.size 9 i0 (.string ⟨#[]⟩) 1 16 Try.underlying29 HI.out HZ.out.1 HZ.out.2.1 HZ.out.2.2 rfl (by decide) _ _ _ rfl HO0.out ⟨g, 0, none⟩ m cap (strsOf F m) rfl (by rw [strsOf_len]; omega) (strsOf_cells HSA.out) (strsOf_one F m) (by omega) (by unfold maxLen; omega) (by omega) A2.size _ rfl ?_)
  intro g2 cap2 w3 hown3 hgrow3 hat3 hlt3
  have B3 : Below w2.heap.size w2 w3 := A2.grown hgrow3 A2.size (fun k hk => (HO0.out.lt k hk).1)
  have hg2 : w2.heap.size ≤ g2 := by
    rcases hat3 with h | h
    · cases h; exact Nat.le_refl _
    · omega
  have c3 := (c2.below B3 c2.lt).drew
  have HS3 := hide (HST.out.below B3 (Nat.le_refl _))
  have hli : w3.drew.cell? ⟨g, i, none⟩ = some (str (F i)) := HS3.out.drew.at him
  have hoi : w3.drew.cell? ⟨g2, i, none⟩ = some (str (F i)) := by
    rw [World.cell?_drew, hown3.cellAt i (by omega), strsOf, List.getElem?_map, List.getElem?_range him]; rfl
  have HO3 := hide hown3
  have hwg : g2 ≠ g := by have := (HST.out.at him); have := lt_of_cell this; simp only at this; omega
  have hwc : g2 ≠ w.heap.size := by have := c2.lt; omega
  have hi1 : (i : Int) < (m : Int) := by omega
  clear hown3 hgrow3 hat3 A2
  rw [HIW.out]
  go_wp2_with fail
  have K0 := c3.with hli
  have hFi : (F i).length ≤ 1000 := by have := HFL.out i; omega
  have hwl : g < w3.heap.size := lt_of_cell hli
  have hw2 : g2 < w3.heap.size := lt_of_cell hoi
  go_region_held3 (fun w' => w'.cell? ⟨w.heap.size, 0, none⟩ = some (.int .u8 (ic : Int)) ∧ w'.cell? ⟨w.heap.size, 1, none⟩ = some (.int .u8 (bc : Int)) ∧ w'.cell? ⟨w.heap.size, 2, none⟩ = some (.string tc) ∧ w'.cell? ⟨g, i, none⟩ = some (str (F i)))
    (first | with_reducible exact K0 | with_reducible exact K1 | with_reducible exact K2 | go_keep)
    (first
      | (go_at_call 11; (with_reducible refine (change_l ic bc hic hbc tc htc (F i) hFi _).mono ?_); rintro e w4 ⟨rfl, hb4⟩; have c4 := c3.below hb4 c3.lt; have hl4 : w4.cell? ⟨g, i, none⟩ = some (str (F i)) := (hb4.cell (p := ⟨g, i, none⟩) hwl).trans hli; have K1 := c4.with hl4; have q4 : w4.cell? ⟨g2, i, none⟩ = some (str (F i)) := (hb4.cell (p := ⟨g2, i, none⟩) hw2).trans hoi; have z4 : w4.frozen? ⟨g2, i, none⟩ = false := (hb4.frozen (p := ⟨g2, i, none⟩) hw2).trans (HO3.out.frozenAt i); have K2 := (c4.setFar (g := g2) (i := i) (str (chg ic bc (bs tc) (F i))) hwc).with ((cell_setCell_ne w4 ⟨g2, i, none⟩ ⟨g, i, none⟩ (str (chg ic bc (bs tc) (F i))) (fun e => hwg (congrArg Addr.block e).symm) rfl rfl).trans hl4)))
  have hw4 : w3.heap.size ≤ w4.heap.size := hb4.size
  have B4 : Below w.heap.size w w4 := (B2.trans (B3.mono B2.size)).trans (below_drewL (hb4.mono (Nat.le_trans B2.size B3.size)))
  have B5 : Below w.heap.size w (w4.setCell ⟨g2, i, none⟩ (str (chg ic bc (bs tc) (F i)))) := B4.setCell (p := ⟨g2, i, none⟩) (Nat.le_trans B2.size hg2) _
  have hxl : (chg ic bc (bs tc) (F i)).length ≤ 64 := chg_len _ _ _ _ (by have := HFL.out i; omega)
  have hS5 : Strs (w4.setCell ⟨g2, i, none⟩ (str (chg ic bc (bs tc) (F i)))) (some ⟨g, 0, none⟩) m (fun k => ⟨(F k).toArray⟩) := by
    have h4 := HS3.out.drew.below hb4 (Nat.le_refl _)
    exact .inr ⟨g, 0, rfl, fun j hj => by rw [Nat.zero_add, cell_setCell_ne _ _ _ _ (fun e => hwg (congrArg Addr.block e).symm) rfl rfl]; exact h4.at hj⟩
  have hS6 : Strs (w4.setCell ⟨g2, i, none⟩ (str (chg ic bc (bs tc) (F i)))) (some ⟨g2, 0, none⟩) m (fun k => ⟨(if k = i then chg ic bc (bs tc) (F i) else F k).toArray⟩) := by
    have h4 := (ownsRow_below (show w3.drew.ownsRow _ _ _ _ _ _ from HO3.out) hb4)
    refine .inr ⟨g2, 0, rfl, fun j hj => ?_⟩
    rw [Nat.zero_add, cell_put]
    by_cases e : j = i
    · subst e; rw [if_pos ⟨rfl, by rw [q4]; rfl⟩]; simp
    · rw [if_neg (fun h => e h.1)]; simp only [if_neg e]; rw [h4.cellAt j (by omega), strsOf, List.getElem?_map, List.getElem?_range hj]; rfl
  clear K0 K1 K2 q4 z4 hl4 hli hoi c2 c3 c4 hb2 hb4 B3 hw4
  generalize chg ic bc (bs tc) (F i) = X at hxl B5 hS5 hS6 ⊢
  generalize w4.setCell ⟨g2, i, none⟩ (str X) = w5 at B5 hS5 hS6 ⊢
  have HS5 := hide hS5
  have HS6 := hide hS6
  clear hS5 hS6 B4
  obtain ⟨P, hP⟩ : ∃ P, lowP (fun k => ⟨(F k).toArray⟩) m = P := ⟨_, rfl⟩
  have HP := hide hP
  clear hP
  go_wp2_with fail
  go_loopw [10, 49] (fun v x wr => ∃ k : Nat, k ≤ m ∧ x = .int .i64 (k : Int) ∧ OwnS wr w5.heap.size v k (fun k => dig (P k)) ∧ Below w5.heap.size w5 wr) (fun _ x _ => m - (intOf x).toNat)
  case atStart => exact ⟨0, by omega, rfl, World.ownsRow_nil _ _ _ _, Below.refl _ _⟩
  case round =>
    obtain ⟨k, hk, rfl, hown, hB⟩ := hrel
    by_cases hlt : k < m
    · have hlt' : (k : Int) < (m : Int) := by omega
      have hck : wr.cell? ⟨g, k, none⟩ = some (str (F k)) := (HS5.out.below hB (Nat.le_refl _)).at hlt
      have hFk : (F k).length ≤ 1000 := by have := HFL.out k; omega
      have HO := hide hown
      have HL : Hid (dig (1 :: F k) = dig (P k)) := by show _ = _; rw [← HP.out, lowP, if_pos hlt]; rfl
      clear hown
      go_wp2_with fail
      refine (leaf_l (F k) hFk _).mono ?_
      rintro e w6 ⟨rfl, hb6⟩
      have B6 := hB.trans (hb6.mono hB.size)
      have O6 := (ownsRow_below (show wr.ownsRow _ _ _ _ _ _ from HO.out) hb6).alloc (.cells #[str (dig (1 :: F k))] 9)
      have HO6 := hide O6
      have BA := B6.trans ((below_alloc' w6 (.cells #[str (dig (1 :: F k))] 9)).mono B6.size)
      clear O6
      go_wp2_with (at_builtin; refine wpList_append_own _ rfl (.tmp 52) (.tmp 58) 29 rfl w5.heap.size 9 i0 (.string ⟨#[]⟩) 1 16 Try.underlying29 HI.out HZ.out.1 HZ.out.2.1 HZ.out.2.2 rfl (by decide) _ _ _ rfl HO6.out ⟨w6.heap.size, 0, none⟩ 1 1 [str (dig (1 :: F k))] rfl rfl (cell_one_new _ _ _) (one_str _) (by unfold maxLen; omega) (by omega) BA.size ?_)
      intro v' w7 hown7 hgrow7 _
      have B7 : Below w5.heap.size w5 w7 := BA.grown hgrow7 BA.size (fun k' hk' => (HO6.out.lt k' hk').1)
      have HO7 := hide hown7
      clear hown7 hgrow7 hck
      go_wp2_with fail
      go_roundw
      case rel => exact ⟨k + 1, by omega, by go_num, OwnS.snoc HO7.out HL.out, B7⟩
      case measure => simp [intOf]; omega
    · obtain rfl : k = m := by omega
      have HO := hide hown
      obtain ⟨a8, c8, rfl, -⟩ := hown.strs
      have hB8 := hB
      clear hown
      obtain ⟨wo, rfl⟩ : ∃ wo : World, wo = wr := ⟨_, rfl⟩
      go_wp2_with fail
      go_loopw [10] (fun v wr => ∃ (j : Nat) (a : Option Addr) (c : Nat), k ≤ j ∧ j ≤ 2 ^ lg k ∧ j ≤ 16 ∧ v = .slice a j c ∧ OwnS wr w5.heap.size (.slice a j c) j (fun k => dig (P k)) ∧ Below w5.heap.size w5 wr) (fun v _ => 16 - lenOf v)
      case atStart => exact ⟨k, a8, c8, Nat.le_refl _, le_lg k, hm16, rfl, HO.out, hB8⟩
      case round =>
        obtain ⟨j, a, c, hj1, hj2, hj3, rfl, hown, hB⟩ := hrel
        have HO := hide hown
        clear hown
        have hb1 : bits BinOp.and .i64 (j : Int) ((j : Int) - 1) = ((j &&& (j - 1) : Nat) : Int) := and_i64 (by omega) (by omega)
        have hand := and_test hm1 hm16 hj1 hj2
        by_cases hjp : j = 2 ^ lg k
        · have hz2 : (((j &&& (j - 1) : Nat) : Int) != 0) = false := by rw [hand.2 hjp]; rfl
          have HJ := hide hjp
          obtain ⟨wp, rfl⟩ : ∃ wp : World, wp = wr := ⟨_, rfl⟩
          have T5 := HS5.out.below hB (Nat.le_refl _)
          have T6 := HS6.out.below hB (Nat.le_refl _)
          have hl5 : wp.drew.cell? ⟨g, i, none⟩ = some (str (F i)) := T5.drew.at him
          have hl6 : wp.drew.cell? ⟨g2, i, none⟩ = some (str X) := by have := T6.drew.at him; simp only [if_true] at this; exact this
          have K0 : wp.drew.cell? ⟨g, i, none⟩ = some (str (F i)) ∧ wp.drew.cell? ⟨g2, i, none⟩ = some (str X) := ⟨hl5, hl6⟩
          have hFi : (F i).length ≤ 1000 := by have := HFL.out i; omega
          have hX1 : X.length ≤ 1000 := by omega
          have hi1 : (i : Int) < (k : Int) := by omega
          have HST5 := hide T5
          have HST6 := hide T6
          clear hand hjp T5 T6
          go_wp2_with fail
          go_region_held3 (fun w' => w'.cell? ⟨g, i, none⟩ = some (str (F i)) ∧ w'.cell? ⟨g2, i, none⟩ = some (str X))
            (first | with_reducible exact K0 | with_reducible exact K1 | with_reducible exact K2 | go_keep)
            (first
              | (go_at_call 23; (with_reducible refine (leaf_l (F i) hFi _).mono ?_); rintro e w6 ⟨rfl, hb6⟩; have K1 : w6.cell? ⟨g, i, none⟩ = some (str (F i)) ∧ w6.cell? ⟨g2, i, none⟩ = some (str X) := ⟨(hb6.cell (p := ⟨g, i, none⟩) (lt_of_cell hl5)).trans hl5, (hb6.cell (p := ⟨g2, i, none⟩) (lt_of_cell hl6)).trans hl6⟩)
              | (go_at_call 23; (with_reducible refine (leaf_l X hX1 _).mono ?_); rintro e w7 ⟨rfl, hb7⟩; have K2 : w7.cell? ⟨g, i, none⟩ = some (str (F i)) ∧ w7.cell? ⟨g2, i, none⟩ = some (str X) := ⟨(hb7.cell (p := ⟨g, i, none⟩) (lt_of_cell K1.1)).trans K1.1, (hb7.cell (p := ⟨g2, i, none⟩) (lt_of_cell K1.2)).trans K1.2⟩))
          have E7 := (below_drewL hb6).trans (hb7.mono hb6.size)
          have B7 := hB.trans (E7.mono hB.size)
          have O7 := ownsRow_below HO.out E7
          have HO7 := hide O7
          have HS7 := hide (HST5.out.below E7 (Nat.le_refl _))
          have HR7 := hide (HST6.out.below E7 (Nat.le_refl _))
          clear K0 K1 K2 hl5 hl6 hb6 hb7 E7 O7
          obtain ⟨P', hP'⟩ : ∃ P', lowP (fun q => ⟨(if q = i then X else F q).toArray⟩) k = P' := ⟨_, rfl⟩
          have HPP := hide hP'
          clear hP'
          have h0 : P i = 1 :: F i := by rw [← HP.out, lowP, if_pos him]; rfl
          have h0' : P' i = 1 :: X := by rw [← HPP.out, lowP, if_pos him]; simp [bs_str]
          have H0 := hide h0
          have H0' := hide h0'
          rw [← h0, ← h0']
          clear h0 h0'
          go_wp2_with fail
          obtain ⟨sm, hsm⟩ : ∃ sm, (dig (P i) == dig (P' i)) = sm := ⟨_, rfl⟩
          have hpath : Path P P' i 0 (F i ≠ X) sm := by
            intro e
            rw [← hsm] at e
            have hne : dig (P i) ≠ dig (P' i) := by simpa using e
            exact ⟨by simpa [climbP] using hne, fun h => hne (by rw [H0.out, H0'.out, h])⟩
          have HPT := hide hpath
          obtain ⟨V1, hV1⟩ : ∃ V1, dig (P i) = V1 := ⟨_, rfl⟩
          obtain ⟨V2, hV2⟩ : ∃ V2, dig (P' i) = V2 := ⟨_, rfl⟩
          have H12 : Hid (str V1 = str (dig (climbP P 0 (i / 2 ^ 0)))) := by show _ = _; rw [← hV1]; simp [climbP]
          have H13 : Hid (str V2 = str (dig (climbP P' 0 (i / 2 ^ 0)))) := by show _ = _; rw [← hV2]; simp [climbP]
          rw [hsm, hV1, hV2]
          clear hpath hsm hz2 hb1 hV1 hV2
          go_loopw [10, 12, 13, 14, 15] (fun v x y z u wr => ∃ (t n' at' : Nat) (a : Option Addr) (c : Nat) (sm : Bool), t ≤ lg k ∧ v = .slice a n' c ∧ Hid (n' = 2 ^ (lg k - t)) ∧ 1 ≤ n' ∧ n' ≤ 16 ∧ Strs wr a n' (fun j => ⟨(dig (climbP P t j)).toArray⟩) ∧ x = str (dig (climbP P t (i / 2 ^ t))) ∧ y = str (dig (climbP P' t (i / 2 ^ t))) ∧
              z = .bool sm ∧ u = .int .i64 (at' : Int) ∧ Hid (at' = i / 2 ^ t) ∧ at' < n' ∧ Hid (Path P P' i t (F i ≠ X) sm) ∧ Below w5.heap.size w5 wr) (fun v _ _ _ _ _ => lenOf v)
          case atStart =>
            have hst := (OwnS.strs (show OwnS _ _ _ _ _ from HO7.out))
            obtain ⟨a9, c9, he, hst⟩ := hst
            cases he
            exact ⟨0, j, i, a, c, sm, Nat.zero_le _, rfl, HJ.out, by omega, hj3, hst, H12.out, H13.out, rfl, rfl, by show _ = _; simp, by have := HJ.out; omega, HPT.out, B7⟩
          case round =>
            obtain ⟨t, n', at', a, c, sm, ht, rfl, hn', hn1, hn2, hst, rfl, rfl, rfl, rfl, hat, hatn, hpt, hB⟩ := hrel
            have HST := hide hst
            clear hst
            by_cases hlt : 1 < n'
            · have hlt' : (1 : Int) < (n' : Int) := by omega
              obtain ⟨wo, rfl⟩ : ∃ wo : World, wo = wr := ⟨_, rfl⟩
              obtain ⟨b, off, rfl, hba⟩ : ∃ b off, a = some ⟨b, off, none⟩ ∧ b < wo.heap.size := by
                rcases HST.out with h | ⟨b, off, e, h⟩
                · omega
                · exact ⟨b, off, e, lt_of_cell (h 0 (by omega))⟩
              go_wp2_with fail
              go_loopw [16, 17] (fun v x wr => ∃ q : Nat, 2 * q ≤ n' ∧ x = .int .i64 (2 * (q : Int)) ∧ OwnS wr wo.heap.size v q (fun q => dig (upP (climbP P t) q)) ∧ Below wo.heap.size wo wr) (fun _ x _ => n' + 2 - (intOf x).toNat)
              case atStart => exact ⟨0, by omega, by simp, World.ownsRow_nil _ _ _ _, Below.refl _ _⟩
              case round =>
                obtain ⟨q, hq, rfl, hown, hBq⟩ := hrel
                have HO := hide hown
                clear hown
                by_cases hqn : 2 * q + 1 < n'
                · have hcell : ∀ j, j < n' → wr.cell? ⟨b, off + j, none⟩ = some (str (dig (climbP P t j))) := by
                    intro j hj
                    rcases HST.out.below hBq (Nat.le_refl _) with h | ⟨b', off', e, h⟩
                    · omega
                    · cases e; exact h j hj
                  have ha := hcell (2 * q) (by omega)
                  have hb := hcell (2 * q + 1) (by omega)
                  have hq1 : 2 * (q : Int) + 1 < (n' : Int) := by omega
                  have hi0 : 2 * (q : Int) < (n' : Int) := by omega
                  have hi1' : (0 : Int) ≤ 2 * (q : Int) := by omega
                  have ht1 : (2 * (q : Int)).toNat = 2 * q := by omega
                  have hw2' : IntKind.i64.wrap (2 * (q : Int) + 1) = 2 * (q : Int) + 1 := IntWalk.i64_in _ (by omega)
                  have ht2 : (2 * (q : Int) + 1).toNat = 2 * q + 1 := by omega
                  have hi3 : (0 : Int) ≤ 2 * (q : Int) + 1 := by omega
                  have HSZ := hide hBq.size
                  clear hcell
                  go_wp2_with fail
                  have K0 : wr.drew.cell? ⟨b, off + 2 * q, none⟩ = some (str (dig (climbP P t (2 * q)))) ∧ wr.drew.cell? ⟨b, off + (2 * q + 1), none⟩ = some (str (dig (climbP P t (2 * q + 1)))) := ⟨ha, hb⟩
                  go_region_held3 (fun w' => w'.cell? ⟨b, off + 2 * q, none⟩ = some (str (dig (climbP P t (2 * q)))) ∧ w'.cell? ⟨b, off + (2 * q + 1), none⟩ = some (str (dig (climbP P t (2 * q + 1)))))
                    (first | with_reducible exact K0 | with_reducible exact K1 | with_reducible exact K3 | go_keep)
                    (first
                      | (go_at_call 25; (with_reducible refine (inner_dig (climbP P t (2 * q)) (climbP P t (2 * q + 1)) _).mono ?_); rintro e w8 ⟨rfl, hb8⟩; have K1 : w8.cell? ⟨b, off + 2 * q, none⟩ = some (str (dig (climbP P t (2 * q)))) ∧ w8.cell? ⟨b, off + (2 * q + 1), none⟩ = some (str (dig (climbP P t (2 * q + 1)))) := ⟨(hb8.cell (p := ⟨b, off + 2 * q, none⟩) (lt_of_cell ha)).trans ha, (hb8.cell (p := ⟨b, off + (2 * q + 1), none⟩) (lt_of_cell hb)).trans hb⟩)
                      | (refine step_append_lies _ rfl (.tmp 98) (.tmp 109) 29 rfl wo.heap.size 9 i0 (.string ⟨#[]⟩) 1 16 Try.underlying29 HI.out HZ.out.1 HZ.out.2.1 HZ.out.2.2 rfl (by decide) _ _ _ rfl ((ownsRow_below (show wr.drew.ownsRow _ _ _ _ _ _ from HO.out) hb8).alloc _) ⟨w8.heap.size, 0, none⟩ 1 1 [str (dig (upP (climbP P t) q))] rfl rfl (cell_one_new _ _ _) (one_str _) (by decide) (by unfold maxLen; omega) (by omega) (Nat.le_trans (Nat.le_trans HSZ.out hb8.size) (below_alloc' w8 _).size) _ rfl ?_; intro gg cap9 w9 hown9 hgrow9 hat9 hlt9; have hA := below_alloc' w8 (.cells #[str (dig (upP (climbP P t) q))] 9); have hO8 := (ownsRow_below (show wr.drew.ownsRow _ _ _ _ _ _ from HO.out) hb8).alloc (.cells #[str (dig (upP (climbP P t) q))] 9); have K3 : w9.cell? ⟨b, off + 2 * q, none⟩ = some (str (dig (climbP P t (2 * q)))) ∧ w9.cell? ⟨b, off + (2 * q + 1), none⟩ = some (str (dig (climbP P t (2 * q + 1)))) := ⟨cell_own_ne hO8 hgrow9 ((hA.cell (p := ⟨b, off + 2 * q, none⟩) (lt_of_cell K1.1)).trans K1.1) hba, cell_own_ne hO8 hgrow9 ((hA.cell (p := ⟨b, off + (2 * q + 1), none⟩) (lt_of_cell K1.2)).trans K1.2) hba⟩))
                  have B8 : Below wo.heap.size wo w8 := hBq.trans (below_drewL (hb8.mono hBq.size))
                  have B9 : Below wo.heap.size wo w9 := (B8.trans (hA.mono B8.size)).grown hgrow9 (Nat.le_trans B8.size hA.size) (fun k' hk' => (hO8.lt k' hk').1)
                  have HO9 := hide hown9
                  have HB9 := hide B9
                  clear K0 K1 K3 ha hb hown9 hgrow9 hO8 ht1 ht2 hw2' hat9 B9
                  go_wp2_with fail
                  go_roundw
                  case rel => exact ⟨q + 1, by omega, by go_num, OwnS.snoc HO9.out rfl, HB9.out⟩
                  case measure => simp [intOf]; omega
                · have hqn' : ¬ 2 * (q : Int) + 1 < (n' : Int) := by omega
                  obtain ⟨wq, rfl⟩ : ∃ wq : World, wq = wr := ⟨_, rfl⟩
                  have hne : n' = 2 ^ (lg k - t) := hn'
                  have ht1 : t < lg k := by
                    rcases Nat.lt_or_ge t (lg k) with h | h
                    · exact h
                    · rw [show lg k - t = 0 from by omega] at hne; omega
                  have hstep := pow_step ht1
                  have hq2 : n' = 2 * q := by omega
                  have hnx : Hid (q = 2 ^ (lg k - (t + 1))) := by show _ = _; omega
                  have hdiv : i / 2 ^ (t + 1) = i / 2 ^ t / 2 := by rw [Nat.pow_succ, Nat.div_div_eq_div_mul]
                  obtain ⟨a3, c3, rfl, hs3⟩ := (show OwnS _ _ _ _ _ from HO.out).strs
                  have HNX := hide hs3
                  have hoff : ∀ t j, j ≠ i / 2 ^ t → climbP P' t j = climbP P t j := climb_off (fun r hr => by rw [← HPP.out, ← HP.out, lowP, lowP]; simp [hr, bs_str])
                  have HOFF := hide hoff
                  have hata : at' = i / 2 ^ t := hat
                  have hnext : Hid (at' / 2 = i / 2 ^ (t + 1)) := by show _ = _; rw [hdiv, hata]
                  have hqn2 : at' / 2 < q := by omega
                  have hq0 : 1 ≤ q := by omega
                  have hqlt : q < n' := by omega
                  have hq16 : q ≤ 16 := by omega
                  clear hoff hs3 hne hstep
                  by_cases heven : at' % 2 = 0
                  · have hm2 : ((at' : Int) % 2 == 0) = true := by rw [beq_iff_eq]; omega
                    have hlt2 : (at' + 1) < n' := by omega
                    have hcl : wq.drew.cell? ⟨b, off + (at' + 1), none⟩ = some (str (dig (climbP P t (at' + 1)))) := by
                      rcases (HST.out.below hBq (Nat.le_refl _)).drew with h | ⟨b', off', e, h⟩
                      · omega
                      · cases e; exact h _ hlt2
                    have hz1 : IntKind.i64.wrap ((at' : Int) + 1) = (at' : Int) + 1 := IntWalk.i64_in _ (by omega)
                    have hz2 : ((at' : Int) + 1).toNat = at' + 1 := by omega
                    have hz3 : (0 : Int) ≤ (at' : Int) + 1 := by omega
                    have hz4 : (at' : Int) + 1 < (n' : Int) := by omega
                    have e1 : climbP P (t + 1) (i / 2 ^ (t + 1)) = 2 :: (dig (climbP P t (i / 2 ^ t)) ++ dig (climbP P t (at' + 1))) := by
                      rw [hdiv, climb_even (by omega), show i / 2 ^ t = at' from (show at' = _ from hat).symm]
                    have e2 : climbP P' (t + 1) (i / 2 ^ (t + 1)) = 2 :: (dig (climbP P' t (i / 2 ^ t)) ++ dig (climbP P t (at' + 1))) := by
                      rw [hdiv, climb_even (by omega), HOFF.out t (i / 2 ^ t + 1) (by omega), show i / 2 ^ t = at' from (show at' = _ from hat).symm]
                    have E1 := hide e1
                    have E2 := hide e2
                    clear e1 e2 hata hdiv hq2
                    cases sm
                    all_goals
                      go_wp2_with fail
                      go_region_held3 (fun w' => w'.cell? ⟨b, off + (at' + 1), none⟩ = some (str (dig (climbP P t (at' + 1)))))
                        (first | with_reducible exact hcl | with_reducible exact K1 | with_reducible exact K2 | go_keep)
                        (first
                          | (go_at_call 25; (with_reducible refine (inner_dig (climbP P t (i / 2 ^ t)) (climbP P t (at' + 1)) _).mono ?_); rintro e w8 ⟨rfl, hb8⟩; have K1 : w8.cell? ⟨b, off + (at' + 1), none⟩ = some (str (dig (climbP P t (at' + 1)))) := (hb8.cell (p := ⟨b, off + (at' + 1), none⟩) (lt_of_cell hcl)).trans hcl)
                          | (go_at_call 25; (with_reducible refine (inner_dig (climbP P' t (i / 2 ^ t)) (climbP P t (at' + 1)) _).mono ?_); rintro e w9 ⟨rfl, hb9⟩; have K2 : w9.cell? ⟨b, off + (at' + 1), none⟩ = some (str (dig (climbP P t (at' + 1)))) := (hb9.cell (p := ⟨b, off + (at' + 1), none⟩) (lt_of_cell K1)).trans K1))
                      rw [← E1.out, ← E2.out]
                      have B9 := (hB.trans (hBq.mono hB.size)).trans ((below_drewL hb8).trans (hb9.mono hb8.size) |>.mono (Nat.le_trans hB.size hBq.size))
                      have S9 := hide ((HNX.out.drew.below hb8 (Nat.le_refl _)).below hb9 (Nat.le_refl _))
                      have HB9 := hide B9
                      clear K1 K2 hcl hb8 hb9 hz1 hz2 B9
                    · obtain ⟨sm', hsm'⟩ : ∃ sm', (dig (climbP P (t + 1) (i / 2 ^ (t + 1))) == dig (climbP P' (t + 1) (i / 2 ^ (t + 1)))) = sm' := ⟨_, rfl⟩
                      have hp' : Hid (Path P P' i (t + 1) (F i ≠ X) sm') := by
                        show Path P P' i (t + 1) (F i ≠ X) sm'
                        intro e
                        rw [← hsm'] at e
                        exact ⟨by simpa using e, ((show Path P P' i t (F i ≠ X) false from hpt) rfl).2⟩
                      go_wp2_with fail
                      go_roundw
                      case rel => exact ⟨t + 1, q, at' / 2, a3, c3, sm', by omega, rfl, hnx, hq0, hq16, S9.out, rfl, rfl, rfl, by go_num, hnext, hqn2, hp', HB9.out⟩
                      case measure => simp only [lenOf]; omega
                    · go_wp2_with fail
                      go_roundw
                      case rel => exact ⟨t + 1, q, at' / 2, a3, c3, true, by omega, rfl, hnx, hq0, hq16, S9.out, rfl, rfl, rfl, by go_num, hnext, hqn2, fun e => (nomatch e), HB9.out⟩
                      case measure => simp only [lenOf]; omega
                  · have hm2 : ((at' : Int) % 2 == 0) = false := by rw [beq_eq_false_iff_ne]; omega
                    have hlt2 : (at' - 1) < n' := by omega
                    have hcl : wq.drew.cell? ⟨b, off + (at' - 1), none⟩ = some (str (dig (climbP P t (at' - 1)))) := by
                      rcases (HST.out.below hBq (Nat.le_refl _)).drew with h | ⟨b', off', e, h⟩
                      · omega
                      · cases e; exact h _ hlt2
                    have hz1 : IntKind.i64.wrap ((at' : Int) - 1) = (at' : Int) - 1 := IntWalk.i64_in _ (by omega)
                    have hz2 : ((at' : Int) - 1).toNat = at' - 1 := by omega
                    have hz3 : (0 : Int) ≤ (at' : Int) - 1 := by omega
                    have hz4 : (at' : Int) - 1 < (n' : Int) := by omega
                    have hz5 : (1 : Int) ≤ (at' : Int) := by omega
                    have hz6 : (at' : Int) < (n' : Int) + 1 := by omega
                    have hz7 : 1 ≤ at' := by omega
                    have e1 : climbP P (t + 1) (i / 2 ^ (t + 1)) = 2 :: (dig (climbP P t (at' - 1)) ++ dig (climbP P t (i / 2 ^ t))) := by
                      rw [hdiv, climb_odd (by omega), show i / 2 ^ t = at' from (show at' = _ from hat).symm]
                    have e2 : climbP P' (t + 1) (i / 2 ^ (t + 1)) = 2 :: (dig (climbP P t (at' - 1)) ++ dig (climbP P' t (i / 2 ^ t))) := by
                      rw [hdiv, climb_odd (by omega), HOFF.out t (i / 2 ^ t - 1) (by omega), show i / 2 ^ t = at' from (show at' = _ from hat).symm]
                    have E1 := hide e1
                    have E2 := hide e2
                    clear e1 e2 hata hdiv hq2
                    cases sm
                    all_goals
                      go_wp2_with fail
                      go_region_held3 (fun w' => w'.cell? ⟨b, off + (at' - 1), none⟩ = some (str (dig (climbP P t (at' - 1)))))
                        (first | with_reducible exact hcl | with_reducible exact K1 | with_reducible exact K2 | go_keep)
                        (first
                          | (go_at_call 25; (with_reducible refine (inner_dig (climbP P t (at' - 1)) (climbP P t (i / 2 ^ t)) _).mono ?_); rintro e w8 ⟨rfl, hb8⟩; have K1 : w8.cell? ⟨b, off + (at' - 1), none⟩ = some (str (dig (climbP P t (at' - 1)))) := (hb8.cell (p := ⟨b, off + (at' - 1), none⟩) (lt_of_cell hcl)).trans hcl)
                          | (go_at_call 25; (with_reducible refine (inner_dig (climbP P t (at' - 1)) (climbP P' t (i / 2 ^ t)) _).mono ?_); rintro e w9 ⟨rfl, hb9⟩; have K2 : w9.cell? ⟨b, off + (at' - 1), none⟩ = some (str (dig (climbP P t (at' - 1)))) := (hb9.cell (p := ⟨b, off + (at' - 1), none⟩) (lt_of_cell K1)).trans K1))
                      rw [← E1.out, ← E2.out]
                      have B9 := (hB.trans (hBq.mono hB.size)).trans ((below_drewL hb8).trans (hb9.mono hb8.size) |>.mono (Nat.le_trans hB.size hBq.size))
                      have S9 := hide ((HNX.out.drew.below hb8 (Nat.le_refl _)).below hb9 (Nat.le_refl _))
                      have HB9 := hide B9
                      clear K1 K2 hcl hb8 hb9 hz1 hz2 B9
                    · obtain ⟨sm', hsm'⟩ : ∃ sm', (dig (climbP P (t + 1) (i / 2 ^ (t + 1))) == dig (climbP P' (t + 1) (i / 2 ^ (t + 1)))) = sm' := ⟨_, rfl⟩
                      have hp' : Hid (Path P P' i (t + 1) (F i ≠ X) sm') := by
                        show Path P P' i (t + 1) (F i ≠ X) sm'
                        intro e
                        rw [← hsm'] at e
                        exact ⟨by simpa using e, ((show Path P P' i t (F i ≠ X) false from hpt) rfl).2⟩
                      go_wp2_with fail
                      go_roundw
                      case rel => exact ⟨t + 1, q, at' / 2, a3, c3, sm', by omega, rfl, hnx, hq0, hq16, S9.out, rfl, rfl, rfl, by go_num, hnext, hqn2, hp', HB9.out⟩
                      case measure => simp only [lenOf]; omega
                    · go_wp2_with fail
                      go_roundw
                      case rel => exact ⟨t + 1, q, at' / 2, a3, c3, true, by omega, rfl, hnx, hq0, hq16, S9.out, rfl, rfl, rfl, by go_num, hnext, hqn2, fun e => (nomatch e), HB9.out⟩
                      case measure => simp only [lenOf]; omega
            · have hlt' : ¬ (1 : Int) < (n' : Int) := by omega
              obtain ⟨wo, rfl⟩ : ∃ wo : World, wo = wr := ⟨_, rfl⟩
              have hne : n' = 2 ^ (lg k - t) := hn'
              have htl : t = lg k := by
                rcases Nat.lt_or_ge t (lg k) with h | h
                · obtain ⟨d, hd⟩ : ∃ d, lg k - t = d + 1 := ⟨lg k - t - 1, by omega⟩
                  rw [hd, Nat.pow_succ] at hne
                  have := Nat.two_pow_pos d
                  omega
                · omega
              have hata : at' = i / 2 ^ t := hat
              have hdz : i / 2 ^ t = 0 := by omega
              have hr1 : rootOf (fun q => ⟨(F q).toArray⟩) k = dig (climbP P t (i / 2 ^ t)) := by rw [hdz, htl, ← HP.out]; rfl
              have hr2 : rootOf (fun q => ⟨(if q = i then X else F q).toArray⟩) k = dig (climbP P' t (i / 2 ^ t)) := by rw [hdz, htl, ← HPP.out]; rfl
              have T5 := HS5.out.below hB (Nat.le_refl _)
              have T6 := HS6.out.below hB (Nat.le_refl _)
              have hX1 : X.length ≤ 1000 := by omega
              have HX1 := hide hX1
              have HR1 := hide hr1
              have HR2 := hide hr2
              clear hne htl hata hdz hr1 hr2 hX1
              go_wp2_with fail
              refine (root_any (some ⟨g, 0, none⟩) k cap (by omega) (fun q => ⟨(F q).toArray⟩) (fun q _ => by have := HFL.out q; show (F q).toArray.size ≤ _; rw [List.size_toArray]; omega) _ T5).mono ?_
              rintro e x1 ⟨rfl, hx1⟩
              have D1 := hB.trans (hx1.mono hB.size)
              have T51 := T5.below hx1 (Nat.le_refl _)
              have T61 := T6.below hx1 (Nat.le_refl _)
              clear T5 T6 hx1
              rw [HR1.out]
              go_wp2_with fail
              refine (root_any (some ⟨g2, 0, none⟩) k cap2 (by omega) (fun q => ⟨(if q = i then X else F q).toArray⟩) (fun q _ => by have := HFL.out q; have := HX1.out; show (if q = i then X else F q).toArray.size ≤ _; rw [List.size_toArray]; split <;> omega) _ T61).mono ?_
              rintro e x2 ⟨rfl, hx2⟩
              have D2 := D1.trans (hx2.mono D1.size)
              have T52 := T51.below hx2 (Nat.le_refl _)
              have T62 := T61.below hx2 (Nat.le_refl _)
              clear T51 T61 hx2 D1
              rw [HR2.out]
              cases sm
              · have hpq := (show Path P P' i t (F i ≠ X) false from hpt) rfl
                have hxe : (X == F i) = false := by rw [beq_eq_false_iff_ne]; exact fun h => hpq.2 h.symm
                have hre : (rootOf (fun q => ⟨(F q).toArray⟩) k == rootOf (fun q => ⟨(if q = i then X else F q).toArray⟩) k) = false := by rw [beq_eq_false_iff_ne, HR1.out, HR2.out]; exact hpq.1
                have hl5 : x2.drew.cell? ⟨g, i, none⟩ = some (str (F i)) := T52.drew.at him
                have hl6 : x2.drew.cell? ⟨g2, i, none⟩ = some (str X) := by have := T62.drew.at him; simp only [if_true] at this; exact this
                have K0 : x2.drew.cell? ⟨g, i, none⟩ = some (str (F i)) ∧ x2.drew.cell? ⟨g2, i, none⟩ = some (str X) := ⟨hl5, hl6⟩
                have hi1 : (i : Int) < (k : Int) := by omega
                have HQ1 : Hid (∀ q, q < k → (⟨(F q).toArray⟩ : ByteArray).size ≤ 9223372036854775807) := by
                  show ∀ q, q < k → (⟨(F q).toArray⟩ : ByteArray).size ≤ 9223372036854775807
                  intro q _; have := HFL.out q; show (F q).toArray.size ≤ _; rw [List.size_toArray]; omega
                have HQ2 : Hid (∀ q, q < k → (⟨(if q = i then X else F q).toArray⟩ : ByteArray).size ≤ 9223372036854775807) := by
                  show ∀ q, q < k → (⟨(if q = i then X else F q).toArray⟩ : ByteArray).size ≤ 9223372036854775807
                  intro q _; have := HFL.out q; have := HX1.out; show (if q = i then X else F q).toArray.size ≤ _; rw [List.size_toArray]; split <;> omega
                have HK : Hid (k ≤ 1099511627776) := by show _ ≤ _; omega
                have HT5 := hide T52
                have HT6 := hide T62
                clear hpq T52 T62
                go_wp2_with fail
                go_region_held3 (fun w' => w'.cell? ⟨g, i, none⟩ = some (str (F i)) ∧ w'.cell? ⟨g2, i, none⟩ = some (str X))
                  (first | with_reducible exact K0 | with_reducible exact K1 | with_reducible exact K2 | go_keep)
                  (first
                    | (go_at_call 21; (with_reducible refine (root_any (some ⟨g, 0, none⟩) k cap HK.out (fun q => ⟨(F q).toArray⟩) HQ1.out _ HT5.out.drew).mono ?_); rintro e x3 ⟨rfl, hx3⟩; have K1 : x3.cell? ⟨g, i, none⟩ = some (str (F i)) ∧ x3.cell? ⟨g2, i, none⟩ = some (str X) := ⟨(hx3.cell (p := ⟨g, i, none⟩) (lt_of_cell hl5)).trans hl5, (hx3.cell (p := ⟨g2, i, none⟩) (lt_of_cell hl6)).trans hl6⟩)
                    | (go_at_call 21; (with_reducible refine (root_any (some ⟨g2, 0, none⟩) k cap2 HK.out (fun q => ⟨(if q = i then X else F q).toArray⟩) HQ2.out _ (HT6.out.drew.below hx3 (Nat.le_refl _))).mono ?_); rintro e x4 ⟨rfl, hx4⟩; have K2 : x4.cell? ⟨g, i, none⟩ = some (str (F i)) ∧ x4.cell? ⟨g2, i, none⟩ = some (str X) := ⟨(hx4.cell (p := ⟨g, i, none⟩) (lt_of_cell K1.1)).trans K1.1, (hx4.cell (p := ⟨g2, i, none⟩) (lt_of_cell K1.2)).trans K1.2⟩))
                have D4 : Below w5.heap.size w5 x4 := (D2.trans (below_drewL hx3 |>.mono D2.size)).trans (hx4.mono (Nat.le_trans D2.size hx3.size))
                clear K0 K1 K2
                go_wp2
                go_ret
                exact ⟨rfl, B5.trans (D4.mono B5.size)⟩
              · go_wp2_with fail
                go_region
                go_wp2
                go_ret
                exact ⟨rfl, B5.trans ((D2.trans (below_drewL (Below.refl _ _))).mono B5.size)⟩
        · have hz2 : (((j &&& (j - 1) : Nat) : Int) != 0) = true := by rw [bne_iff_ne]; intro e; exact hjp (hand.1 (by omega))
          have hjl := lg_le16 hm16
          have HL : Hid (dig [3] = dig (P j)) := by show _ = _; rw [← HP.out, lowP, if_neg (by omega)]
          clear hand
          go_wp2_with fail
          refine (missing_l _).mono ?_
          rintro e w6 ⟨rfl, hb6⟩
          have B6 := hB.trans (hb6.mono hB.size)
          have O6 := (ownsRow_below (show wr.ownsRow _ _ _ _ _ _ from HO.out) hb6).alloc (.cells #[str (dig [3])] 9)
          have HO6 := hide O6
          have BA := B6.trans ((below_alloc' w6 (.cells #[str (dig [3])] 9)).mono B6.size)
          clear O6
          go_wp2_with (at_builtin; refine wpList_append_own _ rfl (.tmp 68) (.tmp 70) 29 rfl w5.heap.size 9 i0 (.string ⟨#[]⟩) 1 16 Try.underlying29 HI.out HZ.out.1 HZ.out.2.1 HZ.out.2.2 rfl (by decide) _ _ _ rfl HO6.out ⟨w6.heap.size, 0, none⟩ 1 1 [str (dig [3])] rfl rfl (cell_one_new _ _ _) (one_str _) (by unfold maxLen; omega) (by omega) BA.size ?_)
          intro v' w7 hown7 hgrow7 _
          have B7 : Below w5.heap.size w5 w7 := BA.grown hgrow7 BA.size (fun k' hk' => (HO6.out.lt k' hk').1)
          have HO5 : OwnS w7 w5.heap.size v' (j + 1) (fun k => dig (P k)) := OwnS.snoc hown7 HL.out
          obtain ⟨a7, c7, rfl, -⟩ := HO5.strs
          have HO7 := hide HO5
          clear hown7 hgrow7 HO5 hb1
          go_wp2_with fail
          go_roundw
          case rel => exact ⟨j + 1, a7, c7, by omega, by omega, by omega, rfl, HO7.out, B7⟩
          case measure => simp only [lenOf]; omega
end Go.Proofs.Ytmiidniihbhkdaa
