/- The law DigestTrees is true. -/
import Derived.Test.YtmiidniihbhkdaaDList
import Derived.Outline
namespace Go.Proofs.Ytmiidniihbhkdaa
open Go.RowKit

theorem OwnS.form {w : World} {base : Nat} {v : Value} {n : Nat} {f : Nat → List UInt8} (h : OwnS w base v n f) : (v = .slice none 0 0 ∧ n = 0) ∨ ∃ g cap, v = .slice (some ⟨g, 0, none⟩) n cap ∧ base ≤ g ∧ n ≤ cap ∧ cap ≤ 9223372036854775807 ∧ Strs w (some ⟨g, 0, none⟩) n (fun k => ⟨(f k).toArray⟩) := by
  obtain ⟨a, cap, hv, hst⟩ := h.strs
  rcases h.2 with ⟨hv', hn⟩ | ⟨g, cap', cur, hv', hb, hg, hn, hc, -, -⟩
  · exact .inl ⟨hv', hn⟩
  · rw [hv'] at hv
    cases hv
    exact .inr ⟨g, _, hv', hb, hn, hc, hst⟩
theorem Strs.mono {w : World} {a : Option Addr} {n m : Nat} {S : Nat → ByteArray} (h : Strs w a n S) (hm : m ≤ n) : Strs w a m S := by
  rcases h with h | ⟨b, off, e, h⟩
  · exact .inl (by omega)
  · exact .inr ⟨b, off, e, fun j hj => h j (by omega)⟩
theorem Strs.drew {w : World} {a : Option Addr} {n : Nat} {S : Nat → ByteArray} (h : Strs w a n S) : Strs w.drew a n S := h
theorem cut_small (S : Nat → ByteArray) (j : Nat) : (⟨(cutF S j).toArray⟩ : ByteArray).size ≤ 30 := by rw [size_mk, cutF, List.length_take]; omega
theorem refLeaf_ll (l : List UInt8) (h : l.length ≤ 1000) (w : World) : Calls Try.prog 24 #[str l] w fun e w' => e = .returned (str (dig (1 :: l))) ∧ Below w.heap.size w w' := refLeaf_any _ (le_of_small' h) w
theorem refInner_ll (a b : List UInt8) (ha : a.length ≤ 1000) (hb : b.length ≤ 1000) (w : World) : Calls Try.prog 26 #[str a, str b] w fun e w' => e = .returned (str (dig (2 :: (a ++ b)))) ∧ Below w.heap.size w w' := refInner_any _ (le_of_small' ha) _ (le_of_small' hb) w

set_option maxRecDepth 100000 in
set_option maxHeartbeats 4000000 in
theorem trees_true (a : Option Addr) (n c : Nat) (hn : n ≤ 9223372036854775807) (S : Nat → ByteArray) (hs : ∀ j, j < n → (S j).size ≤ 9223372036854775807) (sb tb : ByteArray) (hsb : sb.size ≤ 9223372036854775807) (htb : tb.size ≤ 9223372036854775807) (w : World) (hS : Strs w a n S) :
    Calls Try.prog 4 #[.slice a n c, .string sb, .string tb] w fun e w' => e = .returned (.bool true) ∧ Below w.heap.size w w' := by
  have HSS := hide hs
  clear hs
  go_enter Try.func4, Try.ntmps4
  go_wp2_with fail
  refine (sanity_true w).mono ?_
  rintro e w1 ⟨rfl, B1⟩
  go_wp2_with fail
  refine (list_any a n c hn S HSS.out _ (hS.below B1 (Nat.le_refl _))).mono ?_
  rintro e w2 ⟨v, rfl, ho, hb2⟩
  have B2 := B1.trans (hb2.mono B1.size)
  go_wp2_with fail
  refine (short_any sb hsb _).mono ?_
  rintro e w' ⟨rfl, rfl⟩
  go_wp2_with fail
  refine (short_any tb htb _).mono ?_
  rintro e w' ⟨rfl, rfl⟩
  have hs6 := len60 sb
  have ht6 := len60 tb
  generalize (bs sb).take 60 = s at hs6 ⊢
  generalize (bs tb).take 60 = t at ht6 ⊢
  have hs1 : s.length ≤ 1000 := by omega
  have ht1 : t.length ≤ 1000 := by omega
  obtain ⟨m, hm⟩ : ∃ m, min n 20 = m := ⟨_, rfl⟩
  have hm20 : m ≤ 20 := by omega
  rw [hm] at ho
  have hf := ho.form
  clear ho hm
  rcases hf with ⟨rfl, rfl⟩ | ⟨g, cap, rfl, hg, hmc, hcm, hst⟩
  · go_wp2_with fail
    go_loopw [8] (fun i wr => ∃ k : Nat, k ≤ 1 ∧ i = .int .i64 (k : Int) ∧ Below w2.heap.size w2 wr) (fun i _ => 1 - (intOf i).toNat)
    case atStart => exact ⟨0, by omega, rfl, Below.refl _ _⟩
    case round =>
      obtain ⟨k, hk, rfl, hB⟩ := hrel
      by_cases hlt : k = 0
      · subst hlt
        go_wp2_with fail
        go_region_held3 (fun _ => True) (trivial)
          (first
            | (go_at_call 21; refine (root_any none 0 0 (by omega) (fun _ => ByteArray.empty) (fun j hj => absurd hj (by omega)) wr.drew (.inl rfl)).mono ?_; rintro e w3 ⟨rfl, hb3⟩)
            | (go_at_call 22; refine (refRoot_any none 0 0 (by omega) (fun _ => ByteArray.empty) (fun j hj => absurd hj (by omega)) w3 (.inl rfl)).mono ?_; rintro e w4 ⟨rfl, hb4⟩))
        have B3 : Below w2.heap.size w2 w3 := hB.trans (below_drewL (hb3.mono hB.size))
        have B4 := B3.trans (hb4.mono B3.size)
        go_wp2_with fail
        go_roundw
        case rel => exact ⟨1, by omega, by go_num, B4⟩
        case measure => simp [intOf]
      · obtain rfl : k = 1 := by omega
        go_wp2_with fail
        refine (leaf_l s hs1 _).mono ?_
        rintro e w5 ⟨rfl, hb5⟩
        go_wp2_with fail
        refine (refLeaf_ll s hs1 _).mono ?_
        rintro e w6 ⟨rfl, hb6⟩
        go_wp2_with fail
        refine (inner_l s t hs1 ht1 _).mono ?_
        rintro e w7 ⟨rfl, hb7⟩
        go_wp2_with fail
        refine (refInner_ll s t hs1 ht1 _).mono ?_
        rintro e w8 ⟨rfl, hb8⟩
        go_wp2_with fail
        refine (missing_l _).mono ?_
        rintro e w9 ⟨rfl, hb9⟩
        go_wp2_with fail
        refine (refMissing_l _).mono ?_
        rintro e w10 ⟨rfl, hb10⟩
        have C4 := B2.trans (hB.mono B2.size)
        have C5 := C4.trans (hb5.mono C4.size)
        have C6 := C5.trans (hb6.mono C5.size)
        have C7 := C6.trans (hb7.mono C6.size)
        have C8 := C7.trans (hb8.mono C7.size)
        have C9 := C8.trans (hb9.mono C8.size)
        go_wp2
        go_ret
        exact ⟨rfl, C9.trans (hb10.mono C9.size)⟩
  · go_wp2_with fail
    go_loopw [8] (fun i wr => ∃ k : Nat, k ≤ m + 1 ∧ i = .int .i64 (k : Int) ∧ Below w2.heap.size w2 wr) (fun i _ => m + 1 - (intOf i).toNat)
    case atStart => exact ⟨0, by omega, rfl, Below.refl _ _⟩
    case round =>
      obtain ⟨k, hk, rfl, hB⟩ := hrel
      by_cases hlt : k ≤ m
      · have h1 : (k : Int) ≤ (m : Int) := by omega
        have h2 : (k : Int) ≤ (cap : Int) := by omega
        have h3 : (0 : Int) ≤ (k : Int) := by omega
        have hst1 := (hst.below hB (Nat.le_refl _)).mono hlt
        have HST := hide hst1
        clear hst1
        go_wp2_with fail
        go_region_held3 (fun _ => True) (trivial)
          (first
            | (go_at_call 21; refine (root_any _ k _ (by omega) (fun j => ⟨(cutF S j).toArray⟩) (fun j _ => Nat.le_trans (cut_small S j) (by decide)) wr.drew HST.out.drew).mono ?_; rintro e w3 ⟨rfl, hb3⟩; have HST3 := hide (HST.out.drew.below hb3 (Nat.le_refl _)))
            | (go_at_call 22; refine (refRoot_any _ k _ (by omega) (fun j => ⟨(cutF S j).toArray⟩) (fun j _ => Nat.le_trans (cut_small S j) (by decide)) w3 HST3.out).mono ?_; rintro e w4 ⟨rfl, hb4⟩))
        have B3 : Below w2.heap.size w2 w3 := hB.trans (below_drewL (hb3.mono hB.size))
        have B4 := B3.trans (hb4.mono B3.size)
        go_wp2_with fail
        go_roundw
        case rel => exact ⟨k + 1, by omega, by go_num, B4⟩
        case measure => simp [intOf]; omega
      · have h1 : ¬ (k : Int) ≤ (m : Int) := by omega
        go_wp2_with fail
        refine (leaf_l s hs1 _).mono ?_
        rintro e w5 ⟨rfl, hb5⟩
        go_wp2_with fail
        refine (refLeaf_ll s hs1 _).mono ?_
        rintro e w6 ⟨rfl, hb6⟩
        go_wp2_with fail
        refine (inner_l s t hs1 ht1 _).mono ?_
        rintro e w7 ⟨rfl, hb7⟩
        go_wp2_with fail
        refine (refInner_ll s t hs1 ht1 _).mono ?_
        rintro e w8 ⟨rfl, hb8⟩
        go_wp2_with fail
        refine (missing_l _).mono ?_
        rintro e w9 ⟨rfl, hb9⟩
        go_wp2_with fail
        refine (refMissing_l _).mono ?_
        rintro e w10 ⟨rfl, hb10⟩
        have C4 := B2.trans (hB.mono B2.size)
        have C5 := C4.trans (hb5.mono C4.size)
        have C6 := C5.trans (hb6.mono C5.size)
        have C7 := C6.trans (hb7.mono C6.size)
        have C8 := C7.trans (hb8.mono C7.size)
        have C9 := C8.trans (hb9.mono C8.size)
        go_wp2
        go_ret
        exact ⟨rfl, C9.trans (hb10.mono C9.size)⟩
end Go.Proofs.Ytmiidniihbhkdaa
