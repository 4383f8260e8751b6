/- sanity: the chapter's examples. -/
import Derived.Test.YtmiidniihbhkdaaDRoot
import Derived.Outline
namespace Go.Proofs.Ytmiidniihbhkdaa
open Go.RowKit

theorem bs_str (l : List UInt8) : bs ⟨l.toArray⟩ = l := rfl
theorem le_of_small {l : List UInt8} (h : l.length ≤ 1000) : (⟨l.toArray⟩ : ByteArray).size ≤ 9223372036854775807 := by rw [size_mk]; omega

theorem of_l (l : List UInt8) (h : l.length ≤ 1000) (w : World) : Calls Try.prog 13 #[.string ⟨l.toArray⟩] w fun e w' => e = .returned (str (dig l)) ∧ Below w.heap.size w w' := of_any _ (le_of_small h) w
theorem leaf_l (l : List UInt8) (h : l.length ≤ 1000) (w : World) : Calls Try.prog 23 #[.string ⟨l.toArray⟩] w fun e w' => e = .returned (str (dig (1 :: l))) ∧ Below w.heap.size w w' := leaf_any _ (le_of_small h) w
theorem inner_l (a b : List UInt8) (ha : a.length ≤ 1000) (hb : b.length ≤ 1000) (w : World) : Calls Try.prog 25 #[.string ⟨a.toArray⟩, .string ⟨b.toArray⟩] w fun e w' => e = .returned (str (dig (2 :: (a ++ b)))) ∧ Below w.heap.size w w' := inner_any _ (le_of_small ha) _ (le_of_small hb) w
theorem missing_l (w : World) : Calls Try.prog 27 #[] w fun e w' => e = .returned (str (dig [3])) ∧ Below w.heap.size w w' := missingP_any w
theorem chain_nil (w : World) : Calls Try.prog 15 #[.string ⟨#[]⟩, .string ⟨#[]⟩] w fun e w' => e = .returned (str (dig [4, 0, 0, 0, 0])) ∧ Below w.heap.size w w' := chain_any ⟨#[]⟩ ⟨#[]⟩ (by decide) (by decide) w
theorem mark_km (w : World) : Calls Try.prog 17 #[.string ⟨#[107]⟩, .string ⟨#[109]⟩] w fun e w' => e = .returned (str (dig [5, 1, 0, 0, 0, 107, 1, 0, 0, 0, 109, 107])) ∧ Below w.heap.size w w' := mark_any ⟨#[107]⟩ ⟨#[109]⟩ (by decide) (by decide) w
theorem mark_m (w : World) : Calls Try.prog 17 #[.string ⟨#[]⟩, .string ⟨#[109]⟩] w fun e w' => e = .returned (str (dMark [] [109])) ∧ Below w.heap.size w w' := mark_any ⟨#[]⟩ ⟨#[109]⟩ (by decide) (by decide) w
theorem check_km (w : World) : Calls Try.prog 18 #[.string ⟨#[107]⟩, .string ⟨#[109]⟩, str (dig [5, 1, 0, 0, 0, 107, 1, 0, 0, 0, 109, 107])] w fun e w' => e = .returned (.bool true) ∧ Below w.heap.size w w' := by
  have h := check_any ⟨#[107]⟩ ⟨#[109]⟩ ⟨(dig [5, 1, 0, 0, 0, 107, 1, 0, 0, 0, 109, 107]).toArray⟩ (by decide) (by decide) (by decide) w
  rw [show chk (bs ⟨#[107]⟩) (bs ⟨#[109]⟩) (bs ⟨(dig [5, 1, 0, 0, 0, 107, 1, 0, 0, 0, 109, 107]).toArray⟩) = true from by
    rw [chk_ne rfl]; exact beq_self_eq_true (dig [5, 1, 0, 0, 0, 107, 1, 0, 0, 0, 109, 107])] at h
  exact h
theorem check_m (w : World) : Calls Try.prog 18 #[.string ⟨#[]⟩, .string ⟨#[109]⟩, str (dMark [] [109])] w fun e w' => e = .returned (.bool false) ∧ Below w.heap.size w w' := by
  have h := check_any ⟨#[]⟩ ⟨#[109]⟩ ⟨(dMark [] [109]).toArray⟩ (by decide) (by decide) (by decide) w
  rw [show chk (bs ⟨#[]⟩) (bs ⟨#[109]⟩) (bs ⟨(dMark [] [109]).toArray⟩) = false from chk_nil rfl] at h
  exact h
theorem of_nil (w : World) : Calls Try.prog 13 #[.string ⟨#[]⟩] w fun e w' => e = .returned (.string ⟨#[0, 0, 0, 17, 0, 0, 0, 29]⟩) ∧ Below w.heap.size w w' := of_any ⟨#[]⟩ (by decide) w
theorem dig_zero : dig [0] = [0, 12, 133, 128, 0, 30, 206, 194] := by decide
theorem of_zero (w : World) : Calls Try.prog 13 #[.string ⟨#[0]⟩] w fun e w' => e = .returned (.string ⟨#[0, 12, 133, 128, 0, 30, 206, 194]⟩) ∧ Below w.heap.size w w' := by
  have h := of_any ⟨#[0]⟩ (by decide) w
  rw [show bs ⟨#[0]⟩ = [0] from rfl, dig_zero] at h
  exact h

/-- the root of a new slice of strings -/
theorem root_new (L : List ByteArray) (hl : L.length ≤ 1099511627776) (hs : ∀ s ∈ L, s.size ≤ 9223372036854775807) (w : World) (b : Nat) (hb : w.heap.size = b) :
    Calls Try.prog 21 #[.slice (some ⟨b, 0, none⟩) L.length L.length] (w.alloc (.cells (L.map Value.string).toArray 9)) fun e w' => e = .returned (str (rootOf (fun j => L.getD j ByteArray.empty) L.length)) ∧ Below w.heap.size w w' := by
  subst hb
  refine (root_any (some ⟨w.heap.size, 0, none⟩) L.length L.length hl _ (fun j hj => hs _ (by simp [List.getD_eq_getElem?_getD, List.getElem?_eq_getElem hj])) _ (strs_new L _ w)).mono ?_
  rintro e w' ⟨rfl, hb⟩
  exact ⟨rfl, ((Below.refl _ w).alloc (Nat.le_refl _) _).trans (hb.mono (by simp))⟩
theorem root_nil (w : World) : Calls Try.prog 21 #[.slice none 0 0] w fun e w' => e = .returned (str (dig [3])) ∧ Below w.heap.size w w' :=
  root_any none 0 0 (by decide) (fun _ => ByteArray.empty) (fun j hj => absurd hj (by omega)) w (.inl rfl)
theorem root_one (w : World) (b : Nat) (hb : w.heap.size = b) : Calls Try.prog 21 #[.slice (some ⟨b, 0, none⟩) 1 1] (w.alloc (.cells #[.string ⟨#[97]⟩] 9)) fun e w' => e = .returned (str (dig [1, 97])) ∧ Below w.heap.size w w' :=
  root_new [⟨#[97]⟩] (by simp) (fun s hs => by simp at hs; subst hs; decide) w b hb
theorem lg3 : lg 3 = 2 := by decide
theorem root_three (w : World) (b : Nat) (hb : w.heap.size = b) : Calls Try.prog 21 #[.slice (some ⟨b, 0, none⟩) 3 3] (w.alloc (.cells #[.string ⟨#[97]⟩, .string ⟨#[98]⟩, .string ⟨#[99]⟩] 9)) fun e w' => e = .returned (str (dig (2 :: (dig (2 :: (dig [1, 97] ++ dig [1, 98])) ++ dig (2 :: (dig [1, 99] ++ dig [3])))))) ∧ Below w.heap.size w w' := by
  have h := root_new [⟨#[97]⟩, ⟨#[98]⟩, ⟨#[99]⟩] (by simp) (fun s hs => by simp at hs; rcases hs with rfl | rfl | rfl <;> decide) w b hb
  have e : rootOf (fun j => [(⟨#[97]⟩ : ByteArray), ⟨#[98]⟩, ⟨#[99]⟩].getD j ByteArray.empty) 3 = dig (2 :: (dig (2 :: (dig [1, 97] ++ dig [1, 98])) ++ dig (2 :: (dig [1, 99] ++ dig [3])))) := by
    unfold rootOf
    rw [lg3]
    rfl
  rw [show [(⟨#[97]⟩ : ByteArray), ⟨#[98]⟩, ⟨#[99]⟩].length = 3 from rfl, e] at h
  exact h

theorem of_eq (s : ByteArray) (l : List UInt8) (h : bs s = l) (hl : l.length ≤ 1000) (w : World) : Calls Try.prog 13 #[.string s] w fun e w' => e = .returned (str (dig l)) ∧ Below w.heap.size w w' := by
  subst h
  exact of_any s (by rw [bs_len] at hl; omega) w
theorem bs_two (a : Array UInt8) (l m : List UInt8) : bs ((⟨a⟩ : ByteArray) ++ ⟨l.toArray⟩ ++ ⟨m.toArray⟩) = a.toList ++ l ++ m := by rw [bs_append, bs_append]; rfl

set_option maxRecDepth 100000 in
set_option maxHeartbeats 8000000 in
theorem sanity_true (w : World) : Calls Try.prog 9 #[] w fun e w' => e = .returned (.bool true) ∧ Below w.heap.size w w' := by
  go_enter Try.func9, Try.ntmps9
  go_wp2_with fail
  refine (of_l [1, 97] (by decide) _).mono ?_
  rintro e w1 ⟨rfl, hb1⟩
  have B1 := hb1
  go_wp2_with fail
  refine (of_l [1, 98] (by decide) _).mono ?_
  rintro e w2 ⟨rfl, hb2⟩
  have B2 := B1.trans (hb2.mono B1.size)
  go_wp2_with fail
  refine (of_l [1, 99] (by decide) _).mono ?_
  rintro e w3 ⟨rfl, hb3⟩
  have B3 := B2.trans (hb3.mono B2.size)
  go_wp2_with fail
  refine (of_l [3] (by decide) _).mono ?_
  rintro e w4 ⟨rfl, hb4⟩
  have B4 := B3.trans (hb4.mono B3.size)
  go_wp2_with fail
  refine (mark_km _).mono ?_
  rintro e w5 ⟨rfl, hb5⟩
  have B5 := B4.trans (hb5.mono B4.size)
  go_wp2_with fail
  refine (of_nil _).mono ?_
  rintro e w6 ⟨rfl, hb6⟩
  have B6 := B5.trans (hb6.mono B5.size)
  go_wp2_with fail
  refine (of_zero _).mono ?_
  rintro e w7 ⟨rfl, hb7⟩
  have B7 := B6.trans (hb7.mono B6.size)
  go_wp2_with fail
  refine (chain_nil _).mono ?_
  rintro e w8 ⟨rfl, hb8⟩
  have B8 := B7.trans (hb8.mono B7.size)
  go_wp2_with fail
  refine (of_l [4, 0, 0, 0, 0] (by decide) _).mono ?_
  rintro e w9 ⟨rfl, hb9⟩
  have B9 := B8.trans (hb9.mono B8.size)
  go_wp2_with fail
  refine (of_l [5, 1, 0, 0, 0, 107, 1, 0, 0, 0, 109, 107] (by decide) _).mono ?_
  rintro e w10 ⟨rfl, hb10⟩
  have B10 := B9.trans (hb10.mono B9.size)
  go_wp2_with fail
  refine (check_km _).mono ?_
  rintro e w11 ⟨rfl, hb11⟩
  have B11 := B10.trans (hb11.mono B10.size)
  go_wp2_with fail
  refine (mark_m _).mono ?_
  rintro e w12 ⟨rfl, hb12⟩
  have B12 := B11.trans (hb12.mono B11.size)
  go_wp2_with fail
  refine (check_m _).mono ?_
  rintro e w13 ⟨rfl, hb13⟩
  have B13 := B12.trans (hb13.mono B12.size)
  go_wp2_with fail
  refine (leaf_l [97] (by decide) _).mono ?_
  rintro e w14 ⟨rfl, hb14⟩
  have B14 := B13.trans (hb14.mono B13.size)
  go_wp2_with fail
  refine (inner_l [97] [98] (by decide) (by decide) _).mono ?_
  rintro e w15 ⟨rfl, hb15⟩
  have B15 := B14.trans (hb15.mono B14.size)
  go_wp2_with fail
  refine (of_l [2, 97, 98] (by decide) _).mono ?_
  rintro e w16 ⟨rfl, hb16⟩
  have B16 := B15.trans (hb16.mono B15.size)
  go_wp2_with fail
  refine (missing_l _).mono ?_
  rintro e w17 ⟨rfl, hb17⟩
  have B17 := B16.trans (hb17.mono B16.size)
  go_wp2_with fail
  refine (root_nil _).mono ?_
  rintro e w18 ⟨rfl, hb18⟩
  have B18 := B17.trans (hb18.mono B17.size)
  go_wp2_with fail
  refine (root_one _ _ rfl).mono ?_
  rintro e w19 ⟨rfl, hb19⟩
  have B19 := B18.trans (hb19.mono B18.size)
  go_wp2_with fail
  refine (root_three _ _ rfl).mono ?_
  rintro e w20 ⟨rfl, hb20⟩
  have B20 := B19.trans (hb20.mono B19.size)
  go_wp2_with fail
  refine (of_eq _ (2 :: (dig [1, 97] ++ dig [1, 98])) (bs_two _ _ _) (by decide) _).mono ?_
  rintro e w21 ⟨rfl, hb21⟩
  have B21 := B20.trans (hb21.mono B20.size)
  go_wp2_with fail
  refine (of_eq _ (2 :: (dig [1, 99] ++ dig [3])) (bs_two _ _ _) (by decide) _).mono ?_
  rintro e w22 ⟨rfl, hb22⟩
  have B22 := B21.trans (hb22.mono B21.size)
  go_wp2_with fail
  refine (of_eq _ (2 :: (dig (2 :: (dig [1, 97] ++ dig [1, 98])) ++ dig (2 :: (dig [1, 99] ++ dig [3])))) (bs_two _ _ _) (by decide) _).mono ?_
  rintro e w23 ⟨rfl, hb23⟩
  have B23 := B22.trans (hb23.mono B22.size)
  go_wp2
  go_ret
  exact ⟨rfl, B23⟩
end Go.Proofs.Ytmiidniihbhkdaa
