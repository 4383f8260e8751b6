/- The law DigestDiffer is true. -/
import Derived.Test.YtmiidniihbhkdaaDKeys
import Derived.Outline
namespace Go.Proofs.Ytmiidniihbhkdaa
open Go.RowKit

theorem chain_len (b s : List UInt8) : (dChain b s).length = 8 := rfl
theorem root_len (S : Nat → ByteArray) (n : Nat) : (rootOf S n).length = 8 := rfl
theorem chain_l (b s : List UInt8) (hb : b.length ≤ 1000) (hs : s.length ≤ 1000) (w : World) : Calls Try.prog 15 #[str b, str s] w fun e w' => e = .returned (str (dChain b s)) ∧ Below w.heap.size w w' := chain_any _ _ (le_of_small hb) (le_of_small hs) w
theorem root_two (s t : List UInt8) (hs : s.length ≤ 1000) (ht : t.length ≤ 1000) (w : World) (b : Nat) (hb : w.heap.size = b) :
    Calls Try.prog 21 #[.slice (some ⟨b, 0, none⟩) 2 2] (w.alloc (.cells #[str s, str t] 9)) fun e w' => e = .returned (str (rootOf (fun j => [(⟨s.toArray⟩ : ByteArray), ⟨t.toArray⟩].getD j ByteArray.empty) 2)) ∧ Below w.heap.size w w' :=
  root_new [⟨s.toArray⟩, ⟨t.toArray⟩] (by simp) (fun x hx => by simp at hx; rcases hx with rfl | rfl; exact le_of_small hs; exact le_of_small ht) w b hb

/-- a change without a tail turns one byte -/
theorem chg_split (i b : Nat) (hb0 : ¬ b = 0) (hb : b < 256) (s : List UInt8) (hs : s ≠ []) : ∃ p c d q, s = p ++ c :: q ∧ chg i b [] s = p ++ d :: q ∧ c ≠ d := by
  have hl : 0 < s.length := List.length_pos_iff.2 hs
  have hi : i % s.length < s.length := Nat.mod_lt _ hl
  refine ⟨s.take (i % s.length), s[i % s.length], s[i % s.length] + UInt8.ofNat b, s.drop (i % s.length + 1), ?_, ?_, ?_⟩
  · rw [List.getElem_cons_drop, List.take_append_drop]
  · simp only [chg, List.take_nil, List.append_nil]
    rw [List.set_eq_take_append_cons_drop, if_pos hi, List.getD_eq_getElem?_getD, List.getElem?_eq_getElem hi]
    rfl
  · intro e
    have := congrArg UInt8.toNat e
    rw [UInt8.toNat_add, UInt8.toNat_ofNat'] at this
    have hc := s[i % s.length].toNat_lt
    omega
theorem set_len (i b : Nat) (s : List UInt8) : (chg i b [] s).length = s.length := by simp [chg]

/-- what the law compares -/
structure Differ (s o t K : List UInt8) : Prop where
  len : o.length = s.length
  one : (dig s == dig o) = false
  leaf : (dig (1 :: s) == dig (1 :: o)) = false
  inner : (dig (2 :: (s ++ t)) == dig (2 :: (o ++ t))) = false
  chain : (dChain s t == dChain o t) = false
  back : (dChain t s == dChain t o) = false
  check : chk K o (dMark K s) = false
theorem ne_of {a b : List UInt8} (h : a ≠ b) : (a == b) = false := by simpa using h
theorem differ {s o t K : List UInt8} {p q : List UInt8} {c d : UInt8} (hs : s = p ++ c :: q) (ho : o = p ++ d :: q) (h : c ≠ d) : Differ s o t K := by
  have hl : o.length = s.length := by rw [hs, ho]; simp
  refine ⟨hl, ne_of ?_, ne_of ?_, ne_of ?_, ne_of ?_, ne_of ?_, ?_⟩
  · rw [hs, ho]; exact dig_ne h
  · rw [hs, ho]; exact dig_ne (p := 1 :: p) h
  · rw [hs, ho, List.append_assoc, List.append_assoc]; exact dig_ne (p := 2 :: p) (q := q ++ t) h
  · rw [dChain, dChain, hl, hs, ho, List.append_assoc, List.append_assoc]
    have := dig_ne (p := 4 :: (le4 (p ++ c :: q).length ++ p)) (q := q ++ t) h
    simpa [List.append_assoc] using this
  · rw [dChain, dChain, hs, ho]
    have := dig_ne (p := 4 :: (le4 t.length ++ (t ++ p))) (q := q) h
    simpa [List.append_assoc] using this
  · have hm : dMark K s ≠ dMark K o := by
      rw [dMark, dMark, hl, hs, ho]
      have := dig_ne (p := 5 :: (le4 K.length ++ (K ++ (le4 (p ++ c :: q).length ++ p)))) (q := q ++ K) h
      simpa [List.append_assoc] using this
    simp [chk, hm]

set_option maxRecDepth 100000 in
set_option maxHeartbeats 8000000 in
theorem differ_true (sb tb : ByteArray) (i b : Nat) (hi : i < 256) (hb : b < 256) (hs : sb.size ≤ 9223372036854775807) (ht : tb.size ≤ 9223372036854775807) (w : World) :
    Calls Try.prog 5 #[.string sb, .int .u8 (i : Int), .int .u8 (b : Int), .string tb] w fun e w' => e = .returned (.bool true) ∧ Below w.heap.size w w' := by
  have B0 := Below.refl w.heap.size w
  go_enter Try.func5, Try.ntmps5
  go_wp2_with fail
  refine (sanity_true w).mono ?_
  rintro e w1 ⟨rfl, hb1⟩
  have B1 := B0.trans (hb1.mono B0.size)
  go_wp2_with fail
  refine (short_any sb hs _).mono ?_
  rintro e w' ⟨rfl, rfl⟩
  go_wp2_with fail
  refine (short_any tb ht _).mono ?_
  rintro e w' ⟨rfl, rfl⟩
  have hs6 := len60 sb
  have ht6 := len60 tb
  generalize (bs sb).take 60 = s at hs6 ⊢
  generalize (bs tb).take 60 = t at ht6 ⊢
  have hs1 : s.length ≤ 1000 := by omega
  have ht1 : t.length ≤ 1000 := by omega
  have L1 := dig_len s
  have L2 := chain_len s t
  have L3 := mark_len s t
  have L4 := root_len (fun j => [(⟨s.toArray⟩ : ByteArray), ⟨t.toArray⟩].getD j ByteArray.empty) 2
  have L5 := dig_len (1 :: s)
  go_wp2_with fail
  refine (of_l s hs1 _).mono ?_
  rintro e w2 ⟨rfl, hb2⟩
  have B2 := B1.trans (hb2.mono B1.size)
  go_wp2_with fail
  refine (chain_l s t hs1 ht1 _).mono ?_
  rintro e w3 ⟨rfl, hb3⟩
  have B3 := B2.trans (hb3.mono B2.size)
  go_wp2_with fail
  refine (mark_l s t hs1 ht1 _).mono ?_
  rintro e w4 ⟨rfl, hb4⟩
  have B4 := B3.trans (hb4.mono B3.size)
  go_wp2_with fail
  refine (root_two s t hs1 ht1 _ _ rfl).mono ?_
  rintro e w5 ⟨rfl, hb5⟩
  have B5 := B4.trans (hb5.mono B4.size)
  go_wp2_with fail
  refine (leaf_l s hs1 _).mono ?_
  rintro e w6 ⟨rfl, hb6⟩
  have B6 := B5.trans (hb6.mono B5.size)
  clear L1 L2 L3 L4 L5
  by_cases hse : s = []
  · subst hse
    go_wp2
    go_ret
    exact ⟨rfl, B6⟩
  by_cases hb0 : b = 0
  · subst hb0
    go_wp2
    all_goals go_ret
    all_goals exact ⟨rfl, B6⟩
  have hsl : ((s.length : Int) == 0) = false := by rw [beq_eq_false_iff_ne]; have := List.length_pos_iff.2 hse; omega
  have hbb : ((b : Int) == 0) = false := by rw [beq_eq_false_iff_ne]; omega
  go_wp2_with fail
  refine (change_l i b hi hb ⟨#[]⟩ (by decide) s hs1 _).mono ?_
  rintro e w7 ⟨rfl, hb7⟩
  have B7 := B6.trans (hb7.mono B6.size)
  rw [show bs ⟨#[]⟩ = [] from rfl]
  obtain ⟨p, c, d, q, es, eo, hcd⟩ := chg_split i b hb0 hb s hse
  generalize chg i b [] s = o at eo ⊢
  have hD : Differ s o t ([107] ++ t) := differ es eo hcd
  have hK : ([107] ++ t).isEmpty = false := rfl
  have hKl : ([107] ++ t).length ≤ 1000 := by rw [List.length_append]; simp; omega
  have ho1 : o.length ≤ 1000 := by rw [hD.len]; omega
  clear es eo hcd
  have hke := mk_append [107] t
  generalize [107] ++ t = K at hD hK hKl hke
  have KE := hide hke
  clear hke
  obtain ⟨-, e1, e2, e3, e4, e5, HC⟩ := hD
  have HCK := hide HC
  have HK := hide hK
  clear HC hK
  go_wp2_with fail
  rw [KE.out]
  refine (mark_l K s hKl hs1 _).mono ?_
  rintro e w8 ⟨rfl, hb8⟩
  have B8 := B7.trans (hb8.mono B7.size)
  go_wp2_with fail
  refine (of_l s hs1 _).mono ?_
  rintro e w9 ⟨rfl, hb9⟩
  have B9 := B8.trans (hb9.mono B8.size)
  go_wp2_with fail
  refine (of_l o ho1 _).mono ?_
  rintro e w10 ⟨rfl, hb10⟩
  have B10 := B9.trans (hb10.mono B9.size)
  go_wp2_with fail
  refine (leaf_l s hs1 _).mono ?_
  rintro e w11 ⟨rfl, hb11⟩
  have B11 := B10.trans (hb11.mono B10.size)
  go_wp2_with fail
  refine (leaf_l o ho1 _).mono ?_
  rintro e w12 ⟨rfl, hb12⟩
  have B12 := B11.trans (hb12.mono B11.size)
  go_wp2_with fail
  refine (inner_l s t hs1 ht1 _).mono ?_
  rintro e w13 ⟨rfl, hb13⟩
  have B13 := B12.trans (hb13.mono B12.size)
  go_wp2_with fail
  refine (inner_l o t ho1 ht1 _).mono ?_
  rintro e w14 ⟨rfl, hb14⟩
  have B14 := B13.trans (hb14.mono B13.size)
  go_wp2_with fail
  refine (chain_l s t hs1 ht1 _).mono ?_
  rintro e w15 ⟨rfl, hb15⟩
  have B15 := B14.trans (hb15.mono B14.size)
  go_wp2_with fail
  refine (chain_l o t ho1 ht1 _).mono ?_
  rintro e w16 ⟨rfl, hb16⟩
  have B16 := B15.trans (hb16.mono B15.size)
  go_wp2_with fail
  refine (chain_l t s ht1 hs1 _).mono ?_
  rintro e w17 ⟨rfl, hb17⟩
  have B17 := B16.trans (hb17.mono B16.size)
  go_wp2_with fail
  refine (chain_l t o ht1 ho1 _).mono ?_
  rintro e w18 ⟨rfl, hb18⟩
  have B18 := B17.trans (hb18.mono B17.size)
  go_wp2_with fail
  rw [KE.out]
  refine (check_l K s (dMark K s) true (chk_self HK.out) hKl hs1 (by rw [mark_len]; omega) _).mono ?_
  rintro e w19 ⟨rfl, hb19⟩
  have B19 := B18.trans (hb19.mono B18.size)
  go_wp2_with fail
  rw [KE.out]
  refine (check_l K o (dMark K s) false HCK.out hKl ho1 (by rw [mark_len]; omega) _).mono ?_
  rintro e w20 ⟨rfl, hb20⟩
  have B20 := B19.trans (hb20.mono B19.size)
  go_wp2
  go_ret
  exact ⟨rfl, B20⟩
end Go.Proofs.Ytmiidniihbhkdaa
