/- num's Parse of a number's text. -/
import Derived.Test.YtmpdeiopdempcaaGreatDoorTxB
namespace Go.Proofs.YtmpdeiopdempcaaGreatDoor
open Go.RowKit Go.Shelf

theorem nd_fitk {u k : Nat} (hk : 0 < k) (h : u < bp k) : Lib.nDigits u ≤ 10 * k := by
  have e : bp k ≤ 10 ^ (10 * k) := by
    rw [Nat.pow_mul]
    exact Nat.pow_le_pow_left (by decide) k
  obtain ⟨m, hm⟩ : ∃ m, 10 * k = m + 1 := ⟨10 * k - 1, by omega⟩
  rw [hm] at e ⊢
  exact nd_le m u (Nat.lt_of_lt_of_le h e)
theorem nd_fit {u : Nat} (h : dlen u ≤ 64) : Lib.nDigits u ≤ 640 := nd_fitk (k := 64) (by decide) (dlen_le_iff.1 h)
theorem cutZ (z : Int) (w : World) : Calls Tryz.prog 55 #[.string ⟨(txtZ z).toArray⟩, .string ⟨#[45]⟩] w fun e w' => e = .returned (.tuple #[.string ⟨(Lib.decDigits z.natAbs).toArray⟩, .bool (decide (z < 0))]) ∧ w' = w := by
  refine (Tryz.strings_CutPrefix ⟨(txtZ z).toArray⟩ ⟨#[45]⟩ w).mono ?_
  rintro e w' ⟨rfl, rfl⟩
  refine ⟨?_, rfl⟩
  by_cases hz : z < 0
  · rw [txtZ_neg hz]
    simp [Lib.trimPrefix, Lib.hasPrefix, hz]
  · rw [txtZ_nonneg hz]
    obtain ⟨c, r, h1, h2, -⟩ := dec_head z.natAbs
    have hc : ¬ (45 : UInt8) = c := by
      rintro rfl
      exact absurd h2 (by decide)
    have hp : List.isPrefixOf [(45 : UInt8)] (c :: r) = false := by
      show ((45 == c) && List.isPrefixOf [] r) = false
      rw [beq_eq_false_iff_ne.2 hc]; rfl
    rw [h1]
    simp [Lib.trimPrefix, Lib.hasPrefix, hz, hp]

set_option maxRecDepth 100000 in
set_option maxHeartbeats 2000000 in
theorem parse_pos (z : Int) (hz : dlen z.natAbs ≤ 64) (h0 : z ≠ 0) (w : World) : Calls Tryz.prog 21 #[.string ⟨(txtZ z).toArray⟩] w (NumPost w z) := by
  obtain ⟨c, r, hcr, hcd, hc0⟩ := dec_head z.natAbs
  have hlen : (Lib.decDigits z.natAbs).length ≤ 640 := by rw [Lib.decDigits_length]; exact nd_fit hz
  have hpd := fun W => pdec_ok (Lib.decDigits z.natAbs) hlen (dec_digits z.natAbs).1 W
  rw [(dec_digits z.natAbs).2] at hpd
  have hcut := fun W => cutZ z W
  rw [hcr] at hlen hpd hcut
  have HP := hide hpd
  have HCUT := hide hcut
  simp only [List.length_cons] at hlen
  have hsz : (⟨(c :: r).toArray⟩ : ByteArray).size = r.length + 1 := by rw [bytes_size]; rfl
  have hl0 : ((r.length : Int) + 1 == 0) = false := by simp; omega
  have hl1 : ¬ (640 : Int) < (r.length : Int) + 1 := by omega
  have hc48 : ((((⟨(c :: r).toArray⟩ : ByteArray)[0]'(by rw [hsz]; omega)).toNat : Int) == 48) = false := by
    show ((c.toNat : Int) == 48) = false
    have := hc0 (by omega)
    simp; omega
  have hz' : z = signed (decide (z < 0)) z.natAbs := by
    unfold signed; by_cases h : z < 0 <;> simp [h] <;> omega
  obtain ⟨t, ht⟩ : ∃ t, txtZ z = t := ⟨_, rfl⟩
  obtain ⟨neg, hneg⟩ : ∃ neg, decide (z < 0) = neg := ⟨_, rfl⟩
  rw [ht] at HCUT ⊢
  rw [hneg] at HCUT hz'
  have HZ := hide hz'
  clear hpd hcut hcr hc0 hz' ht hneg
  go_enter Tryz.func21, Tryz.ntmps21
  go_wp2_with fail
  have bC : Box2 (w.alloc (Obj.cells #[Value.bool false, Value.slice none 0 0] 27)) w.heap.size (.bool false) (.slice none 0 0) := Box2.new _ _ _ _
  have hB0 : Below w.heap.size w (w.alloc (Obj.cells #[Value.bool false, Value.slice none 0 0] 27)) := (Below.refl _ w).alloc (Nat.le_refl _) _
  obtain ⟨W0, hW0⟩ : ∃ W0, w.alloc (Obj.cells #[Value.bool false, Value.slice none 0 0] 27) = W0 := ⟨_, rfl⟩
  rw [hW0] at bC hB0 ⊢
  clear hW0
  refine (HCUT.out W0).mono ?_
  rintro e w' ⟨rfl, rfl⟩
  go_wp2_with fail
  refine (HP.out w').mono ?_
  rintro e w1 ⟨a1, n1, c1, rfl, hd1, hc1, hf1, hb1⟩
  have hB1 := hB0.trans (hb1.mono hB0.size)
  have bC1 := bC.below hb1 bC.lt
  go_wp2_with fail
  refine (number_of neg a1 n1 c1 z.natAbs hc1 (by rw [hd1.len]; exact hz) w1 hd1).mono ?_
  rintro e w2 ⟨s2, a2, n2, c2, rfl, hn2, ha2, hb2⟩
  have hB2 := hB1.trans (hb2.mono hB1.size)
  have bC2 := bC1.below hb2 bC1.lt
  have hlt := bC.lt
  have hfq : n2 = 0 ∨ ∀ ad, a2 = some ad → w'.heap.size ≤ ad.block := by
    have hn43 : n2 = n1 := by rw [hn2.dig.len, hd1.len, signed_abs]
    rcases ha2 with h | h
    · exact .inl h
    · rcases hf1 with h' | h'
      · exact .inl (hn43.trans h')
      · exact .inr fun ad e => h' ad (h ▸ e)
  rw [← HZ.out] at hn2
  obtain ⟨hbx, hN, hBB⟩ := num_store (cap := c2) bC2 (Nat.le_refl _) hB2 hn2 (hfq.imp id fun h ad e => by have := h ad e; omega)
  have hN' := hide hN
  clear hN
  obtain ⟨q0, q1, -, -⟩ := hbx
  obtain ⟨r0, r1, z0, z1⟩ := bC2
  go_wp2
  exact bodyPost_ret (v := .tuple #[.agg #[.bool s2, .slice a2 n2 c2], .bool true]) (by simp [results, Tryz.results21, go_sem, q0, q1]) rfl ⟨_, _, _, _, rfl, hN'.out, hfq.imp id fun h ad e => Nat.le_trans hB0.size (h ad e), hBB⟩

theorem txtZ_zero : txtZ 0 = [48] := by rw [txtZ_nonneg (by decide)]; exact dec_small (by decide)
set_option maxRecDepth 100000 in
set_option maxHeartbeats 2000000 in
theorem parse_zero (w : World) : Calls Tryz.prog 21 #[.string ⟨#[48]⟩] w (NumPost w 0) := by
  have hpd := fun W => pdec_ok [48] (by decide) (by intro c hc; obtain rfl := List.mem_singleton.1 hc; decide) W
  have hdv : dv [48] = 0 := dv_one 48
  rw [hdv] at hpd
  have hcut := fun W => cutZ 0 W
  rw [txtZ_zero] at hcut
  have hd0 : Lib.decDigits (0 : Int).natAbs = [48] := dec_small (by decide)
  rw [hd0] at hcut
  have HP : Hid (∀ W, Calls Tryz.prog 56 #[.string ⟨#[48]⟩] W fun e w' => ∃ (a : Option Addr) (n c : Nat), e = .returned (.tuple #[.slice a n c, .bool true]) ∧ IsD w' a n 0 ∧ n ≤ c ∧ (n = 0 ∨ Fresh W a) ∧ Below W.heap.size W w') := hpd
  have HCUT : Hid (∀ W, Calls Tryz.prog 55 #[.string ⟨#[48]⟩, .string ⟨#[45]⟩] W fun e w' => e = .returned (.tuple #[.string ⟨#[48]⟩, .bool false]) ∧ w' = W) := hcut
  clear hpd hcut hdv hd0
  go_enter Tryz.func21, Tryz.ntmps21
  go_wp2_with fail
  have bC : Box2 (w.alloc (Obj.cells #[Value.bool false, Value.slice none 0 0] 27)) w.heap.size (.bool false) (.slice none 0 0) := Box2.new _ _ _ _
  have hB0 : Below w.heap.size w (w.alloc (Obj.cells #[Value.bool false, Value.slice none 0 0] 27)) := (Below.refl _ w).alloc (Nat.le_refl _) _
  obtain ⟨W0, hW0⟩ : ∃ W0, w.alloc (Obj.cells #[Value.bool false, Value.slice none 0 0] 27) = W0 := ⟨_, rfl⟩
  rw [hW0] at bC hB0 ⊢
  clear hW0
  refine (HCUT.out W0).mono ?_
  rintro e w' ⟨rfl, rfl⟩
  go_wp2_with fail
  refine (HP.out w').mono ?_
  rintro e w1 ⟨a1, n1, c1, rfl, hd1, hc1, hf1, hb1⟩
  have hB1 := hB0.trans (hb1.mono hB0.size)
  have bC1 := bC.below hb1 bC.lt
  go_wp2_with fail
  refine (number_of false a1 n1 c1 0 hc1 (by rw [hd1.len, dlen_zero]; decide) w1 hd1).mono ?_
  rintro e w2 ⟨s2, a2, n2, c2, rfl, hn2, ha2, hb2⟩
  have hB2 := hB1.trans (hb2.mono hB1.size)
  have bC2 := bC1.below hb2 bC1.lt
  rw [show signed false 0 = 0 from rfl] at hn2
  obtain rfl : n2 = 0 := by rw [hn2.dig.len]; exact dlen_zero
  obtain ⟨hbx, hN, hBB⟩ := num_store (cap := c2) bC2 (Nat.le_refl _) hB2 hn2 (.inl rfl)
  have hN' := hide hN
  clear hN
  obtain ⟨q0, q1, -, -⟩ := hbx
  obtain ⟨r0, r1, z0, z1⟩ := bC2
  go_wp2
  exact bodyPost_ret (v := .tuple #[.agg #[.bool s2, .slice a2 0 c2], .bool true]) (by simp [results, Tryz.results21, go_sem, q0, q1]) rfl ⟨_, _, _, _, rfl, hN'.out, .inl rfl, hBB⟩
theorem parse_txt (z : Int) (hz : dlen z.natAbs ≤ 64) (w : World) : Calls Tryz.prog 21 #[.string ⟨(txtZ z).toArray⟩] w (NumPost w z) := by
  by_cases h0 : z = 0
  · subst h0; rw [txtZ_zero]; exact parse_zero w
  · exact parse_pos z hz h0 w
end Go.Proofs.YtmpdeiopdempcaaGreatDoor
