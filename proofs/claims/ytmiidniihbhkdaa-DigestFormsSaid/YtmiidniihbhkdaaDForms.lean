/- The law DigestForms is true. -/
import Derived.Test.YtmiidniihbhkdaaDTrees
import Derived.Outline
namespace Go.Proofs.Ytmiidniihbhkdaa
open Go.RowKit

/-- pairs of strings that lie in a block -/
def Pairs (w : World) (b n : Nat) (p q : Nat → List UInt8) : Prop := ∀ j, j < n → w.cell? ⟨b, j * 2, none⟩ = some (str (p j)) ∧ w.cell? ⟨b, j * 2 + 1, none⟩ = some (str (q j))
theorem Pairs.below {w w' : World} {b n B : Nat} {p q : Nat → List UInt8} (h : Pairs w b n p q) (t : Below B w w') (hb : b < B) : Pairs w' b n p q := fun j hj =>
  ⟨(t.cell (p := ⟨b, j * 2, none⟩) hb).trans (h j hj).1, (t.cell (p := ⟨b, j * 2 + 1, none⟩) hb).trans (h j hj).2⟩
/-- a variable of two strings -/
structure Two (w : World) (b : Nat) (x y : List UInt8) : Prop where
  c0 : w.cell? ⟨b, 0, none⟩ = some (str x)
  c1 : w.cell? ⟨b, 1, none⟩ = some (str y)
theorem Two.lt {w : World} {b : Nat} {x y : List UInt8} (h : Two w b x y) : b < w.heap.size := lt_of_cell h.c0
theorem Two.drew {w : World} {b : Nat} {x y : List UInt8} (h : Two w b x y) : Two w.drew b x y := ⟨h.c0, h.c1⟩
theorem Two.below {w w' : World} {b B : Nat} {x y : List UInt8} (h : Two w b x y) (t : Below B w w') (hb : b < B) : Two w' b x y := ⟨(t.cell (p := ⟨b, 0, none⟩) hb).trans h.c0, (t.cell (p := ⟨b, 1, none⟩) hb).trans h.c1⟩
theorem Two.both {w : World} {b : Nat} {x y : List UInt8} (h : Two w b x y) : w.cell? ⟨b, 0, none⟩ = some (str x) ∧ w.cell? ⟨b, 1, none⟩ = some (str y) := ⟨h.c0, h.c1⟩
theorem Chg3.fourth {w : World} {B X i b : Nat} {t : ByteArray} {x y : List UInt8} (c : Chg3 w B i b t) (n : Two w X x y) : w.cell? ⟨B, 0, none⟩ = some (.int .u8 (i : Int)) ∧ w.cell? ⟨B, 1, none⟩ = some (.int .u8 (b : Int)) ∧ w.cell? ⟨B, 2, none⟩ = some (.string t) ∧ w.cell? ⟨X, 1, none⟩ = some (str y) := ⟨c.1, c.2.1, c.2.2, n.c1⟩
theorem refOf_l (l : List UInt8) (h : l.length ≤ 1000) (w : World) : Calls Try.prog 14 #[str l] w fun e w' => e = .returned (str (dig l)) ∧ Below w.heap.size w w' := refOf_any _ (by rw [size_mk]; omega) w
theorem refChain_l (a b : List UInt8) (ha : a.length ≤ 1000) (hb : b.length ≤ 1000) (w : World) : Calls Try.prog 16 #[str a, str b] w fun e w' => e = .returned (str (dChain a b)) ∧ Below w.heap.size w w' := refChain_any _ (le_of_small' ha) _ (le_of_small' hb) w
theorem refCheck_l (k m x : List UInt8) (hk : k.length ≤ 1000) (hm : m.length ≤ 1000) (w : World) : Calls Try.prog 19 #[str k, str m, str x] w fun e w' => e = .returned (.bool (chk k m x)) ∧ Below w.heap.size w w' := refCheck_any _ _ _ (le_of_small' hk) (le_of_small' hm) w

set_option maxRecDepth 100000 in
set_option maxHeartbeats 4000000 in
theorem forms_true (sb tb u : ByteArray) (i b : Nat) (hi : i < 256) (hb : b < 256) (hsb : sb.size ≤ 9223372036854775807) (htb : tb.size ≤ 9223372036854775807) (hu : u.size ≤ 9223372036854775807) (w : World) :
    Calls Try.prog 3 #[.string sb, .string tb, .agg #[.int .u8 (i : Int), .int .u8 (b : Int), .string u]] w fun e w' => e = .returned (.bool true) ∧ Below w.heap.size w w' := by
  have c0 := Chg3.new w i b u 23
  have B0 := below_alloc' w (.cells #[.int .u8 (i : Int), .int .u8 (b : Int), .string u] 23)
  go_enter Try.func3, Try.ntmps3
  go_wp2_with fail
  generalize w.alloc (.cells #[.int .u8 (i : Int), .int .u8 (b : Int), .string u] 23) = W0 at c0 B0 ⊢
  refine (sanity_true W0).mono ?_
  rintro e w1 ⟨rfl, hb1⟩
  have c1 := c0.below hb1 c0.lt
  have B1 := B0.trans (hb1.mono B0.size)
  go_wp2_with fail
  refine (short_any sb hsb _).mono ?_
  rintro e w' ⟨rfl, rfl⟩
  go_wp2_with fail
  refine (short_any tb htb _).mono ?_
  rintro e w' ⟨rfl, rfl⟩
  have hs6 := len60 sb
  have ht6 := len60 tb
  generalize (bs sb).take 60 = s at hs6 ⊢
  generalize (bs tb).take 60 = t at ht6 ⊢
  have hs1 : s.length ≤ 1000 := by omega
  have ht1 : t.length ≤ 1000 := by omega
  obtain ⟨r0, r1, r2⟩ := id c1
  go_wp2_with fail
  refine (change_l i b hi hb u hu s hs1 _).mono ?_
  rintro e w2 ⟨rfl, hb2⟩
  have c2 := c1.below hb2 c1.lt
  have B2 := B1.trans (hb2.mono B1.size)
  have ho6 := chg_len i b (bs u) s hs6
  generalize chg i b (bs u) s = o at ho6 ⊢
  clear r0 r1 r2 c0 c1 hb1 hb2
  have hadd : ∀ W : World, (Op.stringOp .add ⟨s.toArray⟩ ⟨t.toArray⟩).run Try.prog W = .ok (str (s ++ t)) W := fun W => by
    have h := run_string_add_sum (P := Try.prog) W ⟨s.toArray⟩ ⟨t.toArray⟩ (by rw [size_mk, size_mk]; omega)
    rw [mk_append] at h
    exact h
  go_wp2_with fail
  obtain ⟨p, hp⟩ : ∃ p : Nat → List UInt8, p = fun j => [s, t, s, s ++ t].getD j [] := ⟨_, rfl⟩
  obtain ⟨q, hq⟩ : ∃ q : Nat → List UInt8, q = fun j => [t, s, o, []].getD j [] := ⟨_, rfl⟩
  have hP : Pairs (w2.alloc (.cells #[str s, str t, str t, str s, str s, str o, str (s ++ t), .string ⟨#[]⟩] 26)) w2.heap.size 4 p q := by
    intro j hj
    rw [hp, hq]
    match j, hj with
    | 0, _ | 1, _ | 2, _ | 3, _ => simp [go_sem]
  have hpl : ∀ j, (p j).length ≤ 500 ∧ (q j).length ≤ 500 := by
    intro j
    rw [hp, hq]
    match j with
    | 0 | 1 | 2 | 3 => simp; omega
    | j + 4 => simp
  have c3 := c2.below (below_alloc' w2 (.cells #[str s, str t, str t, str s, str s, str o, str (s ++ t), .string ⟨#[]⟩] 26)) c2.lt
  have B3 := B2.trans ((below_alloc' w2 (.cells #[str s, str t, str t, str s, str s, str o, str (s ++ t), .string ⟨#[]⟩] 26)).mono B2.size)
  generalize w2.alloc (.cells #[str s, str t, str t, str s, str s, str o, str (s ++ t), .string ⟨#[]⟩] 26) = W3 at hP c3 B3 ⊢
  generalize w2.heap.size = b3 at hP ⊢
  have HPL := hide hpl
  clear hadd hp hq hpl c2 B2
  go_loopw [35] (fun x wr => ∃ k : Nat, k ≤ 4 ∧ x = .int .i64 (k : Int) ∧ Below w.heap.size w wr ∧ Chg3 wr w.heap.size i b u ∧ Pairs wr b3 4 p q) (fun x _ => 4 - (intOf x).toNat)
  case atStart => exact ⟨0, by omega, rfl, B3, c3, hP⟩
  case round =>
    obtain ⟨k, hk, rfl, hB, hC, hP⟩ := hrel
    by_cases hlt : k < 4
    · obtain ⟨hx, hy⟩ := hP k hlt
      obtain ⟨hxl, hyl⟩ := HPL.out k
      generalize p k = x at hx hxl
      generalize q k = y at hy hyl
      have hx1 : x.length ≤ 1000 := by omega
      have hy1 : y.length ≤ 1000 := by omega
      have h1 : (k : Int) < 4 := by omega
      go_wp2_with fail
      have M0 : Two (wr.alloc (.cells #[str x, str y] 26)) wr.heap.size x y := ⟨by simp [go_sem], by simp [go_sem]⟩
      have C0 := hC.below (below_alloc' wr (.cells #[str x, str y] 26)) hC.lt
      have B0 := hB.trans ((below_alloc' wr (.cells #[str x, str y] 26)).mono hB.size)
      have P0 := hP.below (below_alloc' wr (.cells #[str x, str y] 26)) (lt_of_cell hx)
      clear hC hB hP hx hy
      generalize wr.alloc (.cells #[str x, str y] 26) = V0 at M0 C0 B0 P0 ⊢
      generalize wr.heap.size = X at M0 ⊢
      refine (refMark_l x y hx1 hy1 _).mono ?_
      rintro e V1 ⟨rfl, hv1⟩
      have M1 := (M0.below hv1 M0.lt).drew
      have C1 := C0.below hv1 C0.lt
      have B1 := B0.trans (hv1.mono B0.size)
      have P1 := P0.below hv1 (lt_of_cell (P0 0 (by omega)).1)
      clear M0 C0 B0 P0
      have K1 := M1.both
      go_wp2_with fail
      go_region_held3 (fun w' => w'.cell? ⟨X, 0, none⟩ = some (str x) ∧ w'.cell? ⟨X, 1, none⟩ = some (str y))
        (first | with_reducible exact K1 | with_reducible exact K2 | with_reducible exact K3 | with_reducible exact K4 | with_reducible exact K5 | with_reducible exact K6 | go_keep)
        (first
          | (go_at_call 13; (with_reducible refine (of_l x hx1 _).mono ?_); rintro e w2 ⟨rfl, hb2⟩; have M2 := M1.below hb2 M1.lt; have K2 := M2.both)
          | (go_at_call 14; (with_reducible refine (refOf_l x hx1 _).mono ?_); rintro e w3 ⟨rfl, hb3⟩; have M3 := M2.below hb3 M2.lt; have K3 := M3.both)
          | (go_at_call 15; (with_reducible refine (chain_l x y hx1 hy1 _).mono ?_); rintro e w4 ⟨rfl, hb4⟩; have M4 := M3.below hb4 M3.lt; have K4 := M4.both)
          | (go_at_call 16; (with_reducible refine (refChain_l x y hx1 hy1 _).mono ?_); rintro e w5 ⟨rfl, hb5⟩; have M5 := M4.below hb5 M4.lt; have K5 := M5.both)
          | (go_at_call 17; (with_reducible refine (mark_l x y hx1 hy1 _).mono ?_); rintro e w6 ⟨rfl, hb6⟩; have M6 := M5.below hb6 M5.lt; have K6 := M6.both))
      have E6 : Below V1.heap.size V1 w6 := (((below_drewL hb2).trans (hb3.mono hb2.size)).trans (hb4.mono (Nat.le_trans hb2.size hb3.size))).trans ((hb5.mono (Nat.le_trans hb2.size (Nat.le_trans hb3.size hb4.size))).trans (hb6.mono (Nat.le_trans hb2.size (Nat.le_trans hb3.size (Nat.le_trans hb4.size hb5.size)))))
      have C6 := (C1.below E6 C1.lt).drew
      have B6 := B1.trans (E6.mono B1.size)
      have P6 := P1.below E6 (lt_of_cell (P1 0 (by omega)).1)
      have N6 := M6.drew
      have hM8 : (dMark x y).length = 8 := rfl
      clear K1 K2 K3 K4 K5 K6 M1 M2 M3 M4 M5 M6 C1 B1 P1 hb2 hb3 hb4 hb5 hb6 hv1 E6
      generalize dMark x y = M at hM8 ⊢
      have hx7 : (⟨M.toArray⟩ : ByteArray).extract 0 7 = ⟨(M.take 7).toArray⟩ := extract_take _ 7
      have HX7 := hide hx7
      have h7 : (7 : Int) ≤ (M.length : Int) := by omega
      have hM1 : M.length ≤ 1000 := by omega
      clear hx7
      have K1 := C6.fourth N6
      go_wp2_with fail
      go_region_held3 (fun w' => w'.cell? ⟨w.heap.size, 0, none⟩ = some (.int .u8 (i : Int)) ∧ w'.cell? ⟨w.heap.size, 1, none⟩ = some (.int .u8 (b : Int)) ∧ w'.cell? ⟨w.heap.size, 2, none⟩ = some (.string u) ∧ w'.cell? ⟨X, 1, none⟩ = some (str y))
        (first | with_reducible exact K1 | with_reducible exact K2 | with_reducible exact K3 | go_keep)
        (first
          | (go_at_call 11; (with_reducible refine (change_l i b hi hb u hu M hM1 _).mono ?_); rintro e w7 ⟨rfl, hb7⟩; have C7 := C6.below hb7 C6.lt; have N7 := N6.below hb7 N6.lt; have K2 := C7.fourth N7))
      have B7 : Below w.heap.size w w7 := B6.trans (below_drewL (hb7.mono B6.size))
      have P7 := (show Pairs w6.drew b3 4 p q from P6).below hb7 (lt_of_cell (P6 0 (by omega)).1)
      have A8 := below_alloc' w7 (.cells #[str M, str (chg i b (bs u) M), str y, .string ((⟨M.toArray⟩ : ByteArray).extract 0 7)] 9)
      have C8 := C7.below A8 C7.lt
      have N8 := N7.below A8 N7.lt
      have B8 := B7.trans (A8.mono B7.size)
      have P8 := P7.below A8 (lt_of_cell (P7 0 (by omega)).1)
      have hS8 : Strs (w7.alloc (.cells #[str M, str (chg i b (bs u) M), str y, .string ((⟨M.toArray⟩ : ByteArray).extract 0 7)] 9)) (some ⟨w7.heap.size, 0, none⟩) 4 (fun j => [(⟨M.toArray⟩ : ByteArray), ⟨(chg i b (bs u) M).toArray⟩, ⟨y.toArray⟩, (⟨M.toArray⟩ : ByteArray).extract 0 7].getD j ByteArray.empty) := strs_new [(⟨M.toArray⟩ : ByteArray), ⟨(chg i b (bs u) M).toArray⟩, ⟨y.toArray⟩, (⟨M.toArray⟩ : ByteArray).extract 0 7] 9 w7
      have hcl := chg_len i b (bs u) M (by omega)
      have hg : ∀ j, ((fun j => [(⟨M.toArray⟩ : ByteArray), ⟨(chg i b (bs u) M).toArray⟩, ⟨y.toArray⟩, (⟨M.toArray⟩ : ByteArray).extract 0 7].getD j ByteArray.empty) j).size ≤ 1000 := by
        intro j
        simp only [HX7.out]
        match j with
        | 0 => show (⟨M.toArray⟩ : ByteArray).size ≤ 1000; rw [size_mk]; omega
        | 1 => show (⟨(chg i b (bs u) M).toArray⟩ : ByteArray).size ≤ 1000; rw [size_mk]; omega
        | 2 => show (⟨y.toArray⟩ : ByteArray).size ≤ 1000; rw [size_mk]; omega
        | 3 => show (⟨(M.take 7).toArray⟩ : ByteArray).size ≤ 1000; rw [size_mk, List.length_take]; omega
        | n + 4 => show ByteArray.empty.size ≤ 1000; decide
      generalize (fun j => [(⟨M.toArray⟩ : ByteArray), ⟨(chg i b (bs u) M).toArray⟩, ⟨y.toArray⟩, (⟨M.toArray⟩ : ByteArray).extract 0 7].getD j ByteArray.empty) = G at hS8 hg
      have HG := hide hg
      generalize w7.alloc (.cells #[str M, str (chg i b (bs u) M), str y, .string ((⟨M.toArray⟩ : ByteArray).extract 0 7)] 9) = W8 at C8 N8 B8 P8 hS8 ⊢
      generalize w7.heap.size = b4 at hS8 ⊢
      clear K1 K2 C6 C7 N6 N7 B6 B7 P6 P7 A8 hb7 hg hcl
      go_wp2_with fail
      go_loopw [83] (fun z wr => ∃ j : Nat, j ≤ 4 ∧ z = .int .i64 (j : Int) ∧ Below w.heap.size w wr ∧ Chg3 wr w.heap.size i b u ∧ Pairs wr b3 4 p q ∧ Two wr X x y ∧ Strs wr (some ⟨b4, 0, none⟩) 4 G) (fun z _ => 4 - (intOf z).toNat)
      case atStart => exact ⟨0, by omega, rfl, B8, C8, P8, N8, hS8⟩
      case round =>
        obtain ⟨j, hj, rfl, hB, hC, hP, hN, hS⟩ := hrel
        by_cases hj4 : j < 4
        · have hj' : (j : Int) < 4 := by omega
          have hcell : wr.cell? ⟨b4, 0 + j, none⟩ = some (.string (G j)) := by
            rcases hS with h | ⟨b', off', e, h⟩
            · omega
            · cases e; exact h j hj4
          rw [Nat.zero_add] at hcell
          have hzl := HG.out j
          generalize G j = z at hcell hzl
          have M1 := hN.drew
          have K1 := M1.both
          go_wp2_with fail
          go_region_held3 (fun w' => w'.cell? ⟨X, 0, none⟩ = some (str x) ∧ w'.cell? ⟨X, 1, none⟩ = some (str y))
            (first | with_reducible exact K1 | with_reducible exact K2 | with_reducible exact K3 | go_keep)
            (first
              | (go_at_call 18; (with_reducible refine (check_any ⟨x.toArray⟩ ⟨y.toArray⟩ z (le_of_small hx1) (le_of_small hy1) (by omega) _).mono ?_); rintro e w9 ⟨rfl, hb9⟩; have M2 := M1.below hb9 M1.lt; have K2 := M2.both)
              | (go_at_call 19; (with_reducible refine (refCheck_any ⟨x.toArray⟩ ⟨y.toArray⟩ z (le_of_small' hx1) (le_of_small' hy1) _).mono ?_); rintro e w10 ⟨rfl, hb10⟩; have M3 := M2.below hb10 M2.lt; have K3 := M3.both))
          have E := (below_drewL hb9).trans (hb10.mono hb9.size)
          have hB' := hB.trans (E.mono hB.size)
          have hC' := hC.below E hC.lt
          have hP' := hP.below E (lt_of_cell (hP 0 (by omega)).1)
          have hS' := hS.below E (Nat.le_refl _)
          clear K1 K2 K3 M1 M2 hcell hb9 hb10 E hN hS
          go_wp2_with fail
          go_roundw
          case rel => exact ⟨j + 1, by omega, by go_num, hB', hC', hP', M3, hS'⟩
          case measure => simp [intOf]; omega
        · obtain rfl : j = 4 := by omega
          go_wp2_with fail
          go_roundw
          case rel => exact ⟨k + 1, by omega, by go_num, hB, hC, hP⟩
          case measure => simp [intOf]; omega
    · obtain rfl : k = 4 := by omega
      go_wp2
      go_ret
      exact ⟨rfl, hB⟩
end Go.Proofs.Ytmiidniihbhkdaa
