/- plane's loops: common, within, divisor, order. -/
import Derived.Test.YtblnpelbklfloaaVFun
import Derived.Test.YtblnpelbklfloaaVGcd
import Derived.WalkMore
import Derived.RangeFuncOwn
namespace Go.Proofs.Ytblnpelbklfloaa
open Go.RowKit

theorem belowN {B : Nat} {a w : World} (h : Below B a w) (n : Nat) : Below B a (w.drewN n) := ⟨h.os, h.tape, h.output, h.size, h.block⟩
theorem hideV {p : Prop} (h : p) : Hid p := h
theorem Gives.of {w w' : World} {v : Value} (h : Below w.heap.size w w') : Gives w v (.returned v) w' := ⟨rfl, h⟩
theorem cellLt {w : World} {a : Addr} {v : Value} (h : w.cell? a = some v) : a.block < w.heap.size := by
  obtain ⟨o, ho, _⟩ := cells_of_cell h
  exact (Array.getElem?_eq_some_iff.1 ho).1
/-- ints that lie in a block -/
def Li (w : World) (b : Nat) (xs : List Int) : Prop := ∀ j, j < xs.length → w.cell? ⟨b, j, none⟩ = some (.int .i64 (xs.getD j 0))
theorem Li.below {w w' : World} {B b : Nat} {xs : List Int} (h : Li w b xs) (t : Below B w w') (hb : b < B) : Li w' b xs := fun j hj => (t.cell (p := ⟨b, j, none⟩) hb).trans (h j hj)

set_option maxRecDepth 100000 in
set_option maxHeartbeats 1000000 in
theorem common_p (a b : Nat) (ha : a ≤ 9223372036854775807) (hb : b ≤ 9223372036854775807) (w : World) : Calls Try.prog 52 #[.int .i64 (a : Int), .int .i64 (b : Int)] w (Gives w (.int .i64 (Nat.gcd a b : Int))) := by
  go_enter Try.func52, Try.ntmps52
  go_wp2
  go_loopw [0, 1] (fun x y wr => ∃ c d : Nat, x = .int .i64 (c : Int) ∧ y = .int .i64 (d : Int) ∧ c ≤ 9223372036854775807 ∧ d ≤ 9223372036854775807 ∧ Hid (Nat.gcd c d = Nat.gcd a b) ∧ Below w.heap.size w wr) (fun _ y _ => (intOf y).toNat)
  case atStart => exact ⟨a, b, rfl, rfl, ha, hb, rfl, Below.refl _ _⟩
  case round =>
    obtain ⟨c, d, rfl, rfl, hc, hd, hg, hB⟩ := hrel
    by_cases h : d = 0
    · subst h
      go_wp2
      go_ret
      exact ⟨by rw [← hg.out, Nat.gcd_zero_right]; rfl, hB⟩
    · have hd1 : (0 : Int) < (d : Int) := by omega
      have hd2 : ¬ (d : Int) = 0 := by omega
      have hm : (c : Int).tmod (d : Int) = ((c % d : Nat) : Int) := rfl
      have hm2 := Nat.mod_lt c (show d > 0 by omega)
      have hg2 : Hid (Nat.gcd d (c % d) = Nat.gcd a b) := hideV (by rw [← hg.out, Nat.gcd_comm d (c % d), ← Nat.gcd_rec, Nat.gcd_comm])
      clear hg
      go_wp2_with fail
      go_quiet (fail)
      go_wp2_with fail
      refine ⟨⟨d, c % d, rfl, by simp, hd, by omega, hg2, belowN hB nq⟩, ?_⟩
      rw [← Int.natCast_emod]
      simp [intOf]
      omega

/-- is an int within a limit -/
def inL (m x : Int) : Bool := decide (-m ≤ x) && decide (x ≤ m)
theorem all_no {p : Int → Bool} {xs : List Int} {k : Nat} (hk : k < xs.length) (h : p (xs.getD k 0) = false) : xs.all p = false := by
  rw [Bool.eq_false_iff]
  intro ha
  rw [List.all_eq_true] at ha
  have := ha _ (List.getElem_mem hk)
  rw [List.getD_eq_getElem?_getD, List.getElem?_eq_getElem hk] at h
  simp at h
  rw [h] at this
  cases this
theorem all_yes {p : Int → Bool} {xs : List Int} (h : ∀ j, j < xs.length → p (xs.getD j 0) = true) : xs.all p = true := by
  rw [List.all_eq_true]
  intro x hx
  obtain ⟨j, hj, rfl⟩ := List.mem_iff_getElem.1 hx
  have := h j hj
  rwa [List.getD_eq_getElem?_getD, List.getElem?_eq_getElem hj] at this
set_option maxRecDepth 100000 in
set_option maxHeartbeats 1000000 in
theorem within_p (m : Int) (h0 : 0 ≤ m) (h1 : m ≤ 1099511627776) (xs : List Int) (n b : Nat) (hn : xs.length = n) (hn8 : n ≤ 1000) (w : World) (hc : Li w b xs) :
    Calls Try.prog 45 #[.int .i64 m, .slice (some ⟨b, 0, none⟩) n n] w fun e w' => e = .returned (.bool (xs.all (inL m))) ∧ w' = w := by
  go_enter Try.func45, Try.ntmps45
  have HC := hideV hc
  have HN := hideV hn
  clear hc hn
  go_wp2_with fail
  go_loopw [9] (fun i wr => ∃ k : Nat, k ≤ n ∧ i = .int .i64 (k : Int) ∧ Hid (∀ j, j < k → inL m (xs.getD j 0) = true) ∧ wr = w) (fun i _ => n - (intOf i).toNat)
  case atStart => exact ⟨0, Nat.zero_le _, rfl, fun j hj => absurd hj (Nat.not_lt_zero _), rfl⟩
  case round =>
    obtain ⟨k, hk, rfl, hp, rfl⟩ := hrel
    by_cases hlt : k < n
    · have hx := HC.out k (by rw [HN.out]; exact hlt)
      obtain ⟨x, hxe⟩ : ∃ x, xs.getD k 0 = x := ⟨_, rfl⟩
      have HX := hideV hxe
      rw [hxe] at hx
      clear hxe
      by_cases hlow : x < -m
      · go_wp2_with fail
        go_ret
        refine ⟨?_, rfl⟩
        rw [all_no (k := k) (by rw [HN.out]; exact hlt) (by rw [HX.out]; simp [inL]; omega)]
        rfl
      · by_cases hhigh : m < x
        · go_wp2_with fail
          go_ret
          refine ⟨?_, rfl⟩
          rw [all_no (k := k) (by rw [HN.out]; exact hlt) (by rw [HX.out]; simp [inL]; omega)]
          rfl
        · have hp2 : Hid (∀ j, j < k + 1 → inL m (xs.getD j 0) = true) := fun j hj => by
            by_cases e : j = k
            · subst e; rw [HX.out]; simp [inL]; omega
            · exact hp.out j (by omega)
          clear hp
          go_wp2_with fail
          go_roundw
          case rel => exact ⟨k + 1, by omega, by simp, hp2, trivial⟩
          case measure => simp [intOf]; omega
    · obtain rfl : k = n := by omega
      go_wp2_with fail
      go_ret
      refine ⟨?_, rfl⟩
      rw [all_yes (fun j hj => hp.out j (by rw [← HN.out]; exact hj))]
      rfl

/-- the greatest integer that divides all of them; 0 where the least int is among them -/
def dvs (xs : List Int) : Nat := if xs.any (· == -9223372036854775808) then 0 else xs.foldl (fun g x => Nat.gcd g x.natAbs) 0
theorem dvs_no {xs : List Int} {k : Nat} (hk : k < xs.length) (h : xs.getD k 0 = -9223372036854775808) : dvs xs = 0 := by
  unfold dvs
  rw [if_pos]
  rw [List.any_eq_true]
  refine ⟨_, List.getElem_mem hk, ?_⟩
  rw [List.getD_eq_getElem?_getD, List.getElem?_eq_getElem hk] at h
  simpa using h
theorem dvs_yes {xs : List Int} (h : ∀ j, j < xs.length → xs.getD j 0 ≠ -9223372036854775808) : dvs xs = xs.foldl (fun g x => Nat.gcd g x.natAbs) 0 := by
  unfold dvs
  rw [if_neg]
  intro ha
  rw [List.any_eq_true] at ha
  obtain ⟨x, hx, e⟩ := ha
  obtain ⟨j, hj, rfl⟩ := List.mem_iff_getElem.1 hx
  refine h j hj ?_
  rw [List.getD_eq_getElem?_getD, List.getElem?_eq_getElem hj]
  simpa using e
theorem fold_take {f : Nat → Int → Nat} {xs : List Int} {k g : Nat} (hk : k < xs.length) : (xs.take (k + 1)).foldl f g = f ((xs.take k).foldl f g) (xs.getD k 0) := by
  rw [List.take_add_one, List.foldl_append, List.getD_eq_getElem?_getD, List.getElem?_eq_getElem hk]
  rfl
theorem absW_nat {x : Int} (h1 : -9223372036854775808 ≤ x) (h2 : x ≠ -9223372036854775808) (h3 : x ≤ 9223372036854775807) : absW x = (x.natAbs : Int) ∧ x.natAbs ≤ 9223372036854775807 := by
  unfold absW wrap64
  split <;> omega
set_option maxRecDepth 100000 in
set_option maxHeartbeats 1000000 in
theorem divisor_p (xs : List Int) (n b : Nat) (hn : xs.length = n) (hn8 : n ≤ 1000) (hx : ∀ x ∈ xs, -9223372036854775808 ≤ x ∧ x ≤ 9223372036854775807) (w : World) (hc : Li w b xs) :
    Calls Try.prog 50 #[.slice (some ⟨b, 0, none⟩) n n] w (Gives w (.int .i64 (dvs xs : Int))) := by
  go_enter Try.func50, Try.ntmps50
  have HC := hideV hc
  have HN := hideV hn
  have HX := hideV hx
  clear hc hn hx
  go_wp2_with fail
  go_loopw [3, 8] (fun v i wr => ∃ k g : Nat, k ≤ n ∧ i = .int .i64 (k : Int) ∧ v = .int .i64 (g : Int) ∧ g ≤ 9223372036854775807 ∧ Hid (g = (xs.take k).foldl (fun g x => Nat.gcd g x.natAbs) 0) ∧ Hid (∀ j, j < k → xs.getD j 0 ≠ -9223372036854775808) ∧ Below w.heap.size w wr) (fun _ i _ => n - (intOf i).toNat)
  case atStart => exact ⟨0, 0, Nat.zero_le _, rfl, rfl, by omega, rfl, fun j hj => absurd hj (Nat.not_lt_zero _), Below.refl _ _⟩
  case round =>
    obtain ⟨k, g, hk, rfl, rfl, hg, hG, hp, hB⟩ := hrel
    by_cases hlt : k < n
    · have hkl : k < xs.length := by rw [HN.out]; exact hlt
      have hcx := HC.out k hkl
      have hcy := (hB.cell (p := ⟨b, k, none⟩) (cellLt hcx)).trans hcx
      have hr := HX.out (xs.getD k 0) (by rw [List.getD_eq_getElem?_getD, List.getElem?_eq_getElem hkl]; exact List.getElem_mem hkl)
      obtain ⟨x, hxe⟩ : ∃ x, xs.getD k 0 = x := ⟨_, rfl⟩
      have HE := hideV hxe
      rw [hxe] at hcy hr
      clear hxe hcx hkl
      by_cases hm : x = -9223372036854775808
      · subst hm
        clear hr
        go_wp2_with fail
        go_ret
        refine ⟨?_, hB⟩
        rw [dvs_no (k := k) (by rw [HN.out]; exact hlt) HE.out]
        rfl
      · obtain ⟨ha, hal⟩ := absW_nat hr.1 hm hr.2
        have HM := hideV hm
        have hm2 : (x == -9223372036854775808) = false := by simpa using hm
        clear hr hm
        go_wp2_with fail
        refine (abs_p x _).mono ?_
        rintro e w1 ⟨rfl, rfl⟩
        rw [ha]
        clear ha
        go_wp2_with fail
        refine (common_p g x.natAbs hg hal _).mono ?_
        rintro e w2 ⟨rfl, hk2⟩
        have hB2 := hB.trans (hk2.mono hB.size)
        have hgl : Nat.gcd g x.natAbs ≤ 9223372036854775807 := by
          by_cases h0 : g = 0
          · subst h0; simpa using hal
          · exact Nat.le_trans (Nat.le_of_dvd (by omega) (Nat.gcd_dvd_left _ _)) hg
        have hG2 : Hid (Nat.gcd g x.natAbs = (xs.take (k + 1)).foldl (fun g x => Nat.gcd g x.natAbs) 0) := by
          show _ = _
          rw [fold_take (by rw [HN.out]; exact hlt), ← hG.out, HE.out]
        have hp2 : Hid (∀ j, j < k + 1 → xs.getD j 0 ≠ -9223372036854775808) := fun j hj => by
          by_cases e : j = k
          · subst e; rw [HE.out]; exact HM.out
          · exact hp.out j (by omega)
        obtain ⟨q, hq⟩ : ∃ q, Nat.gcd g x.natAbs = q := ⟨_, rfl⟩
        rw [hq] at hgl hG2
        rw [hq]
        clear hq hG hp hB hk2
        go_wp2_with fail
        go_roundw
        case rel => exact ⟨k + 1, q, by omega, by simp, rfl, hgl, hG2, hp2, hB2⟩
        case measure => simp [intOf]; omega
    · obtain rfl : k = n := by omega
      go_wp2_with fail
      go_ret
      refine ⟨?_, hB⟩
      rw [dvs_yes (fun j hj => hp.out j (by rw [← HN.out]; exact hj)), hG.out, List.take_of_length_le (by rw [HN.out]; exact Nat.le_refl _)]
      rfl

/-- the first pair of different ints decides -/
def ordL : List (Int × Int) → Int
  | [] => 0
  | p :: l => if p.1 < p.2 then -1 else if p.2 < p.1 then 1 else ordL l
theorem ordL_drop {l : List (Int × Int)} {k : Nat} (hk : k < l.length) : ordL (l.drop k) = (if (l.getD k (0, 0)).1 < (l.getD k (0, 0)).2 then -1 else if (l.getD k (0, 0)).2 < (l.getD k (0, 0)).1 then 1 else ordL (l.drop (k + 1))) := by
  rw [List.drop_eq_getElem_cons hk, List.getD_eq_getElem?_getD, List.getElem?_eq_getElem hk]
  rfl
/-- pairs of ints that lie in a block -/
def Pi2 (w : World) (b : Nat) (l : List (Int × Int)) : Prop := ∀ j, j < l.length → w.cell? ⟨b, j * 2, none⟩ = some (.int .i64 (l.getD j (0, 0)).1) ∧ w.cell? ⟨b, j * 2 + 1, none⟩ = some (.int .i64 (l.getD j (0, 0)).2)
set_option maxRecDepth 100000 in
set_option maxHeartbeats 2000000 in
theorem order_p (l : List (Int × Int)) (n b : Nat) (hn : l.length = n) (hn8 : n ≤ 1000) (w : World) (hc : Pi2 w b l) :
    Calls Try.prog 51 #[.slice (some ⟨b, 0, none⟩) n n] w (Gives w (.int .i64 (ordL l))) := by
  go_enter Try.func51, Try.ntmps51
  have HC := hideV hc
  have HN := hideV hn
  clear hc hn
  go_wp2_with fail
  go_step3
  go_wp2_with fail
  go_step3
  go_wp2_with fail
  go_loopw [3, 8] (fun v i wr => ∃ k : Nat, k ≤ n ∧ i = .int .i64 (k : Int) ∧ v = .int .i64 0 ∧ Hid (ordL l = ordL (l.drop k)) ∧ Below w.heap.size w wr) (fun _ i _ => n - (intOf i).toNat)
  case atStart => exact ⟨0, Nat.zero_le _, rfl, rfl, rfl, Below.refl _ _⟩
  case round =>
    obtain ⟨k, hk, rfl, rfl, hp, hB⟩ := hrel
    by_cases hlt : k < n
    · have hkl : k < l.length := by rw [HN.out]; exact hlt
      obtain ⟨hx, hy⟩ := HC.out k hkl
      have hx := (hB.cell (p := ⟨b, k * 2, none⟩) (cellLt hx)).trans hx
      have hy := (hB.cell (p := ⟨b, k * 2 + 1, none⟩) (cellLt hy)).trans hy
      have hd := hp.out.trans (ordL_drop hkl)
      obtain ⟨x, hxe⟩ : ∃ x, (l.getD k (0, 0)).1 = x := ⟨_, rfl⟩
      obtain ⟨y, hye⟩ : ∃ y, (l.getD k (0, 0)).2 = y := ⟨_, rfl⟩
      rw [hxe, hye] at hd
      rw [hxe] at hx
      rw [hye] at hy
      clear hxe hye hkl hp
      have HD := hideV hd
      clear hd
      have hB2 : ∀ o, Below w.heap.size w (wr.alloc o) := fun o => hB.alloc hB.size o
      by_cases h1 : x < y
      · have hr : Hid (ordL l = -1) := HD.out.trans (if_pos h1)
        clear HD
        go_wp2_with fail
        try rw [Exit.noGoto_ret]
        go_ret
        exact ⟨by rw [hr.out]; rfl, hB2 _⟩
      · by_cases h2 : y < x
        · have hr : Hid (ordL l = 1) := HD.out.trans ((if_neg h1).trans (if_pos h2))
          clear HD
          go_wp2_with fail
          try rw [Exit.noGoto_ret]
          go_ret
          exact ⟨by rw [hr.out]; rfl, hB2 _⟩
        · have hr : Hid (ordL l = ordL (l.drop (k + 1))) := HD.out.trans ((if_neg h1).trans (if_neg h2))
          clear HD
          go_wp2_with fail
          go_roundw
          case rel => exact ⟨k + 1, by omega, by simp, rfl, hr, hB2 _⟩
          case measure => simp [intOf]; omega
    · obtain rfl : k = n := by omega
      have hr : Hid (ordL l = 0) := hp.out.trans (by rw [List.drop_of_length_le (by rw [HN.out]; exact Nat.le_refl _)]; rfl)
      clear hp
      go_wp2_with fail
      try rw [Exit.noGoto_ret]
      go_ret
      exact ⟨by rw [hr.out]; rfl, hB⟩
end Go.Proofs.Ytblnpelbklfloaa
