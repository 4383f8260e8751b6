/- The reference's In and Prim. -/
import Derived.Test.YtblnpelbklfloaaVPn
namespace Go.Proofs.Ytblnpelbklfloaa
open Go.RowKit

theorem get3 (x y z : Int) {k : Nat} (h : k < 3) : ([.int .i64 x, .int .i64 y, .int .i64 z] : List Value)[k]? = some (.int .i64 ([x, y, z].getD k 0)) := by
  match k, h with
  | 0, _ | 1, _ | 2, _ => rfl

set_option maxRecDepth 100000 in
set_option maxHeartbeats 2000000 in
theorem in_r (x y z : Int) (w : World) : Calls Try.prog 14 #[V x y z] w (Gives w (.bool (in3 24 x y z))) := by
  unfold V
  go_enter Try.func14, Try.ntmps14
  have hB := Below.refl w.heap.size w
  go_wp2_with fail
  refine (components_r x y z _).mono ?_
  rintro e W1 ⟨rfl, hk⟩
  try simp only [V]
  have hs : Below w.heap.size w W1 := Below.trans (by repeat (first | exact Below.refl _ _ | refine Below.alloc ?_ (by first | omega | (simp; try omega)) _ | refine Below.setCell ?_ (by first | omega | (simp; try omega)) _)) (hk.mono (by first | omega | (simp; try omega)))
  have v0 : Var W1 (w.heap.size) [.int .i64 x, .int .i64 y, .int .i64 z] := Var.low ⟨by first | omega | (simp; try omega), by simp [Cel, go_sem]⟩ hk (by first | omega | (simp; try omega))
  obtain ⟨b0, hb0⟩ : ∃ b, w.heap.size = b := ⟨_, rfl⟩
  have lob0 : w.heap.size ≤ b0 := by have := hB.size; omega
  rw [hb0] at v0
  try rw [hb0]
  have hB := hB.trans (hs.mono hB.size)
  clear hb0 hs hk
  go_wp2_with fail
  obtain ⟨W2, hW_⟩ : ∃ W, W1.alloc (.cells #[.int .i64 x, .int .i64 y, .int .i64 z] 40) = W := ⟨_, rfl⟩
  have hk : Below (W1.alloc (.cells #[.int .i64 x, .int .i64 y, .int .i64 z] 40)).heap.size (W1.alloc (.cells #[.int .i64 x, .int .i64 y, .int .i64 z] 40)) W2 := by rw [hW_]; exact Below.refl _ _
  try rw [hW_]
  clear hW_
  have hs : Below W1.heap.size W1 W2 := Below.trans (by repeat (first | exact Below.refl _ _ | refine Below.alloc ?_ (by first | omega | (simp; try omega)) _ | refine Below.setCell ?_ (by first | omega | (simp; try omega)) _)) (hk.mono (by first | omega | (simp; try omega)))
  have v0 := v0.below hs
  have v1 : Var W2 (W1.heap.size) [.int .i64 x, .int .i64 y, .int .i64 z] := Var.low ⟨by first | omega | (simp; try omega), by simp [Cel, go_sem]⟩ hk (by first | omega | (simp; try omega))
  obtain ⟨b1, hb1⟩ : ∃ b, W1.heap.size = b := ⟨_, rfl⟩
  have lob1 : w.heap.size ≤ b1 := by have := hB.size; omega
  rw [hb1] at v1
  try rw [hb1]
  have hB := hB.trans (hs.mono hB.size)
  clear hb1 hs hk
  clear v0
  go_loopw [4] (fun i wr => ∃ k : Nat, k ≤ 3 ∧ i = .int .i64 (k : Int) ∧ Hid (∀ j, j < k → inL 24 ([x, y, z].getD j 0) = true) ∧ Below w.heap.size w wr ∧ Var wr b1 [.int .i64 x, .int .i64 y, .int .i64 z]) (fun i _ => 3 - (intOf i).toNat)
  case atStart => exact ⟨0, by omega, rfl, fun j hj => absurd hj (Nat.not_lt_zero _), hB, v1⟩
  case round =>
    clear hB v1
    obtain ⟨k, hk, rfl, hp, hB, v1⟩ := hrel
    by_cases hlt : k < 3
    · have hx := v1.at k (get3 x y z hlt)
      obtain ⟨c, hc⟩ : ∃ c, [x, y, z].getD k 0 = c := ⟨_, rfl⟩
      have HX := hideV hc
      rw [hc] at hx
      clear hc
      have hk3 : (k : Int) < 3 := by omega
      by_cases hlow : c < -24
      · go_wp2_with fail
        go_ret
        refine ⟨?_, hB⟩
        rw [show in3 24 x y z = false from all_no (k := k) hlt (by rw [HX.out]; simp [inL]; omega)]
        rfl
      · by_cases hhigh : 24 < c
        · go_wp2_with fail
          go_ret
          refine ⟨?_, hB⟩
          rw [show in3 24 x y z = false from all_no (k := k) hlt (by rw [HX.out]; simp [inL]; omega)]
          rfl
        · have hp2 : Hid (∀ j, j < k + 1 → inL 24 ([x, y, z].getD j 0) = true) := fun j hj => by
            by_cases e : j = k
            · subst e; rw [HX.out]; simp [inL]; omega
            · exact hp.out j (by omega)
          clear hp
          go_wp2_with fail
          go_roundw
          case rel => exact ⟨k + 1, by omega, by simp, hp2, hB, v1⟩
          case measure => simp [intOf]; omega
    · obtain rfl : k = 3 := by omega
      go_wp2_with fail
      go_ret
      refine ⟨?_, hB⟩
      rw [show in3 24 x y z = true from all_yes (fun j hj => hp.out j hj)]
      rfl


set_option maxRecDepth 100000 in
set_option maxHeartbeats 4000000 in
theorem prim_r0 (x y z : Int) (hx0 : Hid (I64 x)) (hy0 : Hid (I64 y)) (hz0 : Hid (I64 z)) (w : World) : Calls Try.prog 25 #[V x y z] w (Gives w (.tuple #[V (x.tdiv (dv3 x y z : Int)) (y.tdiv (dv3 x y z : Int)) (z.tdiv (dv3 x y z : Int)), .int .i64 (dv3 x y z : Int)])) := by
  unfold V
  go_enter Try.func25, Try.ntmps25
  have hB := Below.refl w.heap.size w
  go_wp2_with fail
  refine (components_r x y z _).mono ?_
  rintro e W1 ⟨rfl, hk⟩
  try simp only [V]
  have hs : Below w.heap.size w W1 := Below.trans (by repeat (first | exact Below.refl _ _ | refine Below.alloc ?_ (by first | omega | (simp; try omega)) _ | refine Below.setCell ?_ (by first | omega | (simp; try omega)) _)) (hk.mono (by first | omega | (simp; try omega)))
  have v0 : Var W1 (w.heap.size) [.int .i64 x, .int .i64 y, .int .i64 z] := Var.low ⟨by first | omega | (simp; try omega), by simp [Cel, go_sem]⟩ hk (by first | omega | (simp; try omega))
  have v1 : Var W1 (w.heap.size + 1) [.int .i64 0, .int .i64 0, .int .i64 0] := Var.low ⟨by first | omega | (simp; try omega), by simp [Cel, go_sem]⟩ hk (by first | omega | (simp; try omega))
  obtain ⟨b1, hb1⟩ : ∃ b, w.heap.size + 1 = b := ⟨_, rfl⟩
  have lob1 : w.heap.size ≤ b1 := by have := hB.size; omega
  obtain ⟨b0, hb0⟩ : ∃ b, w.heap.size = b := ⟨_, rfl⟩
  have lob0 : w.heap.size ≤ b0 := by have := hB.size; omega
  have db0_b1 : b0 ≠ b1 := by omega
  rw [hb1] at v1
  try rw [hb1]
  rw [hb0] at v0
  try rw [hb0]
  have hB := hB.trans (hs.mono hB.size)
  clear hb0 hb1 hs hk
  go_wp2_with fail
  obtain ⟨W2, hW_⟩ : ∃ W, W1.alloc (.cells #[.int .i64 x, .int .i64 y, .int .i64 z] 40) = W := ⟨_, rfl⟩
  have hk : Below (W1.alloc (.cells #[.int .i64 x, .int .i64 y, .int .i64 z] 40)).heap.size (W1.alloc (.cells #[.int .i64 x, .int .i64 y, .int .i64 z] 40)) W2 := by rw [hW_]; exact Below.refl _ _
  try rw [hW_]
  clear hW_
  have l_b1 := v1.1
  have hs : Below W1.heap.size W1 W2 := Below.trans (by repeat (first | exact Below.refl _ _ | refine Below.alloc ?_ (by first | omega | (simp; try omega)) _ | refine Below.setCell ?_ (by first | omega | (simp; try omega)) _)) (hk.mono (by first | omega | (simp; try omega)))
  have v0 := v0.below hs
  have v1 := v1.below hs
  have v2 : Var W2 (W1.heap.size) [.int .i64 x, .int .i64 y, .int .i64 z] := Var.low ⟨by first | omega | (simp; try omega), by simp [Cel, go_sem]⟩ hk (by first | omega | (simp; try omega))
  obtain ⟨b2, hb2⟩ : ∃ b, W1.heap.size = b := ⟨_, rfl⟩
  have lob2 : w.heap.size ≤ b2 := by have := hB.size; omega
  have db1_b2 : b1 ≠ b2 := by omega
  rw [hb2] at v2
  try rw [hb2]
  have hB := hB.trans (hs.mono hB.size)
  clear hb2 hs hk l_b1
  have lr := lob1
  go_loopw [5, 6] (fun u i wr => ∃ k g : Nat, k ≤ 3 ∧ i = .int .i64 (k : Int) ∧ u = .int .i64 (g : Int) ∧ g ≤ 9223372036854775807 ∧ Hid (g = ([x, y, z].take k).foldl (fun g x => Nat.gcd g x.natAbs) 0) ∧ Hid (∀ j, j < k → [x, y, z].getD j 0 ≠ -9223372036854775808) ∧ Below w.heap.size w wr ∧ Var wr b2 [.int .i64 x, .int .i64 y, .int .i64 z] ∧ Var wr b1 [.int .i64 0, .int .i64 0, .int .i64 0] ∧ Var wr b0 [.int .i64 x, .int .i64 y, .int .i64 z]) (fun _ i _ => 3 - (intOf i).toNat)
  case atStart => exact ⟨0, 0, by omega, rfl, rfl, by omega, rfl, fun j hj => absurd hj (Nat.not_lt_zero _), hB, v2, v1, v0⟩
  case round =>
    clear hB v2 v1 v0
    obtain ⟨k, g, hk, rfl, rfl, hg, hG, hp, hB, v2, v1, v0⟩ := hrel
    by_cases hlt : k < 3
    · have hx := v2.at k (get3 x y z hlt)
      have hr : I64 ([x, y, z].getD k 0) := by
        match k, hlt with
        | 0, _ => exact hx0.out
        | 1, _ => exact hy0.out
        | 2, _ => exact hz0.out
      obtain ⟨c, hc⟩ : ∃ c, [x, y, z].getD k 0 = c := ⟨_, rfl⟩
      have HX := hideV hc
      rw [hc] at hx hr
      clear hc
      have hk3 : (k : Int) < 3 := by omega
      by_cases hm : c = -9223372036854775808
      · subst hm
        clear hr
        have r0 := v1.at 0 rfl
        have r1 := v1.at 1 rfl
        have r2 := v1.at 2 rfl
        have z0 := v1.fr 0 (by simp)
        have z1 := v1.fr 1 (by simp)
        have z2 := v1.fr 2 (by simp)
        go_wp2_with fail
        have hd : dv3 x y z = 0 := dvs_no (k := k) hlt HX.out
        exact bodyPost_ret (v := .tuple #[.agg #[.int .i64 0, .int .i64 0, .int .i64 0], .int .i64 0]) (by simp [results, Try.results25, go_sem, r0, r1, r2]) rfl ⟨by rw [hd]; simp, by repeat (first | exact hB | refine Below.setCell ?_ (by first | omega | (simp; try omega)) _)⟩
      · have hm2 : (c == -9223372036854775808) = false := by simpa using hm
        obtain ⟨ha, hal⟩ := absW_nat hr.1 hm hr.2
        have HM := hideV hm
        clear hr hm
        go_wp2_with fail
        refine (abs_r c _).mono ?_
        rintro e wS ⟨rfl, rfl⟩
        rw [ha]
        clear ha
        obtain ⟨a, haa⟩ : ∃ a, c.natAbs = a := ⟨_, rfl⟩
        rw [haa] at hal
        rw [haa]
        have HA := hideV haa
        clear haa hx hm2
        go_wp2_with fail
        go_loopw [5, 7] (fun u y' wr => ∃ m d : Nat, u = .int .i64 (m : Int) ∧ y' = .int .i64 (d : Int) ∧ m ≤ 9223372036854775807 ∧ d ≤ 9223372036854775807 ∧ Hid (Nat.gcd m d = Nat.gcd g a) ∧ Below w.heap.size w wr ∧ Var wr b2 [.int .i64 x, .int .i64 y, .int .i64 z] ∧ Var wr b1 [.int .i64 0, .int .i64 0, .int .i64 0] ∧ Var wr b0 [.int .i64 x, .int .i64 y, .int .i64 z]) (fun _ y' _ => (intOf y').toNat)
        case atStart => exact ⟨g, a, rfl, rfl, hg, hal, rfl, hB, v2, v1, v0⟩
        case round =>
          clear hB v2 v1 v0
          obtain ⟨m, d, rfl, rfl, hmm, hdd, hgg, hB, v2, v1, v0⟩ := hrel
          by_cases h : d = 0
          · subst h
            have hq : m = Nat.gcd g a := by rw [← hgg.out, Nat.gcd_zero_right]
            have hG2 : Hid (m = ([x, y, z].take (k + 1)).foldl (fun g x => Nat.gcd g x.natAbs) 0) := by
              show _ = _
              rw [fold_take hlt, ← hG.out, HX.out, HA.out, hq]
            have hp2 : Hid (∀ j, j < k + 1 → [x, y, z].getD j 0 ≠ -9223372036854775808) := fun j hj => by
              by_cases e : j = k
              · subst e; rw [HX.out]; exact HM.out
              · exact hp.out j (by omega)
            clear hq hG hp hgg
            go_wp2_with fail
            go_roundw
            case rel => exact ⟨k + 1, m, by omega, by simp, rfl, hmm, hG2, hp2, hB, v2, v1, v0⟩
            case measure => simp [intOf]; omega
          · have hd1 : (0 : Int) < (d : Int) := by omega
            have hd2 : ¬ (d : Int) = 0 := by omega
            have hm1 : (m : Int).tmod (d : Int) = ((m % d : Nat) : Int) := rfl
            have hm2 := Nat.mod_lt m (show d > 0 by omega)
            have hg2 : Hid (Nat.gcd d (m % d) = Nat.gcd g a) := hideV (by rw [← hgg.out, Nat.gcd_comm d (m % d), ← Nat.gcd_rec, Nat.gcd_comm])
            clear hgg
            go_wp2_with fail
            go_quiet (fail)
            go_wp2_with fail
            have hs : Below wr.heap.size wr (wr.drewN nq) := belowN (Below.refl _ _) nq
            refine ⟨⟨d, m % d, rfl, by simp, hdd, by omega, hg2, belowN hB nq, v2.below hs, v1.below hs, v0.below hs⟩, ?_⟩
            rw [← Int.natCast_emod]
            simp [intOf]
            omega
    · obtain rfl : k = 3 := by omega
      have hd : Hid (dv3 x y z = g) := (dvs_yes (xs := [x, y, z]) (fun j hj => hp.out j hj)).trans hG.out.symm
      clear hp hG
      by_cases hg0 : g = 0
      · subst hg0
        have r0 := v1.at 0 rfl
        have r1 := v1.at 1 rfl
        have r2 := v1.at 2 rfl
        have z0 := v1.fr 0 (by simp)
        have z1 := v1.fr 1 (by simp)
        have z2 := v1.fr 2 (by simp)
        go_wp2_with fail
        exact bodyPost_ret (v := .tuple #[.agg #[.int .i64 0, .int .i64 0, .int .i64 0], .int .i64 0]) (by simp [results, Try.results25, go_sem, r0, r1, r2]) rfl ⟨by rw [hd.out]; simp, by repeat (first | exact hB | refine Below.setCell ?_ (by first | omega | (simp; try omega)) _)⟩
      · have hd0 : ((g : Int) == 0) = false := by rw [beq_eq_false_iff_ne]; omega
        obtain ⟨i, hi⟩ : ∃ i, x.tdiv (g : Int) = i := ⟨_, rfl⟩
        obtain ⟨j, hj⟩ : ∃ j, y.tdiv (g : Int) = j := ⟨_, rfl⟩
        obtain ⟨l, hl⟩ : ∃ l, z.tdiv (g : Int) = l := ⟨_, rfl⟩
        have ei : IntKind.i64.wrap (x.tdiv (g : Int)) = i := (IntWalk.i64_in _ (i64_tdiv hx0.out _)).trans hi
        have ej : IntKind.i64.wrap (y.tdiv (g : Int)) = j := (IntWalk.i64_in _ (i64_tdiv hy0.out _)).trans hj
        have el : IntKind.i64.wrap (z.tdiv (g : Int)) = l := (IntWalk.i64_in _ (i64_tdiv hz0.out _)).trans hl
        have HI := hideV hi
        have HJ := hideV hj
        have HL := hideV hl
        clear hi hj hl
        go_wp2_with fail
        refine wp_region_dag (by kernel_rfl) ?_
        intro W3 hk
        have hs := hk
        have v0 := v0.below hs
        have v1 := v1.below hs
        have v2 := v2.below hs
        have hB := hB.trans (hs.mono hB.size)
        clear hs hk
        refine dagV (fun _ => trivial) 16 ?hn (fun X => ⟨#[.agg #[.int .i64 x, .int .i64 y, .int .i64 z], .pointer (some ⟨b0, 0, none⟩), .pointer (some ⟨b1, 0, none⟩), X 15, .pointer (some ⟨b2, 0, none⟩), .int .i64 (g : Int), .int .i64 3, u7, .agg #[.int .i64 x, .int .i64 y, .int .i64 z], .agg #[.int .i64 x, .int .i64 y, .int .i64 z], .int .i64 3, .bool false, u12, u13, u14, u15, u16, u17, u18, u19, u20, u21, u22, u23, u24, u25, u26, u27, u28, .int .i64 (g : Int), .bool false, undef, X 0, X 1, X 2, X 3, X 4, X 5, X 6, X 7, X 8, X 9, X 10, X 11, X 12, X 13], []⟩) [(0, 0, 0), (0, 0, 0), (0, 0, 0), (0, 0, 0), (0, 0, 0), (0, 0, 0), (0, 0, 0), (0, 0, 0), (0, 0, 0), (0, 0, 0), (0, 0, 0), (0, 0, 0), (0, 0, 0), (0, 0, 0), (4, b1, 12), (0, 0, 0)] (fun i => ([[], [], [], [], [], [], [], [], [], [], [], [], [], [], [.int .i64 0, .int .i64 0, .int .i64 0], []] : List (List Value)).getD i []) [.val (.pointer (some ⟨b0, 0, none⟩)), .val (.int .i64 x), .val (.int .i64 (g : Int)), .val (.int .i64 i), .val (.pointer (some ⟨b0, 1, none⟩)), .val (.int .i64 y), .val (.int .i64 (g : Int)), .val (.int .i64 j), .val (.pointer (some ⟨b0, 2, none⟩)), .val (.int .i64 z), .val (.int .i64 (g : Int)), .val (.int .i64 l), .val (.agg #[.int .i64 i, .int .i64 j, .int .i64 l]), .val (.int .i64 (g : Int)), .none, .val (.int .i64 (g : Int))] [[], [0], [], [1, 2], [], [4], [], [5, 6], [], [8], [], [9, 10], [3, 7, 11], [], [12], [13]] [0, 1, 2, 3, 4, 5, 6, 7, 8, 9, 10, 11, 12, 13, 15] [] [] [14] (fun _ => 0) W3 (by kernel_rfl) (by kernel_rfl) (by kernel_rfl) (by kernel_rfl) (by kernel_rfl) ?dist ?olds ?op ?al ?st ?into ?fin (upd (fun _ => undef) 15 (u3)) _ _ (by kernel_rfl) (of_decide_eq_true (by kernel_rfl)) (of_decide_eq_true (by kernel_rfl))
        case hn => rfl
        case dist => intro i hi j hj; simp at hi hj; try omega
        case olds => intro i hi; obtain rfl := List.mem_singleton.1 hi; exact v1
        case op =>
          repeat' first | exact Each.nil | refine Each.cons ?_ ?_
          all_goals intro X w7 H hb hD h
          · refine tv rfl (by rfl) ?_ (by exact h _ w7 rfl (Below.refl _ _))
            go_simp <;> first | rfl | (simp only [IntWalk.i64_left]; rfl)
          · have e0_ : X 0 = _ := hD 0 (by decide) rfl
            have hv := (show Keep [b1] _ _ from hb).var v0 (by simp; first | omega | (intro h; exact absurd h (by first | assumption | (apply Ne.symm; assumption))))
            have c0_ := hv.at 0 rfl
            refine tv rfl (by simp only [e0_]; rfl) ?_ (by exact h _ w7 rfl (Below.refl _ _))
            simp only [e0_]; go_simp <;> first | rfl | (simp only [IntWalk.i64_left]; rfl)
          · refine tv rfl (by rfl) ?_ (by exact h _ w7 rfl (Below.refl _ _))
            go_simp <;> first | rfl | (simp only [IntWalk.i64_left]; rfl)
          · have e1_ : X 1 = _ := hD 1 (by decide) rfl
            have e2_ : X 2 = _ := hD 2 (by decide) rfl
            refine tv rfl (by simp only [e1_, e2_]; rfl) ?_ (by exact h _ w7 rfl (Below.refl _ _))
            simp only [e1_, e2_]; go_simp <;> first | rfl | (simp only [IntWalk.i64_left]; rfl)
          · refine tv rfl (by rfl) ?_ (by exact h _ w7 rfl (Below.refl _ _))
            go_simp <;> first | rfl | (simp only [IntWalk.i64_left]; rfl)
          · have e4_ : X 4 = _ := hD 4 (by decide) rfl
            have hv := (show Keep [b1] _ _ from hb).var v0 (by simp; first | omega | (intro h; exact absurd h (by first | assumption | (apply Ne.symm; assumption))))
            have c0_ := hv.at 1 rfl
            refine tv rfl (by simp only [e4_]; rfl) ?_ (by exact h _ w7 rfl (Below.refl _ _))
            simp only [e4_]; go_simp <;> first | rfl | (simp only [IntWalk.i64_left]; rfl)
          · refine tv rfl (by rfl) ?_ (by exact h _ w7 rfl (Below.refl _ _))
            go_simp <;> first | rfl | (simp only [IntWalk.i64_left]; rfl)
          · have e5_ : X 5 = _ := hD 5 (by decide) rfl
            have e6_ : X 6 = _ := hD 6 (by decide) rfl
            refine tv rfl (by simp only [e5_, e6_]; rfl) ?_ (by exact h _ w7 rfl (Below.refl _ _))
            simp only [e5_, e6_]; go_simp <;> first | rfl | (simp only [IntWalk.i64_left]; rfl)
          · refine tv rfl (by rfl) ?_ (by exact h _ w7 rfl (Below.refl _ _))
            go_simp <;> first | rfl | (simp only [IntWalk.i64_left]; rfl)
          · have e8_ : X 8 = _ := hD 8 (by decide) rfl
            have hv := (show Keep [b1] _ _ from hb).var v0 (by simp; first | omega | (intro h; exact absurd h (by first | assumption | (apply Ne.symm; assumption))))
            have c0_ := hv.at 2 rfl
            refine tv rfl (by simp only [e8_]; rfl) ?_ (by exact h _ w7 rfl (Below.refl _ _))
            simp only [e8_]; go_simp <;> first | rfl | (simp only [IntWalk.i64_left]; rfl)
          · refine tv rfl (by rfl) ?_ (by exact h _ w7 rfl (Below.refl _ _))
            go_simp <;> first | rfl | (simp only [IntWalk.i64_left]; rfl)
          · have e9_ : X 9 = _ := hD 9 (by decide) rfl
            have e10_ : X 10 = _ := hD 10 (by decide) rfl
            refine tv rfl (by simp only [e9_, e10_]; rfl) ?_ (by exact h _ w7 rfl (Below.refl _ _))
            simp only [e9_, e10_]; go_simp <;> first | rfl | (simp only [IntWalk.i64_left]; rfl)
          · have e3_ : X 3 = _ := hD 3 (by decide) rfl
            have e7_ : X 7 = _ := hD 7 (by decide) rfl
            have e11_ : X 11 = _ := hD 11 (by decide) rfl
            refine tv rfl (by simp only [e3_, e7_, e11_]; rfl) ?_ (by exact h _ w7 rfl (Below.refl _ _))
            simp only [e3_, e7_, e11_]; go_simp <;> first | rfl | (simp only [IntWalk.i64_left]; rfl)
          · refine tv rfl (by rfl) ?_ (by exact h _ w7 rfl (Below.refl _ _))
            go_simp <;> first | rfl | (simp only [IntWalk.i64_left]; rfl)
          · have e13_ : X 13 = _ := hD 13 (by decide) rfl
            refine tv rfl (by simp only [e13_]; rfl) ?_ (by exact h _ w7 rfl (Below.refl _ _))
            simp only [e13_]; go_simp <;> first | rfl | (simp only [IntWalk.i64_left]; rfl)
        case al => exact Each.nil
        case st => exact Each.nil
        case into =>
          repeat' first | exact Each.nil | refine Each.cons ?_ ?_
          all_goals intro X w7 H hC hG h
          · have e : X 12 = _ := hG
            replace hC : Var w7 b1 [.int .i64 0, .int .i64 0, .int .i64 0] := hC
            have c0_ := hC.at 0 rfl
            have z0_ := hC.fr 0 (by simp)
            have c1_ := hC.at 1 rfl
            have z1_ := hC.fr 1 (by simp)
            have c2_ := hC.at 2 rfl
            have z2_ := hC.fr 2 (by simp)
            refine wpOp_run rfl ?_
            have h := h (by show _ = (vc (X 12)).length; rw [e]; rfl)
            replace h : H _ (putC b1 w7 0 (vc (X 12))) := h
            simp only [e] at h ⊢
            go_simp
            exact h
        case fin =>
          intro X13_ W4 hI
          have hE : Keep [b1] W3 W4 := hI.keep
          have e12_ : X13_ 12 = _ := hI.fact 12 (by decide) rfl rfl
          have e15_ : X13_ 15 = _ := hI.fact 15 (by decide) rfl rfl
          have v0 := hE.var v0 (by simp; first | omega | (intro h; exact absurd h (by first | assumption | (apply Ne.symm; assumption))))
          replace v1 : Var W4 b1 (vc (X13_ 12)) := (hI.old 14 (by decide) rfl).2
          rw [e12_] at v1
          replace v1 : Var W4 b1 [.int .i64 i, .int .i64 j, .int .i64 l] := v1
          have v2 := hE.var v2 (by simp; first | omega | (intro h; exact absurd h (by first | assumption | (apply Ne.symm; assumption))))
          have hB := hB.trans (hE.low (B := w.heap.size) hB.size (by intro b hb; simp at hb; subst hb; assumption))
          simp only [e12_, e15_]
          clear e12_ e15_ hI hE
          have cb1_0 := v1.at 0 rfl
          have cb1_1 := v1.at 1 rfl
          have cb1_2 := v1.at 2 rfl
          go_wp2_with fail
          have hBs := hB.size
          exact bodyPost_ret (v := .tuple #[.agg #[.int .i64 i, .int .i64 j, .int .i64 l], .int .i64 (g : Int)]) (by simp [results, Try.results25, go_sem, cb1_0, cb1_1, cb1_2]) rfl ⟨by rw [hd.out, HI.out, HJ.out, HL.out], by repeat (first | exact hB | refine Below.alloc ?_ (by first | omega | (simp; try omega)) _ | refine Below.setCell ?_ (by first | omega | (simp; try omega)) _)⟩

end Go.Proofs.Ytblnpelbklfloaa
