/- The reference's Odd: some plane. -/
import Derived.Test.YtblnpelbklfloaaVOa
import Derived.Test.YtblnpelbklfloaaVOb
import Derived.Test.YtblnpelbklfloaaVOc
import Derived.Test.YtblnpelbklfloaaVOd
import Derived.Test.YtblnpelbklfloaaVOe
namespace Go.Proofs.Ytblnpelbklfloaa
open Go.RowKit

theorem odd_r (x y z b s0 s1 s2 : Int) (hx : I64 x) (hy : I64 y) (hz : I64 z) (hb : I64 b) (hs : I64 s1) (w : World) : Calls Try.prog 28 #[Pl x y z b, .agg #[.int .i64 s0, .int .i64 s1, .int .i64 s2]] w fun e w' => ∃ p q r c : Int, e = .returned (Pl p q r c) ∧ I64 p ∧ I64 q ∧ I64 r ∧ I64 c ∧ Below w.heap.size w w' := by
  obtain ⟨j, hj⟩ := Int.eq_ofNat_of_zero_le (Int.emod_nonneg s2 (show (9 : Int) ≠ 0 by decide))
  have hj9 : (j : Int) < 9 := by rw [← hj]; exact Int.emod_lt_of_pos _ (by decide)
  obtain ⟨nv, hnv, hn⟩ : ∃ nv : Int, ([.int .i64 s1, .int .i64 0, .int .i64 4608, .int .i64 4609, .int .i64 (-4609), .int .i64 (wrap64 (2 * x)), .int .i64 2097152, .int .i64 2097153, .int .i64 (-2097152)] : List Value)[j]? = some (.int .i64 nv) ∧ I64 nv := by
    match j, (show j < 9 by omega) with
    | 0, _ => exact ⟨_, rfl, hs⟩
    | 5, _ => exact ⟨_, rfl, i64w _⟩
    | 1, _ => exact ⟨_, rfl, by decide, by decide⟩
    | 2, _ => exact ⟨_, rfl, by decide, by decide⟩
    | 3, _ => exact ⟨_, rfl, by decide, by decide⟩
    | 4, _ => exact ⟨_, rfl, by decide, by decide⟩
    | 6, _ => exact ⟨_, rfl, by decide, by decide⟩
    | 7, _ => exact ⟨_, rfl, by decide, by decide⟩
    | 8, _ => exact ⟨_, rfl, by decide, by decide⟩
  have hm := Int.emod_nonneg s0 (show (5 : Int) ≠ 0 by decide)
  have hm5 := Int.emod_lt_of_pos s0 (show (0 : Int) < 5 by decide)
  by_cases h0 : s0 % 5 = 0
  · exact (odd_0 x y z b s0 s1 s2 nv _ j (hideV hj) (hideV hnv) hj9 rfl (hideV h0) w).mono fun e w' h => ⟨_, _, _, _, h.1, hn, hy, hz, hb, h.2⟩
  · by_cases h1 : s0 % 5 = 1
    · exact (odd_1 x y z b s0 s1 s2 nv _ j (hideV hj) (hideV hnv) hj9 rfl (hideV h1) w).mono fun e w' h => ⟨_, _, _, _, h.1, hx, hn, hz, hb, h.2⟩
    · by_cases h2 : s0 % 5 = 2
      · exact (odd_2 x y z b s0 s1 s2 nv _ j (hideV hj) (hideV hnv) hj9 rfl (hideV h2) w).mono fun e w' h => ⟨_, _, _, _, h.1, hx, hy, hn, hb, h.2⟩
      · by_cases h3 : s0 % 5 = 3
        · exact (odd_3 x y z b s0 s1 s2 nv _ j (hideV hj) (hideV hnv) hj9 rfl (hideV h3) w).mono fun e w' h => ⟨_, _, _, _, h.1, hx, hy, hz, hn, h.2⟩
        · exact (odd_4 x y z b s0 s1 s2 nv _ j (hideV hj) (hideV hnv) hj9 rfl (hideV (by omega)) w).mono fun e w' h => ⟨_, _, _, _, h.1, i64w _, i64w _, i64w _, hb, h.2⟩
end Go.Proofs.Ytblnpelbklfloaa
