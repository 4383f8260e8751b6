/- the law's sanity. -/
import Derived.Test.YtmpdeiopdempcaaGreatDoorText
import Derived.Test.YtmpdeiopdempcaaGreatDoorParse
import Derived.Test.YtmpdeiopdempcaaGreatDoorNumU
import Derived.Test.YtmpdeiopdempcaaGreatDoorNumO
import Derived.Test.YtmpdeiopdempcaaGreatDoorNumN
import Derived.Test.YtmpdeiopdempcaaGreatDoorNumP
namespace Go.Proofs.YtmpdeiopdempcaaGreatDoor
open Go.RowKit Go.Shelf

theorem big_groups {K : Nat} (h0 : 18446744073709551616 / 1000000000 ^ K = 0) (h1 : K = 1 ∨ 18446744073709551616 / 1000000000 ^ (K - 1) ≠ 0) : K = 3 := by
  have e : ∀ n, 3 ≤ n → 18446744073709551616 / 1000000000 ^ n = 0 := fun n hn => Nat.div_eq_of_lt (Nat.lt_of_lt_of_le (by decide : 18446744073709551616 < 1000000000 ^ 3) (Nat.pow_le_pow_right (by decide) hn))
  rcases Nat.lt_or_ge K 3 with h | h
  · match K, h with
    | 0, _ => exact absurd h0 (by decide)
    | 1, _ => exact absurd h0 (by decide)
    | 2, _ => exact absurd h0 (by decide)
  · rcases h1 with h1 | h1
    · omega
    · rcases Nat.lt_or_ge K 4 with h' | h'
      · omega
      · exact absurd (e (K - 1) (by omega)) h1
theorem dec18 : Lib.decDigits 18 = [49, 56] := by rw [Lib.decDigits_two (by decide) (by decide)]; rfl
theorem decBig (u : Nat) (h : ¬ u < 10) : Lib.decDigits u = Lib.decDigits (u / 10) ++ [UInt8.ofNat (48 + u % 10)] := by rw [Lib.decDigits, dif_neg h]
theorem dec446744073 : Lib.decDigits 446744073 = [52, 52, 54, 55, 52, 52, 48, 55, 51] := by
  rw [decBig _ (by decide), decBig _ (by decide), decBig _ (by decide), decBig _ (by decide), decBig _ (by decide), decBig _ (by decide), decBig _ (by decide), decBig _ (by decide), Lib.decDigits_one (by decide)]; rfl
theorem dec709551616 : Lib.decDigits 709551616 = [55, 48, 57, 53, 53, 49, 54, 49, 54] := by
  rw [decBig _ (by decide), decBig _ (by decide), decBig _ (by decide), decBig _ (by decide), decBig _ (by decide), decBig _ (by decide), decBig _ (by decide), decBig _ (by decide), Lib.decDigits_one (by decide)]; rfl
theorem big_text : txt 18446744073709551616 3 3 = [49, 56, 52, 52, 54, 55, 52, 52, 48, 55, 51, 55, 48, 57, 53, 53, 49, 54, 49, 54] := by
  simp only [txt, piece]
  rw [show grp 18446744073709551616 (3 - (0 + 1)) = 18 from by decide, show grp 18446744073709551616 (3 - (1 + 1)) = 446744073 from by decide, show grp 18446744073709551616 (3 - (2 + 1)) = 709551616 from by decide]
  rw [← Lib.decDigits_length, ← Lib.decDigits_length, ← Lib.decDigits_length, dec18, dec446744073, dec709551616]
  rfl

theorem text_big (a : Option Addr) (cap : Nat) (w : World) (ht : Pow10 w) (h : IsN w true a 3 (-18446744073709551616)) :
    Calls Tryz.prog 20 #[.agg #[.bool true, .slice a 3 cap]] w fun e w' => e = .returned (.string ⟨#[45, 49, 56, 52, 52, 54, 55, 52, 52, 48, 55, 51, 55, 48, 57, 53, 53, 49, 54, 49, 54]⟩) ∧ Below w.heap.size w w' := by
  refine (text_neg a 3 cap _ (by decide) (by decide) w ht h).mono ?_
  rintro e w' ⟨K, hK0, hK1, hK2, rfl, hb⟩
  obtain rfl := big_groups hK1 hK2
  refine ⟨?_, hb⟩
  rw [show (-18446744073709551616 : Int).natAbs = 18446744073709551616 from rfl, big_text]
  rfl
end Go.Proofs.YtmpdeiopdempcaaGreatDoor
