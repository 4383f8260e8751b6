/- The laws' list. -/
import Derived.Test.YtmiidniihbhkdaaDRefTree
import Derived.Outline
namespace Go.Proofs.Ytmiidniihbhkdaa
open Go.RowKit

/-- the first strings of a list, cut -/
def cutF (S : Nat → ByteArray) (k : Nat) : List UInt8 := (bs (S k)).take 30
theorem cut_eq (s : ByteArray) : s.extract 0 (min (s.size : Int) 30).toNat = ⟨((bs s).take 30).toArray⟩ := by
  rw [show (min (s.size : Int) 30).toNat = min s.size 30 from min_cast s.size 30, extract_take, take_min]

set_option maxRecDepth 100000 in
set_option maxHeartbeats 2000000 in
theorem list_any (a : Option Addr) (n c : Nat) (hn : n ≤ 9223372036854775807) (S : Nat → ByteArray) (hs : ∀ j, j < n → (S j).size ≤ 9223372036854775807) (w : World) (hS : Strs w a n S) :
    Calls Try.prog 20 #[.slice a n c] w fun e w' => ∃ v, e = .returned v ∧ OwnS w' w.heap.size v (min n 20) (cutF S) ∧ Below w.heap.size w w' := by
  obtain ⟨i0, hi, hz0, hz1, hz2⟩ := info_parts infoS
  have HI := hide hi
  have HZ := hide (And.intro hz0 (And.intro hz1 hz2))
  have HSS := hide hs
  clear hi hz0 hz1 hz2 hs
  go_enter Try.func20, Try.ntmps20
  go_wp2_with fail
  go_loopw [3, 4] (fun v i wr => ∃ k : Nat, k ≤ min n 20 ∧ i = .int .i64 (k : Int) ∧ OwnS wr w.heap.size v k (cutF S) ∧ Below w.heap.size w wr) (fun _ i _ => 20 - (intOf i).toNat)
  case atStart => exact ⟨0, by omega, rfl, World.ownsRow_nil _ _ _ _, Below.refl _ _⟩
  case round =>
    obtain ⟨k, hk, rfl, hown, hB⟩ := hrel
    by_cases hlt : k < n ∧ k < 20
    · obtain ⟨hkn, hk20⟩ := hlt
      obtain ⟨b, off, rfl, hc⟩ : ∃ b off, a = some ⟨b, off, none⟩ ∧ ∀ j, j < n → wr.cell? ⟨b, off + j, none⟩ = some (.string (S j)) := by
        rcases hS.below hB (Nat.le_refl _) with h | h
        · omega
        · exact h
      have hbw : b < w.heap.size := by
        rcases hS with h | ⟨b', off', e, h⟩
        · omega
        · cases e; exact lt_of_cell (h 0 (by omega))
      have hck := hc k hkn
      have hsk := HSS.out k hkn
      have h1 : (k : Int) < (n : Int) := by omega
      have h2 : (k : Int) < 20 := by omega
      have HO := hide hown
      have HBS := hide hB.size
      have HE := hide (cut_eq (S k))
      generalize hT : S k = s at hck hsk HE
      have HT := hide hT
      have hm0 : (0 : Int) ≤ min (s.size : Int) 30 := by omega
      have hm1 : min (s.size : Int) 30 ≤ (s.size : Int) := by omega
      have hm2 : (min (s.size : Int) 30).toNat ≤ s.size := by omega
      clear hc hown hT
      go_wp2_with fail
      have K0 : wr.drew.cell? ⟨b, off + k, none⟩ = some (.string s) := hck
      go_region_held3 (fun w' => w'.cell? ⟨b, off + k, none⟩ = some (.string s))
        (first | with_reducible exact K0 | with_reducible exact K1 | go_keep)
        (first
          | (refine step_append_lies _ rfl (.tmp 15) (.tmp 27) 29 rfl w.heap.size 9 i0 (.string ⟨#[]⟩) 1 16 Try.underlying29 HI.out HZ.out.1 HZ.out.2.1 HZ.out.2.2 rfl (by decide) _ _ _ rfl ((show wr.drew.ownsRow _ _ _ _ _ _ from HO.out).alloc _) ⟨wr.heap.size, 0, none⟩ 1 1 [.string (s.extract 0 (min (s.size : Int) 30).toNat)] rfl rfl (cell_one_new wr.drew _ _) (fun u hu => by simp at hu; subst hu; rfl) (by decide) (by unfold maxLen; omega) (by omega) (Nat.le_trans HBS.out (below_alloc' wr _).size) _ rfl ?_; intro g cap w4 hown4 hgrow4 hat4 hlt4; have hO3 := (show wr.drew.ownsRow _ _ _ _ _ _ from HO.out).alloc (.cells #[.string (s.extract 0 (min (s.size : Int) 30).toNat)] 9); have hA := below_alloc' wr.drew (.cells #[.string (s.extract 0 (min (s.size : Int) 30).toNat)] 9); have K1 : w4.cell? ⟨b, off + k, none⟩ = some (.string s) := cell_own_ne hO3 hgrow4 ((hA.cell (p := ⟨b, off + k, none⟩) (lt_of_cell K0)).trans K0) hbw))
      have BA : Below w.heap.size w (wr.drew.alloc (.cells #[.string (s.extract 0 (min (s.size : Int) 30).toNat)] 9)) := hB.drew.trans (hA.mono hB.size)
      have B4 : Below w.heap.size w w4 := BA.grown hgrow4 BA.size (fun k' hk' => (hO3.lt k' hk').1)
      rw [HE.out] at hown4
      have HO4 := hide hown4
      clear K0 K1 hck hown4 hgrow4 hO3 hat4
      go_wp2_with fail
      go_roundw
      case rel => exact ⟨k + 1, by omega, by go_num, OwnS.snoc HO4.out (by rw [cutF, HT.out]), B4⟩
      case measure => simp [intOf]; omega
    · have e : min n 20 = k := by omega
      have HE := hide e
      have HO := hide hown
      clear e hown hk
      by_cases hkn : k < n
      · have h1 : (k : Int) < (n : Int) := by omega
        have h2 : ¬ (k : Int) < 20 := by omega
        go_wp2_with fail
        go_ret
        exact ⟨_, rfl, by rw [HE.out]; exact HO.out, hB⟩
      · have h1 : ¬ (k : Int) < (n : Int) := by omega
        go_wp2_with fail
        go_ret
        exact ⟨_, rfl, by rw [HE.out]; exact HO.out, hB⟩
end Go.Proofs.Ytmiidniihbhkdaa
