/- num's Right. -/
import Derived.Test.YtmpdeiopdempcaaGreatDoorNumJ
namespace Go.Proofs.YtmpdeiopdempcaaGreatDoor
open Go.RowKit Go.Shelf

/-- whether sign and digits are those of a right Num -/
def rightB (s : Bool) (L : Nat) (f : Nat → Nat) : Bool := if L = 0 then !s else decide (L ≤ 64 ∧ f (L - 1) ≠ 0)

set_option maxRecDepth 100000 in
set_option maxHeartbeats 1000000 in
theorem right_any (s : Bool) (a : Option Addr) (L cap : Nat) (f : Nat → Nat) (hL : L ≤ 140737488355328) (w : World) (hd : Dig w a L f) :
    Calls Tryz.prog 27 #[.agg #[.bool s, .slice a L cap]] w fun e w' => e = .returned (.bool (rightB s L f)) ∧ Below w.heap.size w w' := by
  rcases Nat.eq_zero_or_pos L with h | h
  · subst h
    rw [show rightB s 0 f = !s from rfl]
    go_enter Tryz.func27, Tryz.ntmps27
    go_wp2
    go_ret
    exact ⟨rfl, (Below.refl _ w).alloc (Nat.le_refl _) _⟩
  · have hr0 : rightB s L f = decide (L ≤ 64 ∧ f (L - 1) ≠ 0) := by unfold rightB; rw [if_neg (by omega)]
    obtain ⟨b, off, rfl, hc⟩ := hd.at h
    have hcl := hc (L - 1) (by omega)
    have hb := hc.lt h
    have hz : ((L : Int) == 0) = false := by simp; omega
    have hz1 : ((L : Int) - 1).toNat = L - 1 := by omega
    by_cases h64 : L ≤ 64
    · have h64' : (L : Int) ≤ 64 := by omega
      by_cases hf : f (L - 1) = 0
      · rw [hf] at hcl
        rw [show rightB s L f = false by rw [hr0]; simp [hf]]
        have HC := hide hcl
        clear hf hr0 hc hd
        have hcl2 : w.cell? ⟨b, off + (L - 1), none⟩ = some (.int .u32 0) := HC.out
        clear hcl
        go_enter Tryz.func27, Tryz.ntmps27
        go_wp2
        go_ret
        exact ⟨rfl, (Below.refl _ w).alloc (Nat.le_refl _) _⟩
      · have hne : (((f (L - 1) : Nat) : Int) != 0) = true := by simp; exact hf
        have hne2 : (((f (L - 1) : Nat) : Int) == 0) = false := by simp; exact hf
        rw [show rightB s L f = true by rw [hr0]; simp [hf, h64]]
        clear hf hr0 hc hd
        go_enter Tryz.func27, Tryz.ntmps27
        go_wp2
        go_ret
        exact ⟨rfl, (Below.refl _ w).alloc (Nat.le_refl _) _⟩
    · have h64' : (64 : Int) < L := by omega
      rw [show rightB s L f = false by rw [hr0]; simp [h64]]
      clear hr0 hc hd
      go_enter Tryz.func27, Tryz.ntmps27
      go_wp2
      go_ret
      exact ⟨rfl, (Below.refl _ w).alloc (Nat.le_refl _) _⟩
end Go.Proofs.YtmpdeiopdempcaaGreatDoor
