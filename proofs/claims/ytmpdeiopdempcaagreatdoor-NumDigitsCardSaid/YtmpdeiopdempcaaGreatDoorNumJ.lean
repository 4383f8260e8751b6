/- A right Num: num's number, Right, Of. -/
import Derived.Test.YtmpdeiopdempcaaGreatDoorNumG
namespace Go.Proofs.YtmpdeiopdempcaaGreatDoor
open Go.RowKit Go.Shelf

/-- sign and digits of a right Num that stands for z -/
structure IsN (w : World) (s : Bool) (a : Option Addr) (n : Nat) (z : Int) : Prop where
  sign : s = decide (z < 0)
  dig : IsD w a n z.natAbs
theorem IsN.below {w w' : World} {s : Bool} {a : Option Addr} {n : Nat} {z : Int} (h : IsN w s a n z) (t : Below w.heap.size w w') : IsN w' s a n z := ⟨h.sign, h.dig.below t⟩
/-- a Num is stored in a variable of the call's own -/
theorem num_store {w w4 : World} {B : Nat} {u0 u1 : Value} {s : Bool} {a : Option Addr} {n cap : Nat} {z : Int} (hb : Box2 w4 B u0 u1) (hB : w.heap.size ≤ B) (h4 : Below w.heap.size w w4) (hn : IsN w4 s a n z) (hne : n = 0 ∨ ∀ ad, a = some ad → ad.block ≠ B) :
    Box2 ((w4.setCell ⟨B, 0, none⟩ (.bool s)).setCell ⟨B, 1, none⟩ (.slice a n cap)) B (.bool s) (.slice a n cap) ∧ IsN ((w4.setCell ⟨B, 0, none⟩ (.bool s)).setCell ⟨B, 1, none⟩ (.slice a n cap)) s a n z ∧
      Below w.heap.size w ((w4.setCell ⟨B, 0, none⟩ (.bool s)).setCell ⟨B, 1, none⟩ (.slice a n cap)) := by
  obtain ⟨r0, r1, ht⟩ := setNum (.bool s) (.slice a n cap) hb.c0 hb.c1
  exact ⟨⟨r0, r1, by rw [World.frozen?_setCell, World.frozen?_setCell]; exact hb.z0, by rw [World.frozen?_setCell, World.frozen?_setCell]; exact hb.z1⟩, ⟨hn.sign, hn.dig.len, hn.dig.dig.touch' ht hne⟩, h4.trans (ht.below hB h4.size)⟩
def signed (s : Bool) (v : Nat) : Int := if s then -(v : Int) else v
theorem signed_abs (s : Bool) (v : Nat) : (signed s v).natAbs = v := by unfold signed; split <;> omega
theorem IsN.mk' {w : World} {s : Bool} {a : Option Addr} {n v : Nat} (h : IsD w a n v) (hs : s = true → v ≠ 0) : IsN w s a n (signed s v) := by
  refine ⟨?_, by rw [signed_abs]; exact h⟩
  cases s with
  | false => simp [signed]
  | true => have := hs rfl; simp [signed]; omega

set_option maxRecDepth 100000 in
set_option maxHeartbeats 1000000 in
theorem number_fit (neg : Bool) (a : Option Addr) (L cap : Nat) (f : Nat → Nat) (hL : L ≤ 1099511627776) (hcap : L ≤ cap) (hf : ∀ j, j < L → f j < 4294967296) (w : World) (hd : Dig w a L f) (hfit : dlen (valF f L) ≤ 64) :
    Calls Tryz.prog 42 #[.bool neg, .slice a L cap] w fun e w' => ∃ (s : Bool) (a' : Option Addr) (n cap' : Nat), e = .returned (.tuple #[.agg #[.bool s, .slice a' n cap'], .bool true]) ∧
      IsN w' s a' n (signed neg (valF f L)) ∧ (n = 0 ∨ a' = a) ∧ Below w.heap.size w w' := by
  go_enter Tryz.func42, Tryz.ntmps42
  go_wp2_with fail
  refine (trim_any a L cap f hL hcap hf _ (hd.below ((Below.refl _ w).alloc (Nat.le_refl _) _))).mono ?_
  rintro e w1 ⟨a', cap', rfl, ha, _, hb⟩
  have c0 : w1.cell? ⟨w.heap.size, 0, none⟩ = some (.bool false) := (hb.cell (p := ⟨w.heap.size, 0, none⟩) (by simp)).trans (by simp [go_sem])
  have c1 : w1.cell? ⟨w.heap.size, 1, none⟩ = some (.slice none 0 0) := (hb.cell (p := ⟨w.heap.size, 1, none⟩) (by simp)).trans (by simp [go_sem])
  have z0 : w1.frozen? ⟨w.heap.size, 0, none⟩ = false := (hb.frozen (p := ⟨w.heap.size, 0, none⟩) (by simp)).trans (by simp [go_sem])
  have z1 : w1.frozen? ⟨w.heap.size, 1, none⟩ = false := (hb.frozen (p := ⟨w.heap.size, 1, none⟩) (by simp)).trans (by simp [go_sem])
  have hD := IsD.of hd hf ha
  have hB : Below w.heap.size w w1 := ((Below.refl _ w).alloc (Nat.le_refl _) _).trans (hb.mono (by simp))
  obtain ⟨n, hn⟩ : ∃ n, n = dlen (valF f L) := ⟨_, rfl⟩
  rw [← hn] at hD ha hfit ⊢
  have hfit' : (n : Int) ≤ 64 := by omega
  have hn0 : n = 0 ↔ valF f L = 0 := by rw [hn]; exact dlen_eq_zero
  have HN := hide hn0
  have HA := hide ha
  have HB : Hid (∀ (s : Bool) (v : Value), Below w.heap.size w ((w1.setCell ⟨w.heap.size, 0, none⟩ (.bool s)).setCell ⟨w.heap.size, 1, none⟩ v)) := fun s v =>
    (hB.setCell (p := ⟨w.heap.size, 0, none⟩) (Nat.le_refl _) _).setCell (p := ⟨w.heap.size, 1, none⟩) (Nat.le_refl _) _
  have HR : Hid (∀ (s : Bool) (v : Value), ((w1.setCell ⟨w.heap.size, 0, none⟩ (.bool s)).setCell ⟨w.heap.size, 1, none⟩ v).cell? ⟨w.heap.size, 0, none⟩ = some (.bool s) ∧
      ((w1.setCell ⟨w.heap.size, 0, none⟩ (.bool s)).setCell ⟨w.heap.size, 1, none⟩ v).cell? ⟨w.heap.size, 1, none⟩ = some v) := fun s v => by
    refine ⟨?_, ?_⟩
    · rw [cell_setCell_ne _ _ _ _ (fun e => by have := congrArg Addr.off e; simp at this) rfl rfl]; exact World.cell?_setCell_same' _ _ _ (by rw [c0]; rfl)
    · refine World.cell?_setCell_same' _ _ _ ?_
      rw [cell_setCell_ne _ _ _ _ (fun e => by have := congrArg Addr.off e; simp at this) rfl rfl, c1]; rfl
  clear hn hb hn0 ha
  cases neg with
  | false =>
    go_wp2
    obtain ⟨r0, r1⟩ := HR.out false (.slice a' n cap')
    refine bodyPost_ret (v := .tuple #[.agg #[.bool false, .slice a' n cap'], .bool true]) (by simp [results, Tryz.results42, go_sem, r0, r1]) rfl ⟨_, _, _, _, rfl, ?_, HA.out.symm, HB.out _ _⟩
    exact (IsN.mk' (s := false) hD (by simp)).below (HB.out _ _)
  | true =>
    rcases Nat.eq_zero_or_pos n with h0 | h0
    · subst h0
      rw [show ((0 : Nat) : Int) = 0 from rfl] at *
      go_wp2
      obtain ⟨r0, r1⟩ := HR.out false (.slice a' 0 cap')
      have hv : valF f L = 0 := dlen_eq_zero.1 hD.len.symm
      rw [hv] at hD ⊢
      refine bodyPost_ret (v := .tuple #[.agg #[.bool false, .slice a' 0 cap'], .bool true]) (by simp [results, Tryz.results42, go_sem, r0, r1]) rfl ⟨_, _, _, _, rfl, ?_, .inl rfl, HB.out _ _⟩
      exact (IsN.mk' (s := false) hD (by simp)).below (HB.out _ _)
    · have h0' : (0 : Int) < n := by omega
      go_wp2
      obtain ⟨r0, r1⟩ := HR.out true (.slice a' n cap')
      refine bodyPost_ret (v := .tuple #[.agg #[.bool true, .slice a' n cap'], .bool true]) (by simp [results, Tryz.results42, go_sem, r0, r1]) rfl ⟨_, _, _, _, rfl, ?_, HA.out.symm, HB.out _ _⟩
      exact (IsN.mk' (s := true) hD (fun _ e => by have := HN.out.2 e; omega)).below (HB.out _ _)

set_option maxRecDepth 100000 in
set_option maxHeartbeats 1000000 in
theorem number_unfit (neg : Bool) (a : Option Addr) (L cap : Nat) (f : Nat → Nat) (hL : L ≤ 1099511627776) (hcap : L ≤ cap) (hf : ∀ j, j < L → f j < 4294967296) (w : World) (hd : Dig w a L f) (hfit : 64 < dlen (valF f L)) :
    Calls Tryz.prog 42 #[.bool neg, .slice a L cap] w fun e w' => e = .returned (.tuple #[.agg #[.bool false, .slice none 0 0], .bool false]) ∧ Below w.heap.size w w' := by
  go_enter Tryz.func42, Tryz.ntmps42
  go_wp2_with fail
  refine (trim_any a L cap f hL hcap hf _ (hd.below ((Below.refl _ w).alloc (Nat.le_refl _) _))).mono ?_
  rintro e w1 ⟨a', cap', rfl, ha, _, hb⟩
  have c0 : w1.cell? ⟨w.heap.size, 0, none⟩ = some (.bool false) := (hb.cell (p := ⟨w.heap.size, 0, none⟩) (by simp)).trans (by simp [go_sem])
  have c1 : w1.cell? ⟨w.heap.size, 1, none⟩ = some (.slice none 0 0) := (hb.cell (p := ⟨w.heap.size, 1, none⟩) (by simp)).trans (by simp [go_sem])
  have z0 : w1.frozen? ⟨w.heap.size, 0, none⟩ = false := (hb.frozen (p := ⟨w.heap.size, 0, none⟩) (by simp)).trans (by simp [go_sem])
  have z1 : w1.frozen? ⟨w.heap.size, 1, none⟩ = false := (hb.frozen (p := ⟨w.heap.size, 1, none⟩) (by simp)).trans (by simp [go_sem])
  have hB : Below w.heap.size w w1 := ((Below.refl _ w).alloc (Nat.le_refl _) _).trans (hb.mono (by simp))
  have hfit' : (64 : Int) < (dlen (valF f L) : Nat) := by omega
  have hlen : dlen (valF f L) ≤ L := dlen_le_iff.2 (valF_lt hf)
  go_wp2
  have HR : ((w1.setCell ⟨w.heap.size, 0, none⟩ (.bool false)).setCell ⟨w.heap.size, 1, none⟩ (.slice none 0 0)).cell? ⟨w.heap.size, 0, none⟩ = some (.bool false) ∧
      ((w1.setCell ⟨w.heap.size, 0, none⟩ (.bool false)).setCell ⟨w.heap.size, 1, none⟩ (.slice none 0 0)).cell? ⟨w.heap.size, 1, none⟩ = some (.slice none 0 0) := by
    refine ⟨?_, ?_⟩
    · rw [cell_setCell_ne _ _ _ _ (fun e => by have := congrArg Addr.off e; simp at this) rfl rfl]; exact World.cell?_setCell_same' _ _ _ (by rw [c0]; rfl)
    · refine World.cell?_setCell_same' _ _ _ ?_
      rw [cell_setCell_ne _ _ _ _ (fun e => by have := congrArg Addr.off e; simp at this) rfl rfl, c1]; rfl
  exact bodyPost_ret (v := .tuple #[.agg #[.bool false, .slice none 0 0], .bool false]) (by simp [results, Tryz.results42, go_sem, HR.1, HR.2]) rfl ⟨rfl, (hB.setCell (p := ⟨w.heap.size, 0, none⟩) (Nat.le_refl _) _).setCell (p := ⟨w.heap.size, 1, none⟩) (Nat.le_refl _) _⟩

set_option maxRecDepth 100000 in
set_option maxHeartbeats 1000000 in
/-- Of -/
theorem of_any (z : Int) (hz : -9223372036854775808 ≤ z) (hz' : z ≤ 9223372036854775807) (w : World) :
    Calls Tryz.prog 28 #[.int .i64 z] w fun e w' => ∃ (s : Bool) (a : Option Addr) (n cap : Nat), e = .returned (.agg #[.bool s, .slice a n cap]) ∧ IsN w' s a n z ∧ Below w.heap.size w w' := by
  have hB0 : Below w.heap.size w (w.alloc (.cells #[.bool false, .slice none 0 0] 27)) := (Below.refl _ w).alloc (Nat.le_refl _) _
  have HB0 := hide hB0
  clear hB0
  by_cases h : z < 0
  · have hw : IntKind.u64.wrap (-IntKind.u64.wrap z) = -z := by simp only [IntKind.wrap, IntKind.bits, IntKind.signed]; simp; omega
    have HW := hide hw
    clear hw
    go_enter Tryz.func28, Tryz.ntmps28
    go_wp2_with fail
    rw [HW.out]
    refine (split_int (-z) (by omega) (by omega) _).mono ?_
    rintro e w1 ⟨a', n, cap', rfl, hd, _, hfr, hb⟩
    have hB : Below w.heap.size w w1 := HB0.out.trans (hb.mono (by simp))
    have c0 : w1.cell? ⟨w.heap.size, 0, none⟩ = some (.bool false) := (hb.cell (p := ⟨w.heap.size, 0, none⟩) (by simp)).trans (by simp [go_sem])
    have c1 : w1.cell? ⟨w.heap.size, 1, none⟩ = some (.slice none 0 0) := (hb.cell (p := ⟨w.heap.size, 1, none⟩) (by simp)).trans (by simp [go_sem])
    have z0 : w1.frozen? ⟨w.heap.size, 0, none⟩ = false := (hb.frozen (p := ⟨w.heap.size, 0, none⟩) (by simp)).trans (by simp [go_sem])
    have z1 : w1.frozen? ⟨w.heap.size, 1, none⟩ = false := (hb.frozen (p := ⟨w.heap.size, 1, none⟩) (by simp)).trans (by simp [go_sem])
    go_wp2
    obtain ⟨r0, r1, ht⟩ := setNum (.bool true) (.slice a' n cap') c0 c1
    refine bodyPost_ret (v := .agg #[.bool true, .slice a' n cap']) (by simp [results, Tryz.results28, go_sem, r0, r1]) rfl ⟨_, _, _, _, rfl, ⟨by simp [h], ?_⟩, hB.trans (ht.below (Nat.le_refl _) hB.size)⟩
    have := hd.dig.touch' ht (Fresh.ne hfr (by simp))
    rw [show (-z).toNat = z.natAbs by omega] at this
    exact ⟨by rw [hd.len]; congr 1; omega, this⟩
  · have h0 : 0 ≤ z := by omega
    go_enter Tryz.func28, Tryz.ntmps28
    go_wp2_with fail
    refine (split_int z (by omega) (by omega) _).mono ?_
    rintro e w1 ⟨a', n, cap', rfl, hd, _, hfr, hb⟩
    have hB : Below w.heap.size w w1 := HB0.out.trans (hb.mono (by simp))
    have c0 : w1.cell? ⟨w.heap.size, 0, none⟩ = some (.bool false) := (hb.cell (p := ⟨w.heap.size, 0, none⟩) (by simp)).trans (by simp [go_sem])
    have c1 : w1.cell? ⟨w.heap.size, 1, none⟩ = some (.slice none 0 0) := (hb.cell (p := ⟨w.heap.size, 1, none⟩) (by simp)).trans (by simp [go_sem])
    have z0 : w1.frozen? ⟨w.heap.size, 0, none⟩ = false := (hb.frozen (p := ⟨w.heap.size, 0, none⟩) (by simp)).trans (by simp [go_sem])
    have z1 : w1.frozen? ⟨w.heap.size, 1, none⟩ = false := (hb.frozen (p := ⟨w.heap.size, 1, none⟩) (by simp)).trans (by simp [go_sem])
    go_wp2
    obtain ⟨r0, r1, ht⟩ := setNum (.bool false) (.slice a' n cap') c0 c1
    refine bodyPost_ret (v := .agg #[.bool false, .slice a' n cap']) (by simp [results, Tryz.results28, go_sem, r0, r1]) rfl ⟨_, _, _, _, rfl, ⟨by simp; omega, ?_⟩, hB.trans (ht.below (Nat.le_refl _) hB.size)⟩
    have := hd.dig.touch' ht (Fresh.ne hfr (by simp))
    rw [show z.toNat = z.natAbs by omega] at this
    exact ⟨by rw [hd.len]; congr 1; omega, this⟩
end Go.Proofs.YtmpdeiopdempcaaGreatDoor
