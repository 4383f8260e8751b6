/- num's decrease: a multiple of digits is subtracted from others, in their place. -/
import Derived.Test.YtmpdeiopdempcaaGreatDoorMem
import Derived.Test.YtmpdeiopdempcaaGreatDoorBack
namespace Go.Proofs.YtmpdeiopdempcaaGreatDoor
open Go.RowKit

def DecPost (b off nx ny : Nat) (f g : Nat → Nat) (c : Nat) (w : World) (e : Ending) (w' : World) : Prop :=
  ∃ (f' : Nat → Nat) (r : Nat) (t : Bool), e = .returned (.bool t) ∧ ((t = true ∧ 0 < r) ∨ (t = false ∧ r = 0)) ∧ r < 4294967296 ∧
      (∀ j, j < nx → f' j < 4294967296) ∧ valF f' nx + c * valF g ny = valF f nx + r * bp nx ∧ Cells w' b off nx f' ∧ Touch b off (off + nx) w w'

theorem dec_next {b off nx ny k r v s t : Nat} {f f' g : Nat → Nat} {c : Nat} {w wr : World} {vI bI : Int} (hlt : k < nx) (HS : ∀ j, k ≤ j → f' j = f j) (HF : ∀ j, j < nx → f' j < 4294967296)
    (hcx : Cells wr b off nx f') (ht : Touch b off (off + nx) w wr) (hv : v < 4294967296) (hb : t / 4294967296 + s < 4294967296) (hvI : vI = (v : Int)) (hbI : bI = ((t / 4294967296 + s : Nat) : Int))
    (heq : valF f' k + v * bp k + c * valF g (min (k + 1) ny) = valF f k + f k * bp k + (t / 4294967296 + s) * (4294967296 * bp k)) (_hr : r < 4294967296) :
    ∃ (k_1 : Nat) (f'_1 : Nat → Nat) (r_1 : Nat), k_1 ≤ nx ∧ Value.int .i64 ((k : Int) + 1) = .int .i64 (k_1 : Int) ∧ Value.int .u64 bI = .int .u64 (r_1 : Int) ∧ r_1 < 4294967296 ∧ (∀ j, j < nx → f'_1 j < 4294967296) ∧
      (∀ j, k_1 ≤ j → f'_1 j = f j) ∧ valF f'_1 k_1 + c * valF g (min k_1 ny) = valF f k_1 + r_1 * bp k_1 ∧ Cells (wr.setCell ⟨b, off + k, none⟩ (.int .u32 vI)) b off nx f'_1 ∧
      Touch b off (off + nx) w (wr.setCell ⟨b, off + k, none⟩ (.int .u32 vI)) := by
  subst hvI hbI
  refine ⟨k + 1, putF f' k v, t / 4294967296 + s, by omega, by simp, rfl, hb, putF_lt HF hv, ?_, ?_, hcx.set v hlt, ht.trans (Touch.setCell _ _ (by omega) (by omega))⟩
  · intro j hj; rw [putF_ne _ _ (by omega)]; exact HS j (by omega)
  · rw [valF_succ, valF_succ, bp_succ, putF_same, valF_putF_ge _ _ (Nat.le_refl _)]; exact heq

set_option maxHeartbeats 2000000 in
/-- decrease subtracts c times y from x, and reports whether something had to be borrowed. -/
theorem decrease_any (b off nx capx ny capy : Nat) (ay : Option Addr) (f g : Nat → Nat) (c : Nat) (hc : c < 4294967296) (hn : nx ≤ 1099511627776) (hny : ny ≤ nx)
    (hf : ∀ j, j < nx → f j < 4294967296) (hg : ∀ j, j < ny → g j < 4294967296) (w : World) (hx : Cells w b off nx f) (hy : Dig w ay ny g) (hyb : 0 < ny → ∀ ad, ay = some ad → ad.block ≠ b) (hfr : Free w b off nx) :
    Calls Tryz.prog 70 #[.slice (some ⟨b, off, none⟩) nx capx, .slice ay ny capy, .int .u32 (c : Int)] w (DecPost b off nx ny f g c w) := by
  go_enter Tryz.func70, Tryz.ntmps70
  go_wp2
  go_loopw [7, 12] (fun cr i wr => ∃ (k : Nat) (f' : Nat → Nat) (r : Nat), k ≤ nx ∧ i = .int .i64 (k : Int) ∧ cr = .int .u64 (r : Int) ∧ r < 4294967296 ∧ (∀ j, j < nx → f' j < 4294967296) ∧
      (∀ j, k ≤ j → f' j = f j) ∧ valF f' k + c * valF g (min k ny) = valF f k + r * bp k ∧ Cells wr b off nx f' ∧ Touch b off (off + nx) w wr)
    (fun _ i _ => nx - (intOf i).toNat)
  case atStart => exact ⟨0, f, 0, Nat.zero_le _, rfl, rfl, by decide, hf, fun _ _ => rfl, by simp [valF_zero], hx, Touch.refl _ _ _ _⟩
  case round =>
    obtain ⟨k, f', r, hk, rfl, rfl, hr, hf', hsame, hval, hcx, ht⟩ := hrel
    by_cases hlt : k < nx
    · have hx1 := hcx k hlt
      have hfz : wr.frozen? ⟨b, off + k, none⟩ = false := hfr.touch ht (hx.lt (by omega)) k hlt
      have hf1 := hf' k hlt
      have HV : Hid (valF f' k + c * valF g (min k ny) = valF f k + r * bp k) := hval
      have HS : Hid (∀ j, k ≤ j → f' j = f j) := hsame
      have HF : Hid (∀ j, j < nx → f' j < 4294967296) := hf'
      by_cases hly : k < ny
      · obtain ⟨by', oy, rfl, hcy⟩ := hy.at (by omega)
        have hy1 := hcy.touch ht (.inl (hyb (by omega) _ rfl)) k hly
        have hg1 := hg k hly
        have hm := mul32_le hg1 hc
        obtain ⟨hmul, hmul0⟩ := hm
        have hbl := borrow_lt hr hg1 hc
        have HB : Hid _ := hbl
        clear hcy hsame hval hf' hf hg hfr hyb hbl
        by_cases hlow : f' k < (r + g k * c) % 4294967296
        · have hlow' : (f' k : Int) < ((r : Int) + (g k : Int) * (c : Int)) % 4294967296 := by rw [cast_muladd', cast_mod32]; omega
          clear hlow
          go_wp2
          go_roundw
          case rel =>
            rw [cast_muladd'] at *
            refine dec_next (t := r + g k * c) (s := 1) (v := f' k + 4294967296 - (r + g k * c) % 4294967296) hlt HS.out HF.out hcx ht (by omega) (by have := HB.out; omega) (by omega) (by omega) ?_ hr
            have h1 : min (k + 1) ny = k + 1 := by omega
            have h2 : min k ny = k := by omega
            have h3 := HV.out
            rw [h2] at h3
            rw [h1, valF_succ, ← HS.out k (Nat.le_refl _)]
            exact sub_step h3 (by omega)
          case measure => simp [intOf]; omega
        · have hlow' : ((r : Int) + (g k : Int) * (c : Int)) % 4294967296 ≤ (f' k : Int) := by rw [cast_muladd', cast_mod32]; omega
          clear hlow
          go_wp2
          go_roundw
          case rel =>
            rw [cast_muladd'] at *
            refine dec_next (t := r + g k * c) (s := 0) (v := f' k - (r + g k * c) % 4294967296) hlt HS.out HF.out hcx ht (by omega) (by have := HB.out; omega) (by omega) (by omega) ?_ hr
            have h1 : min (k + 1) ny = k + 1 := by omega
            have h2 : min k ny = k := by omega
            have h3 := HV.out
            rw [h2] at h3
            rw [h1, valF_succ, ← HS.out k (Nat.le_refl _)]
            exact sub_step h3 (by omega)
          case measure => simp [intOf]; omega
      · have hly' : ¬ (k : Int) < ny := by omega
        by_cases hz : r = 0
        · subst hz
          rw [show ((0 : Nat) : Int) = 0 from rfl]
          clear hsame hval hf' hf hg hfr hyb
          go_wp2
          go_ret
          refine ⟨f', 0, false, rfl, .inr ⟨rfl, rfl⟩, by decide, HF.out, ?_, hcx, ht⟩
          have h2 : min k ny = ny := by omega
          have h3 := HV.out
          rw [h2] at h3
          obtain ⟨d, rfl⟩ : ∃ d, nx = k + d := ⟨nx - k, by omega⟩
          rw [valF_add, valF_add f, valF_congr (f := fun j => f' (k + j)) (g := fun j => f (k + j)) (fun j _ => HS.out (k + j) (by omega))]
          omega
        · have hz' : ((r : Int) == 0) = false := by simp; omega
          clear hsame hval hf' hf hg hfr hyb hz
          by_cases hlow : f' k < r
          · have hlow' : (f' k : Int) < (r : Int) := by omega
            have hmod : (r : Int) % 4294967296 = r := by omega
            clear hlow
            go_wp2
            go_roundw
            case rel =>
              refine dec_next (t := r) (s := 1) (v := f' k + 4294967296 - r % 4294967296) hlt HS.out HF.out hcx ht (by omega) (by omega) (by omega) (by omega) ?_ hr
              have h1 : min (k + 1) ny = ny := by omega
              have h2 : min k ny = ny := by omega
              have h3 := HV.out
              rw [h2] at h3
              rw [h1, ← HS.out k (Nat.le_refl _)]
              exact sub_step0 h3 (by omega)
            case measure => simp [intOf]; omega
          · have hlow' : (r : Int) ≤ (f' k : Int) := by omega
            have hmod : (r : Int) % 4294967296 = r := by omega
            clear hlow
            go_wp2
            go_roundw
            case rel =>
              refine dec_next (t := r) (s := 0) (v := f' k - r % 4294967296) hlt HS.out HF.out hcx ht (by omega) (by omega) (by omega) (by omega) ?_ hr
              have h1 : min (k + 1) ny = ny := by omega
              have h2 : min k ny = ny := by omega
              have h3 := HV.out
              rw [h2] at h3
              rw [h1, ← HS.out k (Nat.le_refl _)]
              exact sub_step0 h3 (by omega)
            case measure => simp [intOf]; omega
    · obtain rfl : k = nx := by omega
      clear hfr hyb
      go_wp2
      go_ret
      refine ⟨f', r, decide (0 < r), ?_, ?_, hr, hf', ?_, hcx, ht⟩
      · by_cases h : 0 < r <;> simp [h]
      · by_cases h : 0 < r
        · exact .inl ⟨by simp [h], h⟩
        · exact .inr ⟨by simp [h], by omega⟩
      · rw [← hval, Nat.min_eq_right hny]

theorem decrease_int (b off nx capx ny capy : Nat) (ay : Option Addr) (f g : Nat → Nat) (c : Int) (h0 : 0 ≤ c) (hc : c < 4294967296) (hn : nx ≤ 1099511627776) (hny : ny ≤ nx)
    (hf : ∀ j, j < nx → f j < 4294967296) (hg : ∀ j, j < ny → g j < 4294967296) (w : World) (hx : Cells w b off nx f) (hy : Dig w ay ny g) (hyb : 0 < ny → ∀ ad, ay = some ad → ad.block ≠ b) (hfr : Free w b off nx) :
    Calls Tryz.prog 70 #[.slice (some ⟨b, off, none⟩) nx capx, .slice ay ny capy, .int .u32 c] w (DecPost b off nx ny f g c.toNat w) := by
  obtain ⟨m, rfl⟩ := Int.eq_ofNat_of_zero_le h0
  exact decrease_any b off nx capx ny capy ay f g m (by omega) hn hny hf hg w hx hy hyb hfr
end Go.Proofs.YtmpdeiopdempcaaGreatDoor
