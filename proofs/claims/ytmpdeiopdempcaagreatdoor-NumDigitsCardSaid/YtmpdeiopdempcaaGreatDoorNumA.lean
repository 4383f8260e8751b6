/- The loops of num over digits: addTimes, increase, decrease. -/
import Derived.Test.YtmpdeiopdempcaaGreatDoorMem
import Derived.Test.YtmpdeiopdempcaaGreatDoorBack
namespace Go.Proofs.YtmpdeiopdempcaaGreatDoor
open Go.RowKit

set_option maxHeartbeats 1000000 in
/-- addTimes adds factor times y to the first digits of x, and returns the carry. -/
theorem addTimes_any (b off nx capx n capy : Nat) (ay : Option Addr) (f g : Nat → Nat) (c : Nat) (hc : c < 4294967296) (hn : n ≤ 1099511627776) (hnx : n ≤ nx)
    (hf : ∀ j, j < n → f j < 4294967296) (hg : ∀ j, j < n → g j < 4294967296) (w : World) (hx : Cells w b off n f) (hy : Dig w ay n g) (hyb : 0 < n → ∀ ad, ay = some ad → ad.block ≠ b) (hfr : Free w b off n) :
    Calls Tryz.prog 91 #[.slice (some ⟨b, off, none⟩) nx capx, .slice ay n capy, .int .u32 (c : Int)] w fun e w' => ∃ (f' : Nat → Nat) (r : Nat), e = .returned (.int .u32 (r : Int)) ∧
      r < 4294967296 ∧ (∀ j, j < n → f' j < 4294967296) ∧ valF f' n + r * bp n = valF f n + c * valF g n ∧ Cells w' b off n f' ∧ Touch b off (off + n) w w' := by
  go_enter Tryz.func91, Tryz.ntmps91
  go_wp2
  go_loopw [7, 12] (fun cr i wr => ∃ (k : Nat) (f' : Nat → Nat) (r : Nat), k ≤ n ∧ i = .int .i64 (k : Int) ∧ cr = .int .u64 (r : Int) ∧ r < 4294967296 ∧ (∀ j, j < n → f' j < 4294967296) ∧
      (∀ j, k ≤ j → f' j = f j) ∧ valF f' k + r * bp k = valF f k + c * valF g k ∧ Cells wr b off n f' ∧ Touch b off (off + n) w wr)
    (fun _ i _ => n - (intOf i).toNat)
  case atStart => exact ⟨0, f, 0, Nat.zero_le _, rfl, rfl, by decide, hf, fun _ _ => rfl, by simp [valF_zero], hx, Touch.refl _ _ _ _⟩
  case round =>
    obtain ⟨k, f', r, hk, rfl, rfl, hr, hf', hsame, hval, hcx, ht⟩ := hrel
    by_cases hlt : k < n
    · obtain ⟨by', oy, rfl, hcy⟩ := hy.at (by omega)
      have hb' : by' ≠ b := hyb (by omega) _ rfl
      have hcy' := hcy.touch ht (.inl hb')
      have hx1 := hcx k hlt
      have hy1 := hcy' k hlt
      have hfz : wr.frozen? ⟨b, off + k, none⟩ = false := by
        have := hfr.touch ht (hx.lt (by omega)) k hlt; exact this
      have hg1 := hg k hlt
      have hf1 := hf' k hlt
      have hmul : (g k : Int) * (c : Int) ≤ 18446744065119617025 := by
        have : g k * c ≤ 4294967295 * 4294967295 := Nat.mul_le_mul (by omega) (by omega)
        rw [← Int.natCast_mul]; omega
      have hmul0 : 0 ≤ (g k : Int) * (c : Int) := by rw [← Int.natCast_mul]; omega
      have HV : Hid (valF f' k + r * bp k = valF f k + c * valF g k) := hval
      have HS : Hid (∀ j, k ≤ j → f' j = f j) := hsame
      have HF : Hid (∀ j, j < n → f' j < 4294967296) := hf'
      clear hcy hcy' hsame hval hf' hf hg hfr hyb
      go_wp2
      go_roundw
      case rel =>
        refine ⟨k + 1, putF f' k ((r + (f' k + g k * c)) % 4294967296), (r + (f' k + g k * c)) / 4294967296, by omega, by go_num, ?_, ?_, putF_lt HF.out (Nat.mod_lt _ (by decide)), ?_, ?_, ?_, ?_⟩
        · rw [cast_muladd, cast_div32]
        · have : g k * c ≤ 18446744065119617025 := by rw [← Int.natCast_mul] at hmul; omega
          omega
        · intro j hj; rw [putF_ne _ _ (by omega)]; exact HS.out j (by omega)
        · rw [valF_succ, valF_succ, valF_succ, bp_succ, putF_same, valF_putF_ge _ _ (Nat.le_refl _), ← HS.out k (Nat.le_refl _)]
          exact add_step HV.out
        · have := hcx.set ((r + (f' k + g k * c)) % 4294967296) hlt
          rw [cast_muladd, cast_mod32]; exact this
        · rw [cast_muladd, cast_mod32]; exact ht.trans (Touch.setCell _ _ (by omega) (by omega))
      case measure => simp [intOf]; omega
    · obtain rfl : k = n := by omega
      go_wp2
      go_ret
      exact ⟨f', r, rfl, hr, hf', hval, hcx, ht⟩

theorem addTimes_int (b off nx capx n capy : Nat) (ay : Option Addr) (f g : Nat → Nat) (c : Int) (h0 : 0 ≤ c) (hc : c < 4294967296) (hn : n ≤ 1099511627776) (hnx : n ≤ nx)
    (hf : ∀ j, j < n → f j < 4294967296) (hg : ∀ j, j < n → g j < 4294967296) (w : World) (hx : Cells w b off n f) (hy : Dig w ay n g) (hyb : 0 < n → ∀ ad, ay = some ad → ad.block ≠ b) (hfr : Free w b off n) :
    Calls Tryz.prog 91 #[.slice (some ⟨b, off, none⟩) nx capx, .slice ay n capy, .int .u32 c] w fun e w' => ∃ (f' : Nat → Nat) (r : Nat), e = .returned (.int .u32 (r : Int)) ∧
      r < 4294967296 ∧ (∀ j, j < n → f' j < 4294967296) ∧ valF f' n + r * bp n = valF f n + c.toNat * valF g n ∧ Cells w' b off n f' ∧ Touch b off (off + n) w w' := by
  obtain ⟨m, rfl⟩ := Int.eq_ofNat_of_zero_le h0
  exact addTimes_any b off nx capx n capy ay f g m (by omega) hn hnx hf hg w hx hy hyb hfr

set_option maxHeartbeats 1000000 in
/-- increase adds y to x; what is carried beyond x is lost. -/
theorem increase_any (b off nx capx ny capy : Nat) (ay : Option Addr) (f g : Nat → Nat) (hn : nx ≤ 1099511627776) (hny : ny ≤ nx) (hcap : nx ≤ capx)
    (hf : ∀ j, j < nx → f j < 4294967296) (hg : ∀ j, j < ny → g j < 4294967296) (w : World) (hx : Cells w b off nx f) (hy : Dig w ay ny g) (hyb : 0 < ny → ∀ ad, ay = some ad → ad.block ≠ b) (hfr : Free w b off nx) :
    Calls Tryz.prog 69 #[.slice (some ⟨b, off, none⟩) nx capx, .slice ay ny capy] w fun e w' => ∃ (f' : Nat → Nat), e = .returned (.tuple #[]) ∧
      (∀ j, j < nx → f' j < 4294967296) ∧ valF f' nx = (valF f nx + valF g ny) % bp nx ∧ Cells w' b off nx f' ∧ Touch b off (off + nx) w w' := by
  go_enter Tryz.func69, Tryz.ntmps69
  go_wp2_with (go_at_call 91; refine (addTimes_int b off _ _ ny capy ay f g _ (by decide) (by decide) (by omega) (Nat.le_refl _) (fun j hj => hf j (by omega)) hg _ (hx.mono hny) hy hyb (fun j hj => hfr j (by omega))).mono ?_; rintro e w1 ⟨f1, r1, rfl, hr1, hf1, hv1, hc1, ht1⟩)
  have hlow : ∀ j, j < ny → mixF f1 f ny j = f1 j := fun j hj => by simp [mixF, hj]
  have hhigh : ∀ j, ny ≤ j → mixF f1 f ny j = f j := fun j hj => by simp [mixF, Nat.not_lt.2 hj]
  have hcx : Cells w1 b off nx (mixF f1 f ny) := fun j hj => by
    by_cases e : j < ny
    · rw [hlow j e]; exact hc1 j e
    · rw [hhigh j (by omega), ht1.cell _ (by omega)]; exact hx j hj
  have hlt2 : ∀ j, j < nx → mixF f1 f ny j < 4294967296 := fun j hj => by
    by_cases e : j < ny
    · rw [hlow j e]; exact hf1 j e
    · rw [hhigh j (by omega)]; exact hf j hj
  have hval : valF (mixF f1 f ny) ny + r1 * bp ny = valF f ny + valF g ny := by
    rw [valF_congr hlow]; simpa using hv1
  have HV : Hid (valF (mixF f1 f ny) ny + r1 * bp ny = valF f ny + valF g ny) := hval
  have HF : Hid (∀ j, j < nx → mixF f1 f ny j < 4294967296) := hlt2
  have HH : Hid (∀ j, ny ≤ j → mixF f1 f ny j = f j) := hhigh
  have HR : Hid (Free w b off nx) := hfr
  have HX : Hid (Cells w b off nx f) := hx
  clear hlow hhigh hlt2 hval hv1 hf1 hf hg hyb hfr hx
  go_loopw [4, 5] (fun cr i wr => ∃ (k : Nat) (f' : Nat → Nat) (r : Nat), ny ≤ k ∧ k ≤ nx ∧ i = .int .i64 (k : Int) ∧ cr = .int .u64 (r : Int) ∧ r < 4294967296 ∧ (∀ j, j < nx → f' j < 4294967296) ∧
      (∀ j, k ≤ j → f' j = f j) ∧ valF f' k + r * bp k = valF f k + valF g ny ∧ Cells wr b off nx f' ∧ Touch b off (off + nx) w wr)
    (fun _ i _ => nx - (intOf i).toNat)
  case atStart => exact ⟨ny, mixF f1 f ny, r1, Nat.le_refl _, hny, rfl, rfl, hr1, HF.out, HH.out, HV.out, hcx, ht1.widen (Nat.le_refl _) (by omega)⟩
  case round =>
    obtain ⟨k, f', r, hk0, hk, rfl, rfl, hr, hf', hsame, hval, hcx', ht⟩ := hrel
    by_cases hlt : k < nx
    · by_cases hz : r = 0
      · subst hz
        have hz' : ((0 : Nat) : Int) = 0 := rfl
        rw [hz']
        clear hz'
        go_wp2
        go_end0
        refine ⟨f', rfl, hf', ?_, hcx', ht⟩
        have e1 : valF f' nx = valF f nx + valF g ny := by
          obtain ⟨d, rfl⟩ : ∃ d, nx = k + d := ⟨nx - k, by omega⟩
          rw [valF_add, valF_add f, valF_congr (f := fun j => f' (k + j)) (g := fun j => f (k + j)) (fun j _ => hsame (k + j) (by omega))]
          omega
        rw [← e1, Nat.mod_eq_of_lt (valF_lt hf')]
      · have hx1 := hcx' k hlt
        have hfz : wr.frozen? ⟨b, off + k, none⟩ = false := HR.out.touch ht (HX.out.lt (by omega)) k hlt
        have hf1 := hf' k hlt
        have hr0 : (0 : Int) < (r : Int) := by omega
        have HV : Hid (valF f' k + r * bp k = valF f k + valF g ny) := hval
        have HS : Hid (∀ j, k ≤ j → f' j = f j) := hsame
        have HF : Hid (∀ j, j < nx → f' j < 4294967296) := hf'
        clear hsame hval hf' hz
        go_wp2
        go_roundw
        case rel =>
          refine ⟨k + 1, putF f' k ((r + f' k) % 4294967296), (r + f' k) / 4294967296, by omega, by omega, by go_num, ?_, by omega, putF_lt HF.out (Nat.mod_lt _ (by decide)), ?_, ?_, ?_, ?_⟩
          · rw [← Int.natCast_add, cast_div32]
          · intro j hj; rw [putF_ne _ _ (by omega)]; exact HS.out j (by omega)
          · rw [valF_succ, valF_succ, bp_succ, putF_same, valF_putF_ge _ _ (Nat.le_refl _), ← HS.out k (Nat.le_refl _), Nat.add_assoc, split_mul, Nat.add_mul]
            have := HV.out
            omega
          · rw [← Int.natCast_add, cast_mod32]; exact hcx'.set _ hlt
          · rw [← Int.natCast_add, cast_mod32]; exact ht.trans (Touch.setCell _ _ (by omega) (by omega))
        case measure => simp [intOf]; omega
    · obtain rfl : k = nx := by omega
      go_wp2
      go_end0
      refine ⟨f', rfl, hf', ?_, hcx', ht⟩
      rw [← hval, Nat.add_mul_mod_self_right, Nat.mod_eq_of_lt (valF_lt hf')]
end Go.Proofs.YtmpdeiopdempcaaGreatDoor
