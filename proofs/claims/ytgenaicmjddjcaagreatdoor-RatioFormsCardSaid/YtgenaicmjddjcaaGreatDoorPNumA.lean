/- Several texts in one. -/
import Derived.Test.YtgenaicmjddjcaaGreatDoorPMem
import Derived.Deep.OwnRows
import Derived.Laws.CopyOwn
import Derived.RangeFuncBox
/- The loops of num over digits: addTimes, increase, decrease. -/
namespace Go.Proofs.YtgenaicmjddjcaaGreatDoor
open Go.RowKit

set_option maxHeartbeats 1000000 in
theorem addTimes_any (b off nx capx n capy : Nat) (ay : Option Addr) (f g : Nat → Nat) (c : Nat) (hc : c < 4294967296) (hn : n ≤ 1099511627776) (hnx : n ≤ nx)
 (hf : ∀ j, j < n → f j < 4294967296) (hg : ∀ j, j < n → g j < 4294967296) (w : World) (hx : Cells w b off n f) (hy : Dig w ay n g) (hyb : 0 < n → ∀ ad, ay = some ad → ad.block ≠ b) (hfr : Free w b off n) :
 Calls Tryz.prog 129 #[.slice (some ⟨b, off, none⟩) nx capx, .slice ay n capy, .int .u32 (c : Int)] w fun e w' => ∃ (f' : Nat → Nat) (r : Nat), e = .returned (.int .u32 (r : Int)) ∧
  r < 4294967296 ∧ (∀ j, j < n → f' j < 4294967296) ∧ valF f' n + r * bp n = valF f n + c * valF g n ∧ Cells w' b off n f' ∧ Touch b off (off + n) w w' := by
 go_enter Tryz.func129, Tryz.ntmps129
 go_wp2
 go_loopw [7, 12] (fun cr i wr => ∃ (k : Nat) (f' : Nat → Nat) (r : Nat), k ≤ n ∧ i = .int .i64 (k : Int) ∧ cr = .int .u64 (r : Int) ∧ r < 4294967296 ∧ (∀ j, j < n → f' j < 4294967296) ∧
  (∀ j, k ≤ j → f' j = f j) ∧ valF f' k + r * bp k = valF f k + c * valF g k ∧ Cells wr b off n f' ∧ Touch b off (off + n) w wr)
  (fun _ i _ => n - (intOf i).toNat)
 case atStart => exact ⟨0, f, 0, Nat.zero_le _, rfl, rfl, by decide, hf, fun _ _ => rfl, by simp [valF_zero], hx, Touch.refl _ _ _ _⟩
 case round =>
  obtain ⟨k, f', r, hk, rfl, rfl, hr, hf', hsame, hval, hcx, ht⟩ := hrel
  by_cases hlt : k < n
  · obtain ⟨by', oy, rfl, hcy⟩ := hy.at (by omega)
    have hb' : by' ≠ b := hyb (by omega) _ rfl
    have hcy' := hcy.touch ht (.inl hb')
    have hx1 := hcx k hlt
    have hy1 := hcy' k hlt
    have hfz : wr.frozen? ⟨b, off + k, none⟩ = false := by
     have := hfr.touch ht (hx.lt (by omega)) k hlt; exact this
    have hg1 := hg k hlt
    have hf1 := hf' k hlt
    have hmul : (g k : Int) * (c : Int) ≤ 18446744065119617025 := by
     have : g k * c ≤ 4294967295 * 4294967295 := Nat.mul_le_mul (by omega) (by omega)
     rw [← Int.natCast_mul]; omega
    have hmul0 : 0 ≤ (g k : Int) * (c : Int) := by rw [← Int.natCast_mul]; omega
    have HV : Hid (valF f' k + r * bp k = valF f k + c * valF g k) := hval
    have HS : Hid (∀ j, k ≤ j → f' j = f j) := hsame
    have HF : Hid (∀ j, j < n → f' j < 4294967296) := hf'
    clear hcy hcy' hsame hval hf' hf hg hfr hyb
    go_wp2
    go_roundw
    case rel =>
     refine ⟨k + 1, putF f' k ((r + (f' k + g k * c)) % 4294967296), (r + (f' k + g k * c)) / 4294967296, by omega, by go_num, ?_, ?_, putF_lt HF.out (Nat.mod_lt _ (by decide)), ?_, ?_, ?_, ?_⟩
     · rw [cast_muladd, cast_div32]
     · have : g k * c ≤ 18446744065119617025 := by rw [← Int.natCast_mul] at hmul; omega
       omega
     · intro j hj; rw [putF_ne _ _ (by omega)]; exact HS.out j (by omega)
     · rw [valF_succ, valF_succ, valF_succ, bp_succ, putF_same, valF_putF_ge _ _ (Nat.le_refl _), ← HS.out k (Nat.le_refl _)]
       exact add_step HV.out
     · have := hcx.set ((r + (f' k + g k * c)) % 4294967296) hlt
       rw [cast_muladd, cast_mod32]; exact this
     · rw [cast_muladd, cast_mod32]; exact ht.trans (Touch.setCell _ _ (by omega) (by omega))
    case measure => simp [intOf]; omega
  · obtain rfl : k = n := by omega
    go_wp2
    go_ret
    exact ⟨f', r, rfl, hr, hf', hval, hcx, ht⟩

theorem addTimes_int (b off nx capx n capy : Nat) (ay : Option Addr) (f g : Nat → Nat) (c : Int) (h0 : 0 ≤ c) (hc : c < 4294967296) (hn : n ≤ 1099511627776) (hnx : n ≤ nx)
 (hf : ∀ j, j < n → f j < 4294967296) (hg : ∀ j, j < n → g j < 4294967296) (w : World) (hx : Cells w b off n f) (hy : Dig w ay n g) (hyb : 0 < n → ∀ ad, ay = some ad → ad.block ≠ b) (hfr : Free w b off n) :
 Calls Tryz.prog 129 #[.slice (some ⟨b, off, none⟩) nx capx, .slice ay n capy, .int .u32 c] w fun e w' => ∃ (f' : Nat → Nat) (r : Nat), e = .returned (.int .u32 (r : Int)) ∧
  r < 4294967296 ∧ (∀ j, j < n → f' j < 4294967296) ∧ valF f' n + r * bp n = valF f n + c.toNat * valF g n ∧ Cells w' b off n f' ∧ Touch b off (off + n) w w' := by
 obtain ⟨m, rfl⟩ := Int.eq_ofNat_of_zero_le h0
 exact addTimes_any b off nx capx n capy ay f g m (by omega) hn hnx hf hg w hx hy hyb hfr

set_option maxHeartbeats 1000000 in
theorem increase_any (b off nx capx ny capy : Nat) (ay : Option Addr) (f g : Nat → Nat) (hn : nx ≤ 1099511627776) (hny : ny ≤ nx) (hcap : nx ≤ capx)
 (hf : ∀ j, j < nx → f j < 4294967296) (hg : ∀ j, j < ny → g j < 4294967296) (w : World) (hx : Cells w b off nx f) (hy : Dig w ay ny g) (hyb : 0 < ny → ∀ ad, ay = some ad → ad.block ≠ b) (hfr : Free w b off nx) :
 Calls Tryz.prog 131 #[.slice (some ⟨b, off, none⟩) nx capx, .slice ay ny capy] w fun e w' => ∃ (f' : Nat → Nat), e = .returned (.tuple #[]) ∧
  (∀ j, j < nx → f' j < 4294967296) ∧ valF f' nx = (valF f nx + valF g ny) % bp nx ∧ Cells w' b off nx f' ∧ Touch b off (off + nx) w w' := by
 go_enter Tryz.func131, Tryz.ntmps131
 go_wp2_with (go_at_call 129; refine (addTimes_int b off _ _ ny capy ay f g _ (by decide) (by decide) (by omega) (Nat.le_refl _) (fun j hj => hf j (by omega)) hg _ (hx.mono hny) hy hyb (fun j hj => hfr j (by omega))).mono ?_; rintro e w1 ⟨f1, r1, rfl, hr1, hf1, hv1, hc1, ht1⟩)
 have hlow : ∀ j, j < ny → mixF f1 f ny j = f1 j := fun j hj => by simp [mixF, hj]
 have hhigh : ∀ j, ny ≤ j → mixF f1 f ny j = f j := fun j hj => by simp [mixF, Nat.not_lt.2 hj]
 have hcx : Cells w1 b off nx (mixF f1 f ny) := fun j hj => by
  by_cases e : j < ny
  · rw [hlow j e]; exact hc1 j e
  · rw [hhigh j (by omega), ht1.cell _ (by omega)]; exact hx j hj
 have hlt2 : ∀ j, j < nx → mixF f1 f ny j < 4294967296 := fun j hj => by
  by_cases e : j < ny
  · rw [hlow j e]; exact hf1 j e
  · rw [hhigh j (by omega)]; exact hf j hj
 have hval : valF (mixF f1 f ny) ny + r1 * bp ny = valF f ny + valF g ny := by
  rw [valF_congr hlow]; simpa using hv1
 have HV : Hid (valF (mixF f1 f ny) ny + r1 * bp ny = valF f ny + valF g ny) := hval
 have HF : Hid (∀ j, j < nx → mixF f1 f ny j < 4294967296) := hlt2
 have HH : Hid (∀ j, ny ≤ j → mixF f1 f ny j = f j) := hhigh
 have HR : Hid (Free w b off nx) := hfr
 have HX : Hid (Cells w b off nx f) := hx
 clear hlow hhigh hlt2 hval hv1 hf1 hf hg hyb hfr hx
 go_loopw [4, 5] (fun cr i wr => ∃ (k : Nat) (f' : Nat → Nat) (r : Nat), ny ≤ k ∧ k ≤ nx ∧ i = .int .i64 (k : Int) ∧ cr = .int .u64 (r : Int) ∧ r < 4294967296 ∧ (∀ j, j < nx → f' j < 4294967296) ∧
  (∀ j, k ≤ j → f' j = f j) ∧ valF f' k + r * bp k = valF f k + valF g ny ∧ Cells wr b off nx f' ∧ Touch b off (off + nx) w wr)
  (fun _ i _ => nx - (intOf i).toNat)
 case atStart => exact ⟨ny, mixF f1 f ny, r1, Nat.le_refl _, hny, rfl, rfl, hr1, HF.out, HH.out, HV.out, hcx, ht1.widen (Nat.le_refl _) (by omega)⟩
 case round =>
  obtain ⟨k, f', r, hk0, hk, rfl, rfl, hr, hf', hsame, hval, hcx', ht⟩ := hrel
  by_cases hlt : k < nx
  · by_cases hz : r = 0
    · subst hz
      have hz' : ((0 : Nat) : Int) = 0 := rfl
      rw [hz']
      clear hz'
      go_wp2
      go_end0
      refine ⟨f', rfl, hf', ?_, hcx', ht⟩
      have e1 : valF f' nx = valF f nx + valF g ny := by
       obtain ⟨d, rfl⟩ : ∃ d, nx = k + d := ⟨nx - k, by omega⟩
       rw [valF_add, valF_add f, valF_congr (f := fun j => f' (k + j)) (g := fun j => f (k + j)) (fun j _ => hsame (k + j) (by omega))]
       omega
      rw [← e1, Nat.mod_eq_of_lt (valF_lt hf')]
    · have hx1 := hcx' k hlt
      have hfz : wr.frozen? ⟨b, off + k, none⟩ = false := HR.out.touch ht (HX.out.lt (by omega)) k hlt
      have hf1 := hf' k hlt
      have hr0 : (0 : Int) < (r : Int) := by omega
      have HV : Hid (valF f' k + r * bp k = valF f k + valF g ny) := hval
      have HS : Hid (∀ j, k ≤ j → f' j = f j) := hsame
      have HF : Hid (∀ j, j < nx → f' j < 4294967296) := hf'
      clear hsame hval hf' hz
      go_wp2
      go_roundw
      case rel =>
       refine ⟨k + 1, putF f' k ((r + f' k) % 4294967296), (r + f' k) / 4294967296, by omega, by omega, by go_num, ?_, by omega, putF_lt HF.out (Nat.mod_lt _ (by decide)), ?_, ?_, ?_, ?_⟩
       · rw [← Int.natCast_add, cast_div32]
       · intro j hj; rw [putF_ne _ _ (by omega)]; exact HS.out j (by omega)
       · rw [valF_succ, valF_succ, bp_succ, putF_same, valF_putF_ge _ _ (Nat.le_refl _), ← HS.out k (Nat.le_refl _), Nat.add_assoc, split_mul, Nat.add_mul]
         have := HV.out
         omega
       · rw [← Int.natCast_add, cast_mod32]; exact hcx'.set _ hlt
       · rw [← Int.natCast_add, cast_mod32]; exact ht.trans (Touch.setCell _ _ (by omega) (by omega))
      case measure => simp [intOf]; omega
  · obtain rfl : k = nx := by omega
    go_wp2
    go_end0
    refine ⟨f', rfl, hf', ?_, hcx', ht⟩
    rw [← hval, Nat.add_mul_mod_self_right, Nat.mod_eq_of_lt (valF_lt hf')]
end Go.Proofs.YtgenaicmjddjcaaGreatDoor

/- num's decrease: a multiple of digits is subtracted from others, in their place. -/
namespace Go.Proofs.YtgenaicmjddjcaaGreatDoor
open Go.RowKit

def DecPost (b off nx ny : Nat) (f g : Nat → Nat) (c : Nat) (w : World) (e : Ending) (w' : World) : Prop :=
 ∃ (f' : Nat → Nat) (r : Nat) (t : Bool), e = .returned (.bool t) ∧ ((t = true ∧ 0 < r) ∨ (t = false ∧ r = 0)) ∧ r < 4294967296 ∧
     (∀ j, j < nx → f' j < 4294967296) ∧ valF f' nx + c * valF g ny = valF f nx + r * bp nx ∧ Cells w' b off nx f' ∧ Touch b off (off + nx) w w'

theorem dec_next {b off nx ny k r v s t : Nat} {f f' g : Nat → Nat} {c : Nat} {w wr : World} {vI bI : Int} (hlt : k < nx) (HS : ∀ j, k ≤ j → f' j = f j) (HF : ∀ j, j < nx → f' j < 4294967296)
 (hcx : Cells wr b off nx f') (ht : Touch b off (off + nx) w wr) (hv : v < 4294967296) (hb : t / 4294967296 + s < 4294967296) (hvI : vI = (v : Int)) (hbI : bI = ((t / 4294967296 + s : Nat) : Int))
 (heq : valF f' k + v * bp k + c * valF g (min (k + 1) ny) = valF f k + f k * bp k + (t / 4294967296 + s) * (4294967296 * bp k)) (_hr : r < 4294967296) :
 ∃ (k_1 : Nat) (f'_1 : Nat → Nat) (r_1 : Nat), k_1 ≤ nx ∧ Value.int .i64 ((k : Int) + 1) = .int .i64 (k_1 : Int) ∧ Value.int .u64 bI = .int .u64 (r_1 : Int) ∧ r_1 < 4294967296 ∧ (∀ j, j < nx → f'_1 j < 4294967296) ∧
  (∀ j, k_1 ≤ j → f'_1 j = f j) ∧ valF f'_1 k_1 + c * valF g (min k_1 ny) = valF f k_1 + r_1 * bp k_1 ∧ Cells (wr.setCell ⟨b, off + k, none⟩ (.int .u32 vI)) b off nx f'_1 ∧
  Touch b off (off + nx) w (wr.setCell ⟨b, off + k, none⟩ (.int .u32 vI)) := by
 subst hvI hbI
 refine ⟨k + 1, putF f' k v, t / 4294967296 + s, by omega, by simp, rfl, hb, putF_lt HF hv, ?_, ?_, hcx.set v hlt, ht.trans (Touch.setCell _ _ (by omega) (by omega))⟩
 · intro j hj; rw [putF_ne _ _ (by omega)]; exact HS j (by omega)
 · rw [valF_succ, valF_succ, bp_succ, putF_same, valF_putF_ge _ _ (Nat.le_refl _)]; exact heq

set_option maxHeartbeats 2000000 in
theorem decrease_any (b off nx capx ny capy : Nat) (ay : Option Addr) (f g : Nat → Nat) (c : Nat) (hc : c < 4294967296) (hn : nx ≤ 1099511627776) (hny : ny ≤ nx)
 (hf : ∀ j, j < nx → f j < 4294967296) (hg : ∀ j, j < ny → g j < 4294967296) (w : World) (hx : Cells w b off nx f) (hy : Dig w ay ny g) (hyb : 0 < ny → ∀ ad, ay = some ad → ad.block ≠ b) (hfr : Free w b off nx) :
 Calls Tryz.prog 132 #[.slice (some ⟨b, off, none⟩) nx capx, .slice ay ny capy, .int .u32 (c : Int)] w (DecPost b off nx ny f g c w) := by
 go_enter Tryz.func132, Tryz.ntmps132
 go_wp2
 go_loopw [7, 12] (fun cr i wr => ∃ (k : Nat) (f' : Nat → Nat) (r : Nat), k ≤ nx ∧ i = .int .i64 (k : Int) ∧ cr = .int .u64 (r : Int) ∧ r < 4294967296 ∧ (∀ j, j < nx → f' j < 4294967296) ∧
  (∀ j, k ≤ j → f' j = f j) ∧ valF f' k + c * valF g (min k ny) = valF f k + r * bp k ∧ Cells wr b off nx f' ∧ Touch b off (off + nx) w wr)
  (fun _ i _ => nx - (intOf i).toNat)
 case atStart => exact ⟨0, f, 0, Nat.zero_le _, rfl, rfl, by decide, hf, fun _ _ => rfl, by simp [valF_zero], hx, Touch.refl _ _ _ _⟩
 case round =>
  obtain ⟨k, f', r, hk, rfl, rfl, hr, hf', hsame, hval, hcx, ht⟩ := hrel
  by_cases hlt : k < nx
  · have hx1 := hcx k hlt
    have hfz : wr.frozen? ⟨b, off + k, none⟩ = false := hfr.touch ht (hx.lt (by omega)) k hlt
    have hf1 := hf' k hlt
    have HV : Hid (valF f' k + c * valF g (min k ny) = valF f k + r * bp k) := hval
    have HS : Hid (∀ j, k ≤ j → f' j = f j) := hsame
    have HF : Hid (∀ j, j < nx → f' j < 4294967296) := hf'
    by_cases hly : k < ny
    · obtain ⟨by', oy, rfl, hcy⟩ := hy.at (by omega)
      have hy1 := hcy.touch ht (.inl (hyb (by omega) _ rfl)) k hly
      have hg1 := hg k hly
      have hm := mul32_le hg1 hc
      obtain ⟨hmul, hmul0⟩ := hm
      have hbl := borrow_lt hr hg1 hc
      have HB : Hid _ := hbl
      clear hcy hsame hval hf' hf hg hfr hyb hbl
      by_cases hlow : f' k < (r + g k * c) % 4294967296
      · have hlow' : (f' k : Int) < ((r : Int) + (g k : Int) * (c : Int)) % 4294967296 := by rw [cast_muladd', cast_mod32]; omega
        clear hlow
        go_wp2
        go_roundw
        case rel =>
         rw [cast_muladd'] at *
         refine dec_next (t := r + g k * c) (s := 1) (v := f' k + 4294967296 - (r + g k * c) % 4294967296) hlt HS.out HF.out hcx ht (by omega) (by have := HB.out; omega) (by omega) (by omega) ?_ hr
         have h1 : min (k + 1) ny = k + 1 := by omega
         have h2 : min k ny = k := by omega
         have h3 := HV.out
         rw [h2] at h3
         rw [h1, valF_succ, ← HS.out k (Nat.le_refl _)]
         exact sub_step h3 (by omega)
        case measure => simp [intOf]; omega
      · have hlow' : ((r : Int) + (g k : Int) * (c : Int)) % 4294967296 ≤ (f' k : Int) := by rw [cast_muladd', cast_mod32]; omega
        clear hlow
        go_wp2
        go_roundw
        case rel =>
         rw [cast_muladd'] at *
         refine dec_next (t := r + g k * c) (s := 0) (v := f' k - (r + g k * c) % 4294967296) hlt HS.out HF.out hcx ht (by omega) (by have := HB.out; omega) (by omega) (by omega) ?_ hr
         have h1 : min (k + 1) ny = k + 1 := by omega
         have h2 : min k ny = k := by omega
         have h3 := HV.out
         rw [h2] at h3
         rw [h1, valF_succ, ← HS.out k (Nat.le_refl _)]
         exact sub_step h3 (by omega)
        case measure => simp [intOf]; omega
    · have hly' : ¬ (k : Int) < ny := by omega
      by_cases hz : r = 0
      · subst hz
        rw [show ((0 : Nat) : Int) = 0 from rfl]
        clear hsame hval hf' hf hg hfr hyb
        go_wp2
        go_ret
        refine ⟨f', 0, false, rfl, .inr ⟨rfl, rfl⟩, by decide, HF.out, ?_, hcx, ht⟩
        have h2 : min k ny = ny := by omega
        have h3 := HV.out
        rw [h2] at h3
        obtain ⟨d, rfl⟩ : ∃ d, nx = k + d := ⟨nx - k, by omega⟩
        rw [valF_add, valF_add f, valF_congr (f := fun j => f' (k + j)) (g := fun j => f (k + j)) (fun j _ => HS.out (k + j) (by omega))]
        omega
      · have hz' : ((r : Int) == 0) = false := by simp; omega
        clear hsame hval hf' hf hg hfr hyb hz
        by_cases hlow : f' k < r
        · have hlow' : (f' k : Int) < (r : Int) := by omega
          have hmod : (r : Int) % 4294967296 = r := by omega
          clear hlow
          go_wp2
          go_roundw
          case rel =>
           refine dec_next (t := r) (s := 1) (v := f' k + 4294967296 - r % 4294967296) hlt HS.out HF.out hcx ht (by omega) (by omega) (by omega) (by omega) ?_ hr
           have h1 : min (k + 1) ny = ny := by omega
           have h2 : min k ny = ny := by omega
           have h3 := HV.out
           rw [h2] at h3
           rw [h1, ← HS.out k (Nat.le_refl _)]
           exact sub_step0 h3 (by omega)
          case measure => simp [intOf]; omega
        · have hlow' : (r : Int) ≤ (f' k : Int) := by omega
          have hmod : (r : Int) % 4294967296 = r := by omega
          clear hlow
          go_wp2
          go_roundw
          case rel =>
           refine dec_next (t := r) (s := 0) (v := f' k - r % 4294967296) hlt HS.out HF.out hcx ht (by omega) (by omega) (by omega) (by omega) ?_ hr
           have h1 : min (k + 1) ny = ny := by omega
           have h2 : min k ny = ny := by omega
           have h3 := HV.out
           rw [h2] at h3
           rw [h1, ← HS.out k (Nat.le_refl _)]
           exact sub_step0 h3 (by omega)
          case measure => simp [intOf]; omega
  · obtain rfl : k = nx := by omega
    clear hfr hyb
    go_wp2
    go_ret
    refine ⟨f', r, decide (0 < r), ?_, ?_, hr, hf', ?_, hcx, ht⟩
    · by_cases h : 0 < r <;> simp [h]
    · by_cases h : 0 < r
      · exact .inl ⟨by simp [h], h⟩
      · exact .inr ⟨by simp [h], by omega⟩
    · rw [← hval, Nat.min_eq_right hny]

theorem decrease_int (b off nx capx ny capy : Nat) (ay : Option Addr) (f g : Nat → Nat) (c : Int) (h0 : 0 ≤ c) (hc : c < 4294967296) (hn : nx ≤ 1099511627776) (hny : ny ≤ nx)
 (hf : ∀ j, j < nx → f j < 4294967296) (hg : ∀ j, j < ny → g j < 4294967296) (w : World) (hx : Cells w b off nx f) (hy : Dig w ay ny g) (hyb : 0 < ny → ∀ ad, ay = some ad → ad.block ≠ b) (hfr : Free w b off nx) :
 Calls Tryz.prog 132 #[.slice (some ⟨b, off, none⟩) nx capx, .slice ay ny capy, .int .u32 c] w (DecPost b off nx ny f g c.toNat w) := by
 obtain ⟨m, rfl⟩ := Int.eq_ofNat_of_zero_le h0
 exact decrease_any b off nx capx ny capy ay f g m (by omega) hn hny hf hg w hx hy hyb hfr
end Go.Proofs.YtgenaicmjddjcaaGreatDoor

/- num's resize: a copy of digits of another length. -/
namespace Go.Proofs.YtgenaicmjddjcaaGreatDoor
open Go.RowKit

theorem info_u32 : (Tryz.prog.info? 68).map (fun i => (i.zero, i.size, i.bytes)) = some (some (.int .u32 0), 1, 4) := by kernel_rfl

theorem size_u32 : (Tryz.prog.info? 68).map (·.size) = some 1 := by kernel_rfl

def digVals (f : Nat → Nat) (n : Nat) : List Value := (List.range n).map fun j => .int .u32 ((f j : Nat) : Int)
theorem digVals_length (f : Nat → Nat) (n : Nat) : (digVals f n).length = n := by simp [digVals]
theorem digVals_get (f : Nat → Nat) {n j : Nat} (h : j < n) : (digVals f n)[j]? = some (.int .u32 ((f j : Nat) : Int)) := by simp [digVals, h]
theorem digVals_one (f : Nat → Nat) (n : Nat) : ∀ v ∈ digVals f n, v.oneCell' = true := by
 intro v hv
 obtain ⟨j, _, rfl⟩ := List.mem_map.1 hv
 rfl
theorem madeCells_digs (n : Nat) : (madeCells #[.int .u32 0] n) = (digVals (fun _ => 0) n).toArray := by
 apply Array.ext
 · simp [madeCells, digVals]
 · intro i h1 h2
   have : i % 1 = 0 := Nat.mod_one i
   simp [madeCells, digVals, this]
theorem splice_digVals (f g : Nat → Nat) (n m : Nat) (h : m ≤ n) : splice (digVals f n) 0 (digVals g m) = digVals (mixF g f m) n := by
 apply List.ext_getElem?
 intro i
 unfold splice
 simp only [List.take_zero, List.nil_append, Nat.zero_add, digVals_length]
 by_cases h1 : i < m
 · rw [List.getElem?_append_left (by rw [digVals_length]; exact h1), digVals_get _ h1, digVals_get _ (by omega)]
   simp [mixF, h1]
 · rw [List.getElem?_append_right (by rw [digVals_length]; omega), digVals_length, List.getElem?_drop]
   by_cases h2 : i < n
   · rw [show m + (i - m) = i from by omega, digVals_get _ h2, digVals_get _ h2]
     simp [mixF, h1]
   · rw [List.getElem?_eq_none (by rw [digVals_length]; omega), List.getElem?_eq_none (by rw [digVals_length]; omega)]

theorem cells_of_heap {w : World} {g n : Nat} {f : Nat → Nat} {t : TypeId} (h : w.heap[g]? = some (.cells (digVals f n).toArray t (0, 0))) : Cells w g 0 n f ∧ Free w g 0 n := by
 refine ⟨fun j hj => ?_, fun j hj => ?_⟩
 · unfold World.cell?; simp only [h]; simp [digVals_get f hj]
 · unfold World.frozen?; simp only [h]; simp

theorem make_digs {w : World} {ops : Array Oper} {rest : List Oper} {o : Oper} {a : Act} {Q : Exit → Act → World → Prop} (hg : o.guard = none) (l c : Operand) (hop : o.op = Op.makeSlice 23 l c)
 (kl kc : IntKind) (z1 z2 : Int) (n : Nat) (hl : a.eval l = .int kl z1) (hc : a.eval c = .int kc z2) (h1 : z1 = (n : Int)) (h2 : z2 = (n : Int)) (hn : n ≤ 35184372088832)
 (hK : ∀ w', Cells w' w.heap.size 0 n (fun _ => 0) → Free w' w.heap.size 0 n → Below w.heap.size w w' → wpList Tryz.prog ops Q rest (a.put o.dst (.slice (some ⟨w.heap.size, 0, none⟩) n n)) w') :
 wpList Tryz.prog ops Q (o :: rest) a w := by
 subst h1 h2
 obtain ⟨i0, hi, hz0, hz1, hz2⟩ := info_parts info_u32
 refine wpList_make_row w hg l c 23 hop 68 i0 (.int .u32 0) Tryz.underlying23 hi hz0 hz1 rfl kl kc n hl hc (by rw [hz2]; omega) (by omega) ?_
 have hh : (w.alloc (.cells (madeCells #[.int .u32 0] n) 68)).heap[w.heap.size]? = some (.cells (digVals (fun _ => 0) n).toArray 68 (0, 0)) := by
  rw [madeCells_digs]; exact World.alloc_heap_new w _
 obtain ⟨h4, h5⟩ := cells_of_heap hh
 exact hK _ h4 h5 ((Below.refl _ w).alloc (Nat.le_refl _) _)

set_option maxRecDepth 100000 in
set_option maxHeartbeats 1000000 in
theorem resize_any (a : Option Addr) (L cap n : Nat) (z : Int) (hz : z = (n : Int)) (f : Nat → Nat) (hL : L ≤ n) (hn : n ≤ 1099511627776) (w : World) (hd : Dig w a L f) :
 Calls Tryz.prog 110 #[.slice a L cap, .int .i64 z] w fun e w' => ∃ g : Nat, e = .returned (.slice (some ⟨g, 0, none⟩) n n) ∧ w.heap.size ≤ g ∧
  Cells w' g 0 n (mixF f (fun _ => 0) L) ∧ Free w' g 0 n ∧ Below w.heap.size w w' := by
 subst hz
 obtain ⟨i0, hi, hz0, hz1, hz2⟩ := info_parts info_u32
 have hb : i0.bytes * n ≤ 281474976710656 := by rw [hz2]; omega
 have HB : Hid (i0.bytes * n ≤ 281474976710656) := hb
 have HI : Hid (Tryz.prog.info? 68 = some i0) := hi
 have HZ : Hid (i0.zero = some (.int .u32 0) ∧ i0.size = 1) := ⟨hz0, hz1⟩
 clear hb hi hz0 hz1 hz2
 have hg : (w.alloc (.cells (madeCells #[.int .u32 0] n) 68)).heap[w.heap.size]? = some (.cells (digVals (fun _ => 0) n).toArray 68 (0, 0)) := by
  rw [madeCells_digs]; exact World.alloc_heap_new w _
 have HG := hide hg
 have HC : Hid (∀ (B : World), Below w.heap.size w B → 0 < (digVals f L).length → some (Addr.mk w.heap.size 0 none) = some ⟨w.heap.size, 0, none⟩ ∧ ∃ ad, a = some ad ∧ ∀ j v, (digVals f L)[j]? = some v → B.cell? (ad.add j) = some v) := by
  intro B hB h0
  rw [digVals_length] at h0
  obtain ⟨b, off, rfl, hc⟩ := hd.at h0
  refine ⟨rfl, _, rfl, fun j v hv => ?_⟩
  have hj : j < L := by
   rcases Nat.lt_or_ge j L with h | h
   · exact h
   · rw [List.getElem?_eq_none (by rw [digVals_length]; exact h)] at hv; cases hv
  rw [digVals_get f hj] at hv; cases hv
  have := hc.below hB (.inl (Nat.le_refl _)) j hj
  unfold Addr.add; split
  · rename_i h; subst h; exact this
  · exact this
 have HA : Hid (Below w.heap.size w (w.alloc (.cells (madeCells #[.int .u32 0] n) 68))) := (Below.refl _ w).alloc (Nat.le_refl _) _
 clear hg
 go_enter Tryz.func110, Tryz.ntmps110
 go_wp2_with (first | (at_make; refine wpList_make_row _ rfl _ _ 23 rfl 68 i0 (.int .u32 0) Tryz.underlying23 HI.out HZ.out.1 HZ.out.2 rfl _ _ n rfl rfl HB.out (by omega) ?_) | (with_reducible refine wpList_copy_splice rfl (.tmp 8) (.tmp 9) 23 23 rfl 68 Tryz.underlying23 size_u32 _ _ _ _ _ _ rfl rfl w.heap.size 0 (digVals (fun _ => 0) n) 68 HG.out (digVals f L) (by rw [digVals_length]; exact (Nat.min_eq_left hL).symm) (HC.out _ HA.out) (by rw [digVals_length, digVals_length]; omega) (digVals_one f L) w.heap.size w HA.out (Nat.le_refl _) ?_))
 intro w2 hw2 hb2
 go_wp2
 go_ret
 have h3 := hw2.out
 rw [splice_digVals _ _ _ _ hL] at h3
 obtain ⟨h4, h5⟩ := cells_of_heap h3
 exact ⟨_, rfl, Nat.le_refl _, h4, h5, hb2⟩
end Go.Proofs.YtgenaicmjddjcaaGreatDoor

/- num's loops over slices.Backward that only read: trim, join, compare. -/
namespace Go.Proofs.YtgenaicmjddjcaaGreatDoor
open Go.RowKit Go.Shelf
attribute [local go_sem] Oper.semAt_some

theorem backward_any (a : Option Addr) (L cap : Nat) (w : World) :
 Calls Tryz.prog 66 #[.slice a L cap] w fun e w' => e = .returned (.func (.func 113) #[] #[.pointer (some ⟨w.heap.size, 0, none⟩)]) ∧ w.alloc (.cells #[.slice a L cap] 23) = w' := by
 go_enter Tryz.func66, Tryz.ntmps66
 go_wp2
 go_ret
 exact ⟨rfl, rfl⟩

set_option maxRecDepth 100000 in
set_option maxHeartbeats 2000000 in
theorem trim_any (a : Option Addr) (L cap : Nat) (f : Nat → Nat) (hL : L ≤ 1099511627776) (hcap : L ≤ cap) (hf : ∀ j, j < L → f j < 4294967296) (w : World) (hd : Dig w a L f) :
 Calls Tryz.prog 112 #[.slice a L cap] w fun e w' => ∃ (a' : Option Addr) (cap' : Nat), e = .returned (.slice a' (dlen (valF f L)) cap') ∧ (a' = a ∨ dlen (valF f L) = 0) ∧ dlen (valF f L) ≤ cap' ∧ Below w.heap.size w w' := by
 refine calls_marks Tryz.func112 rfl ?_
 simp only [Tryz.ntmps112, List.size_toArray, List.length_cons, List.length_nil, Nat.reduceAdd, Nat.reduceSub, Array.replicate_succ, Array.replicate_zero, List.push_toArray, List.append_toArray, List.nil_append, List.cons_append]
 go_wp2_with (go_at_call 66; refine (backward_any _ _ _ _).mono ?_; rintro e w' ⟨rfl, rfl⟩)
 obtain ⟨W0, hW0⟩ : ∃ W0, (((w.alloc (Obj.cells #[.slice a L cap] 23)).alloc (Obj.cells #[.slice none 0 0] 23)).alloc (Obj.cells #[.slice a L cap] 23)) = W0 := ⟨_, rfl⟩
 have c1 : W0.cell? ⟨w.heap.size, 0, none⟩ = some (.slice a L cap) := by rw [← hW0]; simp [go_sem]
 have c2 : W0.cell? ⟨w.heap.size + 1, 0, none⟩ = some (.slice none 0 0) := by rw [← hW0]; simp [go_sem]
 have c3 : W0.cell? ⟨w.heap.size + 1 + 1, 0, none⟩ = some (.slice a L cap) := by rw [← hW0]; simp [go_sem]
 have f2 : W0.frozen? ⟨w.heap.size + 1, 0, none⟩ = false := by rw [← hW0]; simp [go_sem]
 have hsz : W0.heap.size = w.heap.size + 3 := by rw [← hW0]; simp
 have hB0 : Below w.heap.size w W0 := by rw [← hW0]; exact (((Below.refl _ w).alloc (Nat.le_refl _) _).alloc (by simp) _).alloc (by simp; omega) _
 rw [hW0]
 clear hW0
 have HF : Hid (∀ j, j < L → f j < 4294967296) := hf
 clear hf
 refine wp_backW (w.heap.size + 1 + 1) a L cap (by omega) rfl rfl
  (fun k W => (W.cell? ⟨w.heap.size, 0, none⟩ = some (.slice a L cap) ∧ W.cell? ⟨w.heap.size + 1, 0, none⟩ = some (.slice none 0 0) ∧ W.frozen? ⟨w.heap.size + 1, 0, none⟩ = false ∧ W.cell? ⟨w.heap.size + 1 + 1, 0, none⟩ = some (.slice a L cap)) ∧
    Below w.heap.size w W ∧ W0.heap.size ≤ W.heap.size ∧ (∀ j, k ≤ j → j < L → f j = 0))
  (fun c W => c = .ret ∧ ∃ k, k < L ∧ W.cell? ⟨w.heap.size + 1, 0, none⟩ = some (.slice a (k + 1) cap) ∧ Below w.heap.size w W ∧ W0.heap.size ≤ W.heap.size ∧ f k ≠ 0 ∧ (∀ j, k < j → j < L → f j = 0))
  ?hI ?hIx (fun _ _ h => h.1.2.2.2) ⟨⟨c1, c2, f2, c3⟩, hB0, Nat.le_refl _, fun j h1 h2 => by omega⟩
  (fun k v => { tmps := #[.slice a L cap, .pointer (some ⟨w.heap.size, 0, none⟩), .pointer (some ⟨w.heap.size + 1, 0, none⟩), .int .i64 (k : Int), .int .u32 v, .slice a L cap, .func (.func 113) #[] #[.pointer (some ⟨w.heap.size + 1 + 1, 0, none⟩)], .int .i64 (k : Int), .int .u32 v, undef, undef, undef, undef, undef, undef], defers := [] })
  ?hcell ?assign ?body ?done ?stop
 case hI =>
  refine ownFrom_of (fun _ _ h => h.2.2.1) ?_
  rintro s W W' ⟨⟨h1, h2, h3, h4⟩, h5, h6, h7⟩ hc
  exact ⟨⟨hc.cell _ _ h1, hc.cell _ _ h2, (hc.frozen _ _ h2).trans h3, hc.cell _ _ h4⟩, h5.trans (hc.below.mono (by omega)), Nat.le_trans h6 hc.below.size, h7⟩
 case hIx =>
  refine ownFrom_of (fun _ _ h => by obtain ⟨_, _, _, _, _, h, _⟩ := h; exact h) ?_
  rintro s W W' ⟨hr, k, hk, h2, h5, h6, h7⟩ hc
  exact ⟨hr, k, hk, hc.cell _ _ h2, h5.trans (hc.below.mono (by omega)), Nat.le_trans h6 hc.below.size, h7⟩
 case hcell =>
  rintro k W hk ⟨_, h5, _, _⟩
  obtain ⟨b, off, rfl, hc⟩ := (hd.below h5).at (by omega)
  exact ⟨b, off, _, rfl, hc k hk⟩
 case assign =>
  intro l k v W K hK
  gi_wp2
  exact hK
 case body =>
  rintro l k v b off W hk ⟨⟨h1, h2, h3, h4⟩, h5, h6, h7⟩ ha hcv
  obtain rfl : v = ((f k : Nat) : Int) := by
   have h := (hd.below h5).at (by omega)
   obtain ⟨b', off', e, hc⟩ := h
   rw [ha] at e; cases e
   have := hc k hk
   rw [hcv] at this; cases this; rfl
  have H7 := hide h7
  clear h7 hcv ha
  by_cases hz : f k = 0
  · rw [hz, show ((0 : Nat) : Int) = 0 from rfl]
    have HZ := hide hz
    clear hz
    gi_wp2
    exact ⟨KeepsFrom.refl _ _, ⟨h1, h2, h3, h4⟩, h5, h6, fun j hj hj' => by
     by_cases e : j = k
     · subst e; exact HZ.out
     · exact H7.out j (by omega) hj'⟩
  · have hz1 : (((f k : Nat) : Int) == 0) = false := by simp; exact hz
    have hz2 : (((f k : Nat) : Int) != 0) = true := by simp; exact hz
    have HZ := hide hz
    have hk' : (k : Int) + 1 ≤ cap := by omega
    clear hz
    gi_wp2
    exact ⟨(KeepsOthers.setCell _ _ _).from _, rfl, k, hk, World.cell?_setCell_same' _ _ _ (by rw [h2]; rfl), h5.setCell (p := ⟨w.heap.size + 1, 0, none⟩) (by simp) _, by rw [World.size_setCell]; exact h6, HZ.out, fun j hj hj' => H7.out j (by omega) hj'⟩
 case done =>
  rintro D W hD ⟨⟨h1, h2, h3, h4⟩, h5, h6, h7⟩ hK
  have H7 := hide h7
  clear h7
  go_wp2
  have hK2 : (W.setCell ⟨w.heap.size + 1, 0, none⟩ (.slice none 0 0)).heap[D]? = some (.deferred (some [])) := (Below.heap_setCell _ _ _ _ (by simp; omega)).trans hK
  have hc := calm_put (.deferred none) hD hK2 rfl
  have h2' := hc.cell ⟨w.heap.size + 1, 0, none⟩ _ (World.cell?_setCell_same' _ _ _ (by rw [h2]; rfl))
  have h0 : dlen (valF f L) = 0 := by rw [valF_zeros (fun j hj => H7.out j (Nat.zero_le _) hj), dlen_zero]
  refine leavesM_one hK2 ⟨.slice none 0 0, by simp [results, Tryz.results112, go_sem, h2'], none, 0, by rw [h0], .inr h0, by omega, ?_⟩
  exact (h5.setCell (p := ⟨w.heap.size + 1, 0, none⟩) (by simp) _).trans (hc.below.mono (by omega))
 case stop =>
  rintro D c W hD ⟨rfl, k, hk, h2, h5, h6, h7, h8⟩ hK
  have H7 := hide h7
  have H8 := hide h8
  clear h7 h8
  go_wp2
  have hc := calm_put (.deferred none) hD hK rfl
  have h2' := hc.cell _ _ h2
  have h0 : dlen (valF f L) = k + 1 := by
   obtain ⟨d, hd'⟩ : ∃ d, L = k + 1 + d := ⟨L - (k + 1), by omega⟩
   have hf' : ∀ j, j < k + 1 → f j < 4294967296 := fun j hj => HF.out j (by omega)
   rw [hd', valF_add, valF_zeros (f := fun j => f (k + 1 + j)) (fun j hj => H8.out (k + 1 + j) (by omega) (by omega)), Nat.mul_zero, Nat.add_zero]
   exact dlen_valF hf' (.inr (by simpa using H7.out))
  refine leavesM_one hK ⟨.slice a (k + 1) cap, by simp [results, Tryz.results112, go_sem, h2'], a, cap, by rw [h0], .inl rfl, by omega, ?_⟩
  exact h5.trans (hc.below.mono (by omega))
end Go.Proofs.YtgenaicmjddjcaaGreatDoor

