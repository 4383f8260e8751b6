/- The reference's times. -/
import Derived.Test.YtmpdeiopdempcaaGreatDoorRfB
namespace Go.Proofs.YtmpdeiopdempcaaGreatDoor
open Go.RowKit Go.Shelf

theorem valF_put (f : Nat → Nat) (v : Nat) {p n : Nat} (h : p < n) : valF (putF f p v) n + f p * bp p = valF f n + v * bp p := by
  induction n with
  | zero => omega
  | succ n ih =>
    rw [valF_succ, valF_succ]
    by_cases e : p = n
    · subst e
      rw [putF_same, valF_putF_ge _ _ (Nat.le_refl _)]; omega
    · rw [putF_ne _ _ (fun h => e h.symm)]
      have := ih (by omega)
      omega
theorem times_step {V V' V0 P r d e S : Nat} (h1 : V' + d * P = V + (r + d + e) % 4294967296 * P) (h2 : V + r * P = V0 + S) : V' + (r + d + e) / 4294967296 * (4294967296 * P) = V0 + (S + e * P) := by
  have h3 := split_mul (r + d + e) P
  rw [Nat.add_mul, Nat.add_mul] at h3
  omega
theorem times_sum (c v y K J : Nat) : c * v * K + c * y * (K * J) = c * (v + y * J) * K := by
  rw [Nat.mul_add, Nat.add_mul]
  congr 1
  simp only [Nat.mul_comm, Nat.mul_left_comm]
theorem times_last {V V' P r d : Nat} (h1 : V' + d * P = V + r * P) (hd : d = 0) : V' = V + r * P := by subst hd; omega

set_option maxRecDepth 100000 in
set_option maxHeartbeats 4000000 in
theorem rtimes_any (ax ay : Option Addr) (x y nx ny cx cy : Nat) (hn : nx ≤ 100000000000) (hn' : ny ≤ 100000000000) (w : World) (hx : IsD w ax nx x) (hy : IsD w ay ny y) :
    Calls Tryz.prog 57 #[.slice ax nx cx, .slice ay ny cy] w (DigPost w (x * y)) := by
  have HX := hide hx
  have HY := hide hy
  have HLX := hide hx.len
  have HLY := hide hy.len
  clear hx hy
  go_enter Tryz.func57, Tryz.ntmps57
  go_wp2_with (at_make; refine make_digs rfl _ _ rfl _ _ _ _ (nx + ny) rfl rfl (by omega) (by omega) (by omega) ?_; intro w1 hc1 hf1 hb1)
  obtain ⟨g, hg⟩ : ∃ g, w.heap.size = g := ⟨_, rfl⟩
  have HG := hide hg
  have hgle : w.heap.size ≤ g := by omega
  rw [hg] at hc1 hf1 ⊢
  clear hg
  go_loopw [6] (fun i wr => ∃ (k : Nat) (f' : Nat → Nat), k ≤ nx ∧ i = .int .i64 (k : Int) ∧ (∀ j, f' j < 4294967296) ∧ (∀ j, k + ny ≤ j → f' j = 0) ∧ valF f' (nx + ny) = valF (dgt x) k * y ∧
      Cells wr g 0 (nx + ny) f' ∧ Free wr g 0 (nx + ny) ∧ Below w.heap.size w wr)
    (fun i _ => nx - (intOf i).toNat)
  case atStart => exact ⟨0, fun _ => 0, Nat.zero_le _, rfl, fun _ => by show (0 : Nat) < 4294967296; decide, fun _ _ => rfl, by rw [valF_zeros (fun _ _ => rfl), valF_zero, Nat.zero_mul], hc1, hf1, hb1⟩
  case round =>
    obtain ⟨k, f', hk, rfl, hlt', hzero, hval, hcx, hfr, hbel⟩ := hrel
    by_cases hlt : k < nx
    · have hx1 : ∃ bx ox, ax = some ⟨bx, ox, none⟩ ∧ ∀ W, Below w.heap.size w W → W.cell? ⟨bx, ox + k, none⟩ = some (.int .u32 ((dgt x k : Nat) : Int)) := by
        obtain ⟨bx, ox, e, hcxx⟩ := HX.out.dig.at (by omega)
        exact ⟨bx, ox, e, fun W hW => (hW.cell (p := ⟨bx, ox + k, none⟩) (lt_of_cell (hcxx k hlt))).trans (hcxx k hlt)⟩
      obtain ⟨bx, ox, rfl, hxc⟩ := hx1
      have hk1 : (k : Int) < nx := by omega
      have HV := hide hval
      have HZ := hide hzero
      have HL := hide hlt'
      have HXC := hide hxc
      have HCX := hide hcx
      have HFR := hide hfr
      clear hval hzero hlt' hxc hc1 hf1 hcx hfr
      go_wp2_with fail
      go_loopw [7, 8] (fun cv jv wr' => ∃ (j r : Nat) (f1 : Nat → Nat), j ≤ ny ∧ jv = .int .i64 (j : Int) ∧ cv = .int .u64 (r : Int) ∧ r < 4294967296 ∧ (∀ m, f1 m < 4294967296) ∧ (∀ m, k + ny ≤ m → f1 m = 0) ∧
          valF f1 (nx + ny) + r * bp (k + j) = valF (dgt x) k * y + dgt x k * valF (dgt y) j * bp k ∧ Cells wr' g 0 (nx + ny) f1 ∧ Free wr' g 0 (nx + ny) ∧ Below w.heap.size w wr')
        (fun _ jv _ => ny - (intOf jv).toNat)
      case atStart => exact ⟨0, 0, f', Nat.zero_le _, rfl, rfl, by decide, HL.out, HZ.out, by rw [HV.out, valF_zero]; simp, HCX.out, HFR.out, hbel⟩
      case round =>
        obtain ⟨j, r, f1, hj, rfl, rfl, hr, hlt1, hz1, hval1, hc1, hf1, hb1⟩ := hrel
        by_cases hlj : j < ny
        · have hy1 : ∃ by' oy, ay = some ⟨by', oy, none⟩ ∧ wr.cell? ⟨by', oy + j, none⟩ = some (.int .u32 ((dgt y j : Nat) : Int)) := by
            obtain ⟨by', oy, e, hcy⟩ := (HY.out.below hb1).dig.at (by omega)
            exact ⟨by', oy, e, hcy j hlj⟩
          obtain ⟨by', oy, rfl, hyc⟩ := hy1
          have hxc := HXC.out wr hb1
          have hgc : wr.cell? ⟨g, k + j, none⟩ = some (.int .u32 ((f1 (k + j) : Nat) : Int)) := by have := hc1 (k + j) (by omega); rw [Nat.zero_add] at this; exact this
          have hgz : wr.frozen? ⟨g, k + j, none⟩ = false := by have := hf1 (k + j) (by omega); rw [Nat.zero_add] at this; exact this
          have hj1 : (j : Int) < ny := by omega
          have hkj : (k : Int) + j < (nx : Int) + ny := by omega
          have hdx : dgt x k < 4294967296 := dgt_lt _ _
          have hdy : dgt y j < 4294967296 := dgt_lt _ _
          have hdf : f1 (k + j) < 4294967296 := hlt1 _
          obtain ⟨hm1, hm0⟩ := mul32_le hdx hdy
          have hsum : ((r : Int) + ((f1 (k + j) : Nat) : Int) + ((dgt x k : Nat) : Int) * ((dgt y j : Nat) : Int)) = ((r + f1 (k + j) + dgt x k * dgt y j : Nat) : Int) := by rw [Int.natCast_add, Int.natCast_add, Int.natCast_mul]
          have HS := hide hsum
          have HC1 := hide hc1
          have HF1 := hide hf1
          have HZ1 := hide hz1
          have HL1 := hide hlt1
          have HV1 := hide hval1
          clear hsum hc1 hf1 hz1 hlt1 hval1
          go_wp2_with fail
          go_quiet (fail)
          go_wp2
          have hmN : dgt x k * dgt y j ≤ 18446744065119617025 := by rw [← Int.natCast_mul] at hm1; omega
          go_roundw
          case rel =>
            refine ⟨j + 1, (r + f1 (k + j) + dgt x k * dgt y j) / 4294967296, putF f1 (k + j) ((r + f1 (k + j) + dgt x k * dgt y j) % 4294967296), by omega, by go_num, ?_, by omega, fun m => ?_, fun m hm => ?_, ?_, ?_, fun m hm => ?_, ?_⟩
            · rw [HS.out, cast_div32]
            · unfold putF; split
              · exact Nat.mod_lt _ (by decide)
              · exact HL1.out m
            · rw [putF_ne _ _ (by omega)]; exact HZ1.out m hm
            · rw [← Nat.add_assoc k j 1, bp_succ, valF_succ, ← times_sum, ← bp_add]
              exact times_step (valF_put _ _ (by omega)) HV1.out
            · have := Cells.set (w := wr.drewN nq) (k := k + j) HC1.out ((r + f1 (k + j) + dgt x k * dgt y j) % 4294967296) (by omega)
              rw [Nat.zero_add] at this
              rw [HS.out, cast_mod32]; exact this
            · rw [World.frozen?_setCell]; exact HF1.out m hm
            · exact (below_drewN' hb1 nq).setCell (p := ⟨g, k + j, none⟩) hgle _
          case measure => simp [intOf]; omega
        · obtain rfl : j = ny := by omega
          have hgc : wr.cell? ⟨g, k + j, none⟩ = some (.int .u32 ((f1 (k + j) : Nat) : Int)) := by have := hc1 (k + j) (by omega); rw [Nat.zero_add] at this; exact this
          have hgz : wr.frozen? ⟨g, k + j, none⟩ = false := by have := hf1 (k + j) (by omega); rw [Nat.zero_add] at this; exact this
          have hkj : (k : Int) + j < (nx : Int) + j := by omega
          have hr' : (r : Int) % 4294967296 = (r : Int) := by omega
          have h0 : f1 (k + j) = 0 := hz1 _ (Nat.le_refl _)
          have hv := times_last (valF_put f1 r (show k + j < nx + j by omega)) h0
          rw [hval1, val_full (x := y) (by rw [← HLY.out]; exact Nat.le_refl _)] at hv
          have HV1 := hide hv
          have HC1 := hide hc1
          have HF1 := hide hf1
          have HZ1 := hide hz1
          have HL1 := hide hlt1
          clear hv h0 hval1 hc1 hf1 hz1 hlt1
          go_wp2
          go_roundw
          case rel =>
            refine ⟨k + 1, putF f1 (k + j) r, by omega, by go_num, fun m => ?_, fun m hm => ?_, ?_, ?_, fun m hm => ?_, ?_⟩
            · unfold putF; split
              · exact hr
              · exact HL1.out m
            · rw [putF_ne _ _ (by omega)]; exact HZ1.out m (by omega)
            · rw [HV1.out, valF_succ, Nat.add_mul]; congr 1; simp only [Nat.mul_comm, Nat.mul_left_comm]
            · have := Cells.set (k := k + j) HC1.out r (by omega)
              rw [Nat.zero_add] at this
              exact this
            · rw [World.frozen?_setCell]; exact HF1.out m hm
            · exact hb1.setCell (p := ⟨g, k + j, none⟩) hgle _
          case measure => simp [intOf]; omega
    · obtain rfl : k = nx := by omega
      have hx' : valF (dgt x) k = x := val_full (by rw [← HLX.out]; exact Nat.le_refl _)
      rw [hx'] at hval
      have HV := hide hval
      have HL := hide hlt'
      have HC := hide hcx
      clear hval hx' hzero hlt' hc1 hf1 hcx hfr
      go_wp2_with fail
      refine (rtrim_any (some ⟨g, 0, none⟩) (k + ny) (k + ny) f' (by omega) (Nat.le_refl _) (fun j _ => HL.out j) _ (.inr ⟨g, 0, rfl, HC.out⟩)).mono ?_
      rintro e w3 ⟨a', cap', rfl, ha, hcap', rfl⟩
      go_wp2
      go_ret
      have h4 := IsD.of (.inr ⟨g, 0, rfl, HC.out⟩) (fun j _ => HL.out j) ha
      rw [HV.out] at h4 hcap' ha
      have hfr' : Fresh w (some ⟨g, 0, none⟩) := fun ad e => by cases e; exact hgle
      exact ⟨a', _, cap', by rw [HV.out]; rfl, h4, hcap', hfr'.or ha, hbel⟩
end Go.Proofs.YtmpdeiopdempcaaGreatDoor
