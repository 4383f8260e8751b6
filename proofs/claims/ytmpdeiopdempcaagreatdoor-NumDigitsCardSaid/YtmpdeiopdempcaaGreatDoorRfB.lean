/- The reference's plus and minus. -/
import Derived.Test.YtmpdeiopdempcaaGreatDoorRfA
import Derived.Test.YtmpdeiopdempcaaGreatDoorRefB
namespace Go.Proofs.YtmpdeiopdempcaaGreatDoor
open Go.RowKit Go.Shelf

/-- beyond its length a number's digits are 0 -/
theorem mix_dgt {n x : Nat} (h : n = dlen x) : mixF (dgt x) (fun _ => 0) n = dgt x := by
  funext j
  unfold mixF
  split
  · rfl
  · rename_i hj
    unfold dgt
    rw [Nat.div_eq_of_lt (Nat.lt_of_lt_of_le (lt_bp_dlen x) (bp_le (by omega)))]
theorem rat_num (a : Option Addr) (n c k x : Nat) (hn : n ≤ 1099511627776) (hk : k ≤ 1099511627776) (w : World) (hd : IsD w a n x) :
    Calls Tryz.prog 76 #[.slice a n c, .int .i64 (k : Int)] w fun e w' => e = .returned (.int .u64 ((dgt x k : Nat) : Int)) ∧ w = w' := by
  have := rat_any a n c k (dgt x) hn hk (fun _ _ => dgt_lt _ _) w hd.dig
  rw [mix_dgt hd.len] at this; exact this
theorem val_full {x k : Nat} (h : dlen x ≤ k) : valF (dgt x) k = x := by rw [valF_dgt, Nat.mod_eq_of_lt (Nat.lt_of_lt_of_le (lt_bp_dlen x) (bp_le h))]
theorem digVals_congr {f g : Nat → Nat} {k : Nat} (h : ∀ j, j < k → f j = g j) : digVals f k = digVals g k := by
  unfold digVals
  exact List.map_congr_left fun j hj => by rw [h j (List.mem_range.1 hj)]
theorem digVals_put (h : Nat → Nat) (k v : Nat) : digVals (putF h k v) (k + 1) = digVals h k ++ [.int .u32 (v : Int)] := by
  rw [digVals_succ, putF_same, digVals_congr fun j hj => putF_ne h v (by omega)]
/-- what a call hands back that makes digits -/
def DigPost (w : World) (v : Nat) (e : Ending) (w' : World) : Prop :=
  ∃ (a : Option Addr) (n c : Nat), e = .returned (.slice a n c) ∧ IsD w' a n v ∧ n ≤ c ∧ (n = 0 ∨ Fresh w a) ∧ Below w.heap.size w w'
theorem owns_digF {w : World} {base : Nat} {e : TypeId} {gv : Value} {k : Nat} {f : Nat → Nat} (h : w.ownsRow base e 1 gv k (digVals f k)) : ∃ a c, gv = .slice a k c ∧ k ≤ c ∧ Dig w a k f ∧ ∀ ad, a = some ad → base ≤ ad.block := by
  rcases h.2 with ⟨hv, h0⟩ | ⟨g, cap, cur, hv, hb, hob, hc, _⟩
  · exact ⟨none, 0, by rw [hv, h0], by omega, .inl h0, fun _ e => by cases e⟩
  · refine ⟨some ⟨g, 0, none⟩, cap, hv, hc, .inr ⟨g, 0, rfl, fun j hj => ?_⟩, fun ad e => by cases e; exact hb⟩
    have := h.cells (g := g) (by rw [hv]; rfl) j (.int .u32 ((f j : Nat) : Int)) (digVals_get f hj)
    rw [← this]; congr 1; unfold Addr.add; split <;> simp_all
theorem trim_own {w wr : World} {base : Nat} {t : TypeId} {gv : Value} {K : Nat} {h : Nat → Nat} (hK : K ≤ 1099511627776) (hb : w.heap.size ≤ base) (hlt : ∀ j, j < K → h j < 4294967296) (ho : wr.ownsRow base t 1 gv K (digVals h K)) (hr : Below w.heap.size w wr) :
    ∃ (a : Option Addr) (c : Nat), gv = .slice a K c ∧ Calls Tryz.prog 47 #[.slice a K c] wr (DigPost w (valF h K)) := by
  obtain ⟨a, c, rfl, hc, hd, hf⟩ := owns_digF ho
  refine ⟨a, c, rfl, (rtrim_any a K c h hK hc hlt wr hd).mono ?_⟩
  rintro e w' ⟨a', c', rfl, ha', hc', rfl⟩
  refine ⟨a', _, c', rfl, IsD.of hd hlt ha', hc', ?_, hr⟩
  rcases ha' with rfl | h0
  · exact .inr fun ad e => Nat.le_trans hb (hf ad e)
  · exact .inl h0

theorem plus_step {V r X Y P x y : Nat} (h : V + r * P = X + Y) : V + (r + x + y) % 4294967296 * P + (r + x + y) / 4294967296 * (4294967296 * P) = X + x * P + (Y + y * P) := by
  rw [Nat.add_assoc, split_mul, Nat.add_mul, Nat.add_mul]; omega

set_option maxRecDepth 100000 in
set_option maxHeartbeats 4000000 in
theorem rplus_any (ax ay : Option Addr) (x y nx ny cx cy : Nat) (hn : nx ≤ 100000000000) (hn' : ny ≤ 100000000000) (w : World) (hx : IsD w ax nx x) (hy : IsD w ay ny y) :
    Calls Tryz.prog 44 #[.slice ax nx cx, .slice ay ny cy] w (DigPost w (x + y)) := by
  obtain ⟨i0, hi, hz0, hz1, hz2⟩ := info_parts info_u32
  have HI := hide hi
  have HZ := hide (And.intro hz0 (And.intro hz1 hz2))
  have HX := hide hx
  have HY := hide hy
  have HLX := hide hx.len
  have HLY := hide hy.len
  clear hi hz0 hz1 hz2 hx hy
  go_enter Tryz.func44, Tryz.ntmps44
  go_wp2_with fail
  go_loopw [5, 6, 7] (fun ov cv i wr => ∃ (k r : Nat) (h : Nat → Nat), (k ≤ nx ∨ k ≤ ny) ∧ r ≤ 1 ∧ i = .int .i64 (k : Int) ∧ cv = .int .u64 (r : Int) ∧ (∀ j, h j < 4294967296) ∧ valF h k + r * bp k = valF (dgt x) k + valF (dgt y) k ∧
      wr.ownsRow w.heap.size 52 1 ov k (digVals h k) ∧ Below w.heap.size w wr)
    (fun _ _ i _ => nx + ny - (intOf i).toNat)
  case atStart => exact ⟨0, 0, fun _ => 0, .inl (Nat.zero_le _), by decide, rfl, rfl, fun _ => by show (0 : Nat) < _; decide, by simp [valF_zero], World.ownsRow_nil _ _ _ _, Below.refl _ _⟩
  case round =>
    obtain ⟨k, r, h, hk, hr1, rfl, rfl, hlt, hval, ho, hr⟩ := hrel
    have HO := hide ho
    have HV := hide hval
    have HL := hide hlt
    have HSZ := hide hr.size
    clear ho hval hlt
    by_cases hgo : k < nx ∨ k < ny
    · have hdx : dgt x k < 4294967296 := dgt_lt _ _
      have hdy : dgt y k < 4294967296 := dgt_lt _ _
      have CA : Hid (∀ W, Below w.heap.size w W → Calls Tryz.prog 76 #[.slice ax nx cx, .int .i64 (k : Int)] W fun e w' => e = .returned (.int .u64 ((dgt x k : Nat) : Int)) ∧ W = w') := fun W hW => rat_num ax nx cx k x (by omega) (by omega) W (HX.out.below hW)
      have CB : Hid (∀ W, Below w.heap.size w W → Calls Tryz.prog 76 #[.slice ay ny cy, .int .i64 (k : Int)] W fun e w' => e = .returned (.int .u64 ((dgt y k : Nat) : Int)) ∧ W = w') := fun W hW => rat_num ay ny cy k y (by omega) (by omega) W (HY.out.below hW)
      rcases (by omega : k < nx ∨ (¬ k < nx ∧ k < ny)) with h1 | ⟨h1, h2⟩
      all_goals
        go_wp2_with fail
        refine (CA.out _ hr).mono ?_
        rintro e w' ⟨rfl, rfl⟩
        go_wp2_with fail
        refine (CB.out _ hr).mono ?_
        rintro e w' ⟨rfl, rfl⟩
        have hsum : ((r : Int) + ((dgt x k : Nat) : Int) + ((dgt y k : Nat) : Int)) % 4294967296 = (((r + dgt x k + dgt y k) % 4294967296 : Nat) : Int) := by omega
        have hdiv : ((r : Int) + ((dgt x k : Nat) : Int) + ((dgt y k : Nat) : Int)) / 4294967296 = (((r + dgt x k + dgt y k) / 4294967296 : Nat) : Int) := by omega
        have HSUM := hide hsum
        have HDIV := hide hdiv
        clear hsum hdiv
        go_wp2_with (at_builtin; refine wpList_append_own _ rfl _ _ 25 rfl w.heap.size 52 i0 (.int .u32 0) 1 4 Tryz.underlying25 HI.out HZ.out.1 HZ.out.2.1 HZ.out.2.2 rfl (by decide) _ _ _ rfl (HO.out.alloc _) ⟨wr.heap.size, 0, none⟩ 1 1 [.int .u32 (((r : Int) + ((dgt x k : Nat) : Int) + ((dgt y k : Nat) : Int)) % 4294967296)] rfl rfl (fun j u hj => by match j, hj with | 0, hj => simp at hj; subst hj; simp [Addr.add]) (fun u hu => by simp at hu; subst hu; rfl) (by unfold maxLen; omega) (by omega) (by have := HSZ.out; simp; omega) ?_; intro v' w2 hown hgrow _)
        have hb2 : Below w.heap.size w w2 := (hr.alloc HSZ.out _).grown hgrow (by rw [World.size_alloc]; have := HSZ.out; omega) (fun k' hk' => (HO.out.lt k' hk').1)
        go_roundw
        case rel => exact ⟨k + 1, (r + dgt x k + dgt y k) / 4294967296, putF h k ((r + dgt x k + dgt y k) % 4294967296), by omega, by omega, by go_num, by rw [HDIV.out], fun j => by unfold putF; split; exact Nat.mod_lt _ (by decide); exact HL.out j,
            by rw [valF_succ, valF_succ, valF_succ, bp_succ, putF_same, valF_putF_ge _ _ (Nat.le_refl _)]; exact plus_step HV.out, by rw [digVals_put, ← HSUM.out]; exact hown, hb2⟩
        case measure => simp [intOf]; omega
    · have hkx : nx ≤ k := by omega
      have hky : ny ≤ k := by omega
      have hr32 : (r : Int) % 4294967296 = ((r : Nat) : Int) := by omega
      have HR := hide hr32
      have h1 : ¬ (k : Int) < nx := by omega
      have h2 : ¬ (k : Int) < ny := by omega
      have hvx : valF (dgt x) k = x := val_full (by rw [← HLX.out]; exact hkx)
      have hvy : valF (dgt y) k = y := val_full (by rw [← HLY.out]; exact hky)
      have HVX := hide hvx
      have HVY := hide hvy
      clear hr32 hvx hvy
      go_wp2_with (at_builtin; refine wpList_append_own _ rfl _ _ 25 rfl w.heap.size 52 i0 (.int .u32 0) 1 4 Tryz.underlying25 HI.out HZ.out.1 HZ.out.2.1 HZ.out.2.2 rfl (by decide) _ _ _ rfl (HO.out.alloc _) ⟨wr.heap.size, 0, none⟩ 1 1 [.int .u32 (r : Int)] rfl rfl (fun j u hj => by match j, hj with | 0, hj => simp at hj; subst hj; simp [Addr.add]) (fun u hu => by simp at hu; subst hu; rfl) (by unfold maxLen; omega) (by omega) (by have := HSZ.out; simp; omega) ?_; intro v' w2 hown hgrow _)
      have hb2 : Below w.heap.size w w2 := (hr.alloc HSZ.out _).grown hgrow (by rw [World.size_alloc]; have := HSZ.out; omega) (fun k' hk' => (HO.out.lt k' hk').1)
      have hown' : w2.ownsRow w.heap.size 52 1 v' (k + 1) (digVals (putF h k r) (k + 1)) := by rw [digVals_put]; exact hown
      have hval : valF (putF h k r) (k + 1) = x + y := by rw [valF_succ, putF_same, valF_putF_ge _ _ (Nat.le_refl _), HV.out, HVX.out, HVY.out]
      obtain ⟨a3, c3, rfl, hcall⟩ := trim_own (by omega) (Nat.le_refl _) (fun j _ => by unfold putF; split; omega; exact HL.out j) hown' hb2
      rw [hval] at hcall
      refine hcall.mono ?_
      rintro e w3 ⟨a4, n4, c4, rfl, h4⟩
      go_wp2
      go_ret
      exact ⟨a4, n4, c4, rfl, h4⟩
theorem minus_step {V YV XV r P x y v s : Nat} (h : V + YV = XV + r * P) (hv : v + y + r = x + 4294967296 * s) : V + v * P + (YV + y * P) = XV + x * P + s * (4294967296 * P) := by
  have h3 := congrArg (· * P) hv
  simp only [Nat.add_mul] at h3
  have h4 : 4294967296 * s * P = s * (4294967296 * P) := by rw [Nat.mul_comm 4294967296 s, Nat.mul_assoc]
  omega

set_option maxRecDepth 100000 in
set_option maxHeartbeats 4000000 in
theorem rminus_any (ax ay : Option Addr) (x y nx ny cx cy : Nat) (hn : nx ≤ 100000000000) (hn' : ny ≤ 100000000000) (w : World) (hx : IsD w ax nx x) (hy : IsD w ay ny y) (hle : y ≤ x) :
    Calls Tryz.prog 45 #[.slice ax nx cx, .slice ay ny cy] w (DigPost w (x - y)) := by
  obtain ⟨i0, hi, hz0, hz1, hz2⟩ := info_parts info_u32
  have HI := hide hi
  have HZ := hide (And.intro hz0 (And.intro hz1 hz2))
  have HX := hide hx
  have HY := hide hy
  have HLX := hide hx.len
  have HLY := hide hy.len
  clear hi hz0 hz1 hz2 hx hy
  go_enter Tryz.func45, Tryz.ntmps45
  go_wp2_with fail
  go_loopw [5, 6, 7] (fun ov cv i wr => ∃ (k r : Nat) (h : Nat → Nat), k ≤ nx ∧ r ≤ 1 ∧ i = .int .i64 (k : Int) ∧ cv = .int .u64 (r : Int) ∧ (∀ j, h j < 4294967296) ∧ valF h k + valF (dgt y) k = valF (dgt x) k + r * bp k ∧
      wr.ownsRow w.heap.size 52 1 ov k (digVals h k) ∧ Below w.heap.size w wr)
    (fun _ _ i _ => nx - (intOf i).toNat)
  case atStart => exact ⟨0, 0, fun _ => 0, Nat.zero_le _, by decide, rfl, rfl, fun _ => by show (0 : Nat) < _; decide, by simp [valF_zero], World.ownsRow_nil _ _ _ _, Below.refl _ _⟩
  case round =>
    obtain ⟨k, r, h, hk, hr1, rfl, rfl, hlt, hval, ho, hr⟩ := hrel
    have HO := hide ho
    have HV := hide hval
    have HL := hide hlt
    have HSZ := hide hr.size
    clear ho hval hlt
    by_cases hgo : k < nx
    · have hdx : dgt x k < 4294967296 := dgt_lt _ _
      have hdy : dgt y k < 4294967296 := dgt_lt _ _
      have CA : Hid (∀ W, Below w.heap.size w W → Calls Tryz.prog 76 #[.slice ax nx cx, .int .i64 (k : Int)] W fun e w' => e = .returned (.int .u64 ((dgt x k : Nat) : Int)) ∧ W = w') := fun W hW => rat_num ax nx cx k x (by omega) (by omega) W (HX.out.below hW)
      have CB : Hid (∀ W, Below w.heap.size w W → Calls Tryz.prog 76 #[.slice ay ny cy, .int .i64 (k : Int)] W fun e w' => e = .returned (.int .u64 ((dgt y k : Nat) : Int)) ∧ W = w') := fun W hW => rat_num ay ny cy k y (by omega) (by omega) W (HY.out.below hW)
      have hgo' : (k : Int) < nx := by omega
      go_wp2_with fail
      refine (CA.out _ hr).mono ?_
      rintro e w' ⟨rfl, rfl⟩
      go_wp2_with fail
      refine (CB.out _ hr).mono ?_
      rintro e w' ⟨rfl, rfl⟩
      obtain ⟨t, ht⟩ : ∃ t : Nat, t = 4294967296 + dgt x k - dgt y k - r := ⟨_, rfl⟩
      have hsum : (4294967296 + ((dgt x k : Nat) : Int) - ((dgt y k : Nat) : Int) - (r : Int)) % 4294967296 = ((t % 4294967296 : Nat) : Int) := by omega
      have hdiv : 1 - (4294967296 + ((dgt x k : Nat) : Int) - ((dgt y k : Nat) : Int) - (r : Int)) / 4294967296 = ((1 - t / 4294967296 : Nat) : Int) := by omega
      have hst : t % 4294967296 + dgt y k + r = dgt x k + 4294967296 * (1 - t / 4294967296) := by omega
      have HST := hide (And.intro hsum (And.intro hdiv hst))
      clear hsum hdiv hst ht
      go_wp2_with (at_builtin; refine wpList_append_own _ rfl _ _ 25 rfl w.heap.size 52 i0 (.int .u32 0) 1 4 Tryz.underlying25 HI.out HZ.out.1 HZ.out.2.1 HZ.out.2.2 rfl (by decide) _ _ _ rfl (HO.out.alloc _) ⟨wr.heap.size, 0, none⟩ 1 1 [.int .u32 ((4294967296 + ((dgt x k : Nat) : Int) - ((dgt y k : Nat) : Int) - (r : Int)) % 4294967296)] rfl rfl (fun j u hj => by match j, hj with | 0, hj => simp at hj; subst hj; simp [Addr.add]) (fun u hu => by simp at hu; subst hu; rfl) (by unfold maxLen; omega) (by omega) (by have := HSZ.out; simp; omega) ?_; intro v' w2 hown hgrow _)
      have hb2 : Below w.heap.size w w2 := (hr.alloc HSZ.out _).grown hgrow (by rw [World.size_alloc]; have := HSZ.out; omega) (fun k' hk' => (HO.out.lt k' hk').1)
      go_roundw
      case rel => exact ⟨k + 1, 1 - t / 4294967296, putF h k (t % 4294967296), by omega, by omega, by go_num, by rw [HST.out.2.1], fun j => by unfold putF; split; exact Nat.mod_lt _ (by decide); exact HL.out j,
          by rw [valF_succ, valF_succ, valF_succ, bp_succ, putF_same, valF_putF_ge _ _ (Nat.le_refl _)]; exact minus_step HV.out HST.out.2.2, by rw [digVals_put, ← HST.out.1]; exact hown, hb2⟩
      case measure => simp [intOf]; omega
    · obtain rfl : k = nx := by omega
      have hvx : valF (dgt x) k = x := val_full (by rw [← HLX.out]; exact Nat.le_refl _)
      have hvy : valF (dgt y) k = y := val_full (by rw [HLX.out]; exact dlen_mono hle)
      have hval : valF h k = x - y := by
        have h1 := HV.out
        rw [hvx, hvy] at h1
        have h2 : valF h k < bp k := valF_lt fun j _ => HL.out j
        rcases (by omega : r = 0 ∨ r = 1) with rfl | rfl
        · omega
        · omega
      obtain ⟨a3, c3, rfl, hcall⟩ := trim_own (by omega) (Nat.le_refl _) (fun j _ => HL.out j) HO.out hr
      rw [hval] at hcall
      have HC := hide hcall
      clear hcall hval hvx hvy
      go_wp2_with fail
      refine HC.out.mono ?_
      rintro e w3 ⟨a4, n4, c4, rfl, h4⟩
      go_wp2
      go_ret
      exact ⟨a4, n4, c4, rfl, h4⟩
end Go.Proofs.YtmpdeiopdempcaaGreatDoor
