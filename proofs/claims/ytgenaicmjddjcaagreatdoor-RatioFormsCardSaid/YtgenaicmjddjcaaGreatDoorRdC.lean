/- The reference's divide. -/
import Derived.Test.YtgenaicmjddjcaaGreatDoorRdB
import Derived.Test.YtgenaicmjddjcaaGreatDoorPRg
namespace Go.Proofs.YtgenaicmjddjcaaGreatDoor
open Go.RowKit Go.Shelf

def RDivPost (w : World) (x y : Nat) (e : Ending) (w' : World) : Prop :=
 ∃ (a1 : Option Addr) (n1 c1 : Nat) (a2 : Option Addr) (n2 c2 : Nat), e = .returned (.tuple #[.slice a1 n1 c1, .slice a2 n2 c2]) ∧ IsD w' a1 n1 (x / y) ∧ IsD w' a2 n2 (x % y) ∧ n1 ≤ c1 ∧ n2 ≤ c2 ∧ Below w.heap.size w w'

theorem first_lt {x y F lb : Nat} (hx : x < 2 ^ (F + lb)) (hy : 2 ^ lb ≤ 2 * y) : x / 2 ^ (F + 1) < y := by
 apply Nat.div_lt_of_lt_mul
 rw [Nat.pow_add] at hx
 have h1 : 2 ^ F * 2 ^ lb ≤ 2 ^ F * (2 * y) := Nat.mul_le_mul_left _ hy
 rw [Nat.pow_succ, Nat.mul_assoc]
 omega
theorem first_none {x y la lb : Nat} (hx : x < 2 ^ la) (hy : 2 ^ lb ≤ 2 * y) (h : la < lb) : x < y := by
 have h1 : 2 ^ (la + 1) ≤ 2 ^ lb := Nat.pow_le_pow_right (by decide) h
 rw [Nat.pow_succ] at h1
 omega
theorem quot_fit {x y F lb K : Nat} (hx : x < 2 ^ (F + lb)) (hy : 2 ^ lb ≤ 2 * y) (hK : F / 32 + 1 = K) : x / y < bp K := by
 have h1 := first_lt hx hy
 have h2 : x / y < 2 ^ (F + 1) := by
  rcases Nat.eq_zero_or_pos y with h | h
  · subst h; simp; exact pow_pos' _
  · apply Nat.div_lt_of_lt_mul
    rw [Nat.pow_add] at hx
    have h3 : 2 ^ F * 2 ^ lb ≤ 2 ^ F * (2 * y) := Nat.mul_le_mul_left _ hy
    have h4 : y * 2 ^ (F + 1) = 2 ^ F * (2 * y) := by rw [Nat.pow_succ, Nat.mul_left_comm, Nat.mul_comm 2 y]
    omega
 rw [bp_pow]
 exact Nat.lt_of_lt_of_le h2 (Nat.pow_le_pow_right (by decide) (by omega))
theorem len_le {R y n ny : Nat} (hn : n = dlen R) (hy : ny = dlen y) (h : R ≤ y) : n ≤ ny := by
 rw [hn]
 exact dlen_le_iff.2 (Nat.lt_of_le_of_lt h (by rw [hy]; exact lt_bp_dlen y))
theorem dgt_null (j : Nat) : dgt 0 j = 0 := by unfold dgt; simp

set_option maxRecDepth 100000 in
set_option maxHeartbeats 4000000 in
theorem rdivide_big (ax ay : Option Addr) (x y nx ny cx cy : Nat) (hn : nx ≤ 10000000000) (hn' : ny ≤ 10000000000) (hcx : nx ≤ cx) (h2 : 2 < nx ∨ (nx ≤ 2 ∧ 2 < ny)) (w : World) (hx : IsD w ax nx x) (hy : IsD w ay ny y) (hy0 : 0 < y) :
 Calls Tryz.prog 126 #[.slice ax nx cx, .slice ay ny cy] w (RDivPost w x y) := by
 have HX := hide hx
 have HY := hide hy
 have HLX := hide hx.len
 have HLY := hide hy.len
 clear hx hy
 go_enter Tryz.func126, Tryz.ntmps126
 rcases h2 with h2 | ⟨h2, h3⟩
 all_goals
  have h2' : ¬ (nx : Int) ≤ 2 ∨ ¬ (ny : Int) ≤ 2 := by omega
  go_wp2_with fail
  refine (rlength_any ax nx cx x (by omega) w HX.out).mono ?_
  rintro e w' ⟨la, rfl, hxl, -, hla, rfl⟩
  have HXL := hide hxl
  clear hxl
  go_wp2_with fail
  refine (rlength_any ay ny cy y (by omega) _ HY.out).mono ?_
  rintro e w' ⟨lb, rfl, hyl, hyu, hlb, rfl⟩
  have hyu := hyu hy0
  have hlb0 : 0 < lb := by
   rcases Nat.eq_zero_or_pos lb with h | h
   · subst h; rw [Nat.pow_zero] at hyl; omega
   · exact h
  have HYU := hide hyu
  clear hyl hyu
  rcases Nat.lt_or_ge la lb with hlt | hge
  · have hf : (la : Int) - lb < 0 := by omega
    have hxy := first_none HXL.out HYU.out hlt
    have HXY := hide hxy
    clear hxy
    go_wp2
    exact bodyPost_ret (v := .tuple #[.slice none 0 0, .slice ax nx cx]) (by simp [results, Tryz.results126, go_sem]) rfl ⟨_, _, _, _, _, _, rfl, by rw [Nat.div_eq_of_lt HXY.out]; exact ⟨dlen_zero.symm, .inl rfl⟩, by rw [Nat.mod_eq_of_lt HXY.out]; exact HX.out, Nat.le_refl _, hcx, Below.refl _ _⟩
  · obtain ⟨F, rfl⟩ : ∃ F, la = F + lb := ⟨la - lb, by omega⟩
    have hf : ((F + lb : Nat) : Int) - lb = (F : Int) := by omega
    have HLT := hide (first_lt HXL.out HYU.out)
    obtain ⟨K, hK⟩ : ∃ K, F / 32 + 1 = K := ⟨_, rfl⟩
    have hK1 : (F : Int) / 32 + 1 = (K : Int) := by omega
    have HK := hide hK
    have hKl : K ≤ 10000000000 := by omega
    clear hK
    go_wp2_with (at_make; refine make_digs rfl _ _ rfl _ _ _ _ K rfl rfl (by omega) (by omega) (by omega) ?_; intro w1 hc1 hf1 hb1)
    obtain ⟨g, hg⟩ : ∃ g, w'.heap.size = g := ⟨_, rfl⟩
    have hgle : w'.heap.size ≤ g := by omega
    rw [hg] at hc1 hf1 ⊢
    clear hg
    refine (rwithout_any ax x nx cx (F + 1) (by omega) (by omega) w1 (HX.out.below hb1)).mono ?_
    rintro e w2 ⟨a8, n8, c8, rfl, H8, hp8, hf8, hk8⟩
    have hg1 : g < w1.heap.size := hc1.lt (by have := HK.out; omega)
    have hb2 := hb1.trans (hk8.mono hb1.size)
    have hc2 := hc1.below hk8 (.inr hg1)
    have hf2 := hf1.below hk8 hg1
    have hf8' : n8 = 0 ∨ ∀ ad, a8 = some ad → g < ad.block := hf8.imp id fun h ad e => Nat.lt_of_lt_of_le hg1 (h ad e)
    clear hf8 hk8 hc1 hf1 hb1
    go_wp2_with fail
    go_loopw [8, 9] (fun rv i wr => ∃ (k : Nat) (ar : Option Addr) (nr cr : Nat), k ≤ F + 1 ∧ i = .int .i64 ((k : Int) - 1) ∧ rv = .slice ar nr cr ∧ IsD wr ar nr (x / 2 ^ k % y) ∧ nr ≤ cr ∧ (nr = 0 ∨ ∀ ad, ar = some ad → g < ad.block) ∧
     Cells wr g 0 K (dgt (x / 2 ^ k / y * 2 ^ k)) ∧ Free wr g 0 K ∧ Below w'.heap.size w' wr ∧ g < wr.heap.size)
     (fun _ i _ => (intOf i + 1).toNat)
    case atStart => exact ⟨F + 1, a8, n8, c8, Nat.le_refl _, by go_num, rfl, by rw [Nat.mod_eq_of_lt HLT.out]; exact H8, hp8, hf8', by rw [Nat.div_eq_of_lt HLT.out, Nat.zero_mul]; exact hc2.congr fun j _ => (dgt_null j).symm, hf2, hb2, hc2.lt (by have := HK.out; omega)⟩
    case round =>
     obtain ⟨k, ar, nr, cr, hk, rfl, rfl, hR, hpr, hfr, hc, hfree, hB, hgw⟩ := hrel
     by_cases h0 : k = 0
     · subst h0
       rw [Nat.pow_zero, Nat.div_one] at hR hc
       rw [Nat.mul_one] at hc
       have hQ : valF (dgt (x / y)) K = x / y := by rw [valF_dgt]; exact Nat.mod_eq_of_lt (quot_fit HXL.out HYU.out HK.out)
       have HT := hide (rtrim_any (some ⟨g, 0, none⟩) K K (dgt (x / y)) (by omega) (Nat.le_refl _) (fun _ _ => dgt_lt _ _) wr (.inr ⟨g, 0, rfl, hc⟩))
       have HQ := hide hQ
       have HC := hide hc
       clear hQ hc
       go_wp2_with fail
       refine HT.out.mono ?_
       rintro e w3 ⟨a', c', rfl, ha', hc', rfl⟩
       have hI := IsD.of (w := w3) (.inr ⟨g, 0, rfl, HC.out⟩) (fun _ _ => dgt_lt (x / y) _) ha'
       rw [HQ.out] at hI hc' ⊢
       go_wp2
       exact bodyPost_ret (v := .tuple #[.slice a' (dlen (x / y)) c', .slice ar nr cr]) (by simp [results, Tryz.results126, go_sem]) rfl ⟨_, _, _, _, _, _, rfl, hI, hR, hc', hpr, hB⟩
     · obtain ⟨i, rfl⟩ : ∃ i, k = i + 1 := ⟨k - 1, by omega⟩
       rw [show ((i + 1 : Nat) : Int) - 1 = (i : Int) from by omega]
       have HBL := hide (fun h => bin_less (A := x) (b := y) (k := i) hy0 h)
       have HBM := hide (fun h => bin_more (A := x) (b := y) (k := i) hy0 h)
       have hRl : x / 2 ^ (i + 1) % y < y := Nat.mod_lt _ hy0
       have htl : x / 2 ^ i % 2 < 2 := Nat.mod_lt _ (by decide)
       have HCb := hide (fun W hW => rbit_any ax nx cx x i (by omega) (by omega) W (HX.out.below hW))
       obtain ⟨R, hRR⟩ : ∃ R, x / 2 ^ (i + 1) % y = R := ⟨_, rfl⟩
       obtain ⟨t, ht⟩ : ∃ t, x / 2 ^ i % 2 = t := ⟨_, rfl⟩
       obtain ⟨Q, hQQ⟩ : ∃ Q, x / 2 ^ (i + 1) / y = Q := ⟨_, rfl⟩
       rw [hRR] at hR hRl HBL HBM
       rw [ht] at HBL HBM htl HCb
       rw [hQQ] at HBL HBM hc
       have hnr : nr ≤ ny := len_le hR.len HLY.out (by omega)
       clear hRR ht hQQ
       go_wp2_with fail
       refine (HCb.out _ hB).mono ?_
       rintro e w4 ⟨rfl, rfl⟩
       go_wp2_with fail
       refine (rtwice_any ar R nr cr t (by omega) (by omega) _ hR).mono ?_
       rintro e w5 ⟨a5, n5, c5, rfl, H5, hp5, hf5, hk5⟩
       have hc := hc.below hk5 (.inr hgw)
       have hfree := hfree.below hk5 hgw
       have hB5 := hB.trans (hk5.mono hB.size)
       have hf5' : n5 = 0 ∨ ∀ ad, a5 = some ad → g < ad.block := hf5.imp id fun h ad e => Nat.lt_of_lt_of_le hgw (h ad e)
       have hgw5 := Nat.lt_of_lt_of_le hgw hk5.size
       have hn5 : n5 ≤ ny + 1 := by
        rw [H5.len]
        refine dlen_le_iff.2 ?_
        have h1 : y < bp ny := by rw [HLY.out]; exact lt_bp_dlen y
        rw [bp_succ]; omega
       clear hf5 hk5 hfr hR hpr
       go_wp2_with fail
       refine (rcompare_any a5 ay (2 * R + t) y n5 ny c5 cy (by omega) w5 H5 (HY.out.below hB5)).mono ?_
       rintro e w6 ⟨rfl, hk6⟩
       have hc := hc.below hk6 (.inr hgw5)
       have hfree := hfree.below hk6 hgw5
       have hB6 := hB5.trans (hk6.mono hB5.size)
       have hgw6 := Nat.lt_of_lt_of_le hgw5 hk6.size
       have H5 := H5.below hk6
       clear hk6
       rcases Nat.lt_or_ge (2 * R + t) y with hl | hl
       · rw [cmpN_lt hl]
         obtain ⟨e1, e2⟩ := HBL.out hl
         have E1 := hide e1
         have E2 := hide e2
         have HC := hide hc
         have HF := hide hfree
         clear e1 e2 hc hfree
         go_wp2_with fail
         go_roundw
         case rel =>
            refine ⟨i, a5, n5, c5, by omega, by go_num, rfl, by rw [E1.out]; exact H5, hp5, hf5', ?_, HF.out, hB6, hgw6⟩
            rw [E2.out, show 2 * Q * 2 ^ i = Q * 2 ^ (i + 1) from by rw [Nat.pow_succ, Nat.mul_comm 2 Q, Nat.mul_assoc, Nat.mul_comm 2]]
            exact HC.out
         case measure => simp [intOf]
       · obtain ⟨o, ho⟩ : ∃ o, cmpN (2 * R + t) y = o := ⟨_, rfl⟩
         have ho0 : 0 ≤ o := by
            rw [← ho]; unfold cmpN; rw [if_neg (by omega)]; split <;> decide
         rw [ho]
         obtain ⟨e1, e2⟩ := HBM.out hl
         have E1 := hide e1
         have E2 := hide e2
         have HC := hide hc
         have HF := hide hfree
         clear e1 e2 hc hfree ho
         go_wp2_with fail
         refine (rminus_any a5 ay (2 * R + t) y n5 ny c5 cy (by omega) (by omega) w6 H5 (HY.out.below hB6) hl).mono ?_
         rintro e w7 ⟨a7, n7, c7, rfl, H7, hp7, hf7, hk7⟩
         have hc := HC.out.below hk7 (.inr hgw6)
         have hfree := HF.out.below hk7 hgw6
         have hB7 := hB6.trans (hk7.mono hB6.size)
         have hf7' : n7 = 0 ∨ ∀ ad, a7 = some ad → g < ad.block := hf7.imp id fun h ad e => Nat.lt_of_lt_of_le hgw6 (h ad e)
         have hgw7 := Nat.lt_of_lt_of_le hgw6 hk7.size
         clear hf7 hk7 HC HF H5 hf5'
         have hiK : i / 32 < K := by have := HK.out; omega
         have hcell := hc (i / 32) hiK
         have hfz := hfree (i / 32) hiK
         rw [Nat.zero_add] at hcell hfz
         obtain ⟨s1, s2⟩ := setbit_at Q i
         have S3 := hide (fun j (hj : j ≠ i / 32) => setbit_ne Q hj)
         have hd := dgt_lt (Q * 2 ^ (i + 1)) (i / 32)
         have hd2 := dgt_lt (Q * 2 ^ (i + 1) + 2 ^ i) (i / 32)
         obtain ⟨p, hp⟩ : ∃ p, i / 32 = p := ⟨_, rfl⟩
         obtain ⟨r, hr⟩ : ∃ r, i % 32 = r := ⟨_, rfl⟩
         rw [hp] at hcell hfz s1 s2 hd hd2 hiK S3
         rw [hr] at s1 s2
         have hr32 : r < 32 := by omega
         have y1 : (i : Int) / 32 = (p : Int) := by omega
         have y2 : (i : Int) % 32 = (r : Int) := by omega
         have HC := hide hc
         have HF := hide hfree
         clear hc hfree hp hr
         obtain ⟨d, hdd⟩ : ∃ d, dgt (Q * 2 ^ (i + 1)) p = d := ⟨_, rfl⟩
         rw [hdd] at hcell s1 s2 hd
         obtain ⟨u, hu⟩ : ∃ u, 2 ^ r = u := ⟨_, rfl⟩
         have hor : d ||| u = d + u := by rw [← hu]; exact or_bit s2
         rw [hu] at s1
         rw [s1] at hd2
         have y3 : (2 : Int) ^ r = (u : Int) := by rw [← hu]; simp
         have y4 : bits BinOp.or IntKind.u32 (d : Int) (u : Int) = ((d + u : Nat) : Int) := by rw [or_u32_nat d u (by omega) (by omega), hor]
         obtain ⟨v, hv⟩ : ∃ v, d + u = v := ⟨_, rfl⟩
         rw [hv] at y4 s1 hd2
         have y5 : (u : Int) % 4294967296 = (u : Int) := by omega
         have hp0 : (0 : Int) ≤ (p : Int) := by omega
         have hpK : (p : Int) < (K : Int) := by omega
         have hr0 : (0 : Int) ≤ (r : Int) := by omega
         have S1 := hide s1
         have HV := hide hd2
         clear hor hu s1 s2 hdd hv hd2
         go_wp2_with fail
         go_region
         go_wp2_with fail
         go_roundw
         case rel =>
            have e3 : x / 2 ^ i / y * 2 ^ i = Q * 2 ^ (i + 1) + 2 ^ i := by
             rw [E2.out, Nat.add_mul, Nat.one_mul, Nat.pow_succ, Nat.mul_comm 2 Q, Nat.mul_assoc, Nat.mul_comm 2]
            have hT : Touch g p (p + 1) w7 (w7.setCell ⟨g, p, none⟩ (.int .u32 (v : Int))) := Touch.setCell w7 _ (Nat.le_refl _) (by omega)
            have hSet := HC.out.set v hiK
            rw [Nat.zero_add] at hSet
            refine ⟨i, a7, n7, c7, by omega, by go_num, rfl, ?_, hp7, hf7', ?_, ?_, ?_, ?_⟩
            · rw [E1.out]
              have hne : n7 = 0 ∨ ∀ ad, a7 = some ad → ad.block ≠ g := hf7'.imp id fun h ad e => Nat.ne_of_gt (h ad e)
              have H9 : IsD (w7.setCell ⟨g, p, none⟩ (.int .u32 (v : Int))) a7 n7 (2 * R + t - y) := ⟨H7.len, H7.dig.touch' hT hne⟩
              exact H9.below (Below.drew (Below.refl _ _))
            · rw [e3]
              intro j hj
              have hq := hSet j hj
              by_cases hjp : j = p
              · subst hjp
                rw [putF_same] at hq
                rw [S1.out]; exact hq
              · rw [putF_ne _ _ hjp] at hq
                rw [S3.out j hjp]; exact hq
            · intro j hj
              show (w7.setCell ⟨g, p, none⟩ (.int .u32 (v : Int))).frozen? _ = false
              rw [World.frozen?_setCell]; exact HF.out j hj
            · exact (hB7.setCell (p := ⟨g, p, none⟩) hgle _).drew
            · show g < (w7.setCell ⟨g, p, none⟩ (.int .u32 (v : Int))).heap.size
              rw [World.size_setCell]; exact hgw7
         case measure => simp [intOf]

set_option maxRecDepth 100000 in
set_option maxHeartbeats 2000000 in
theorem rdivide_small (ax ay : Option Addr) (x y nx ny cx cy : Nat) (hn : nx ≤ 2) (hn' : ny ≤ 2) (w : World) (hx : IsD w ax nx x) (hy : IsD w ay ny y) (hy0 : 0 < y) :
 Calls Tryz.prog 126 #[.slice ax nx cx, .slice ay ny cy] w (RDivPost w x y) := by
 have hxv : valF (dgt x) nx = x := val_full (by rw [← hx.len]; exact Nat.le_refl _)
 have hyv : valF (dgt y) ny = y := val_full (by rw [← hy.len]; exact Nat.le_refl _)
 have hxl : x < 18446744073709551616 := by
  have h1 : x < bp nx := by rw [hx.len]; exact lt_bp_dlen x
  have h2 : bp nx ≤ bp 2 := bp_le hn
  have h3 : bp 2 = 18446744073709551616 := by decide
  omega
 have CX := hide (fun W (hW : Below w.heap.size w W) => rword_any ax nx cx (dgt x) hn (fun _ _ => dgt_lt _ _) W (hx.dig.below hW))
 have CY := hide (fun W (hW : Below w.heap.size w W) => rword_any ay ny cy (dgt y) hn' (fun _ _ => dgt_lt _ _) W (hy.dig.below hW))
 rw [hxv] at CX
 rw [hyv] at CY
 obtain ⟨q, hq⟩ : ∃ q, x / y = q := ⟨_, rfl⟩
 obtain ⟨r, hr⟩ : ∃ r, x % y = r := ⟨_, rfl⟩
 have z1 : (x : Int) / (y : Int) = (q : Int) := by rw [← hq]; simp
 have z2 : (x : Int) % (y : Int) = (r : Int) := by rw [← hr]; simp
 have hql : q ≤ x := by rw [← hq]; exact Nat.div_le_self _ _
 have hrl : r ≤ x := by rw [← hr]; exact Nat.mod_le _ _
 have hyz : ((y : Int) == 0) = false := by simp; omega
 have hyz' : ¬ (y : Int) = 0 := by omega
 have h2 : (nx : Int) ≤ 2 := by omega
 have h3 : (ny : Int) ≤ 2 := by omega
 have HQ := hide hq
 have HR := hide hr
 clear hq hr hxv hyv hx hy
 go_enter Tryz.func126, Tryz.ntmps126
 go_wp2_with fail
 refine (CX.out w (Below.refl _ _)).mono ?_
 rintro e w1 ⟨rfl, hB⟩
 go_wp2_with fail
 refine (CY.out w1 hB).mono ?_
 rintro e w2 ⟨rfl, hk⟩
 have hB := hB.trans (hk.mono hB.size)
 clear hk
 go_wp2_with fail
 refine (rdigits_any q (by omega) w2).mono ?_
 rintro e w3 ⟨a1, n1, c1, rfl, H1, hp1, -, hk⟩
 have hB := hB.trans (hk.mono hB.size)
 clear hk
 go_wp2_with fail
 refine (CX.out w3 hB).mono ?_
 rintro e w4 ⟨rfl, hk⟩
 have hB := hB.trans (hk.mono hB.size)
 have H1 := H1.below hk
 clear hk
 go_wp2_with fail
 refine (CY.out w4 hB).mono ?_
 rintro e w5 ⟨rfl, hk⟩
 have hB := hB.trans (hk.mono hB.size)
 have H1 := H1.below hk
 clear hk
 go_wp2_with fail
 refine (rdigits_any r (by omega) w5).mono ?_
 rintro e w6 ⟨a2, n2, c2, rfl, H2, hp2, -, hk⟩
 have hB := hB.trans (hk.mono hB.size)
 have H1 := H1.below hk
 clear hk
 go_wp2
 exact bodyPost_ret (v := .tuple #[.slice a1 n1 c1, .slice a2 n2 c2]) (by simp [results, Tryz.results126, go_sem]) rfl ⟨_, _, _, _, _, _, rfl, by rw [HQ.out]; exact H1, by rw [HR.out]; exact H2, hp1, hp2, hB⟩

theorem rdivide_any (ax ay : Option Addr) (x y nx ny cx cy : Nat) (hn : nx ≤ 10000000000) (hn' : ny ≤ 10000000000) (hcx : nx ≤ cx) (w : World) (hx : IsD w ax nx x) (hy : IsD w ay ny y) (hy0 : 0 < y) :
 Calls Tryz.prog 126 #[.slice ax nx cx, .slice ay ny cy] w (RDivPost w x y) := by
 rcases (by omega : (2 < nx ∨ (nx ≤ 2 ∧ 2 < ny)) ∨ (nx ≤ 2 ∧ ny ≤ 2)) with h | ⟨h1, h2⟩
 · exact rdivide_big ax ay x y nx ny cx cy hn hn' hcx h w hx hy hy0
 · exact rdivide_small ax ay x y nx ny cx cy h1 h2 w hx hy hy0
end Go.Proofs.YtgenaicmjddjcaaGreatDoor
