/- The reference's Right, compare and at. -/
import Derived.Test.YtmpdeiopdempcaaGreatDoorOpt
import Derived.Test.YtmpdeiopdempcaaGreatDoorNumF
import Derived.BigQuiet
import Derived.Deep.QuietTactic
namespace Go.Proofs.YtmpdeiopdempcaaGreatDoor
open Go.RowKit Go.Shelf
attribute [local go_sem] Oper.semAt_some

theorem below_drewN' {B : Nat} {a w : World} (h : Below B a w) (n : Nat) : Below B a (w.drewN n) := ⟨h.os, h.tape, h.output, h.size, h.block⟩

set_option maxRecDepth 100000 in
set_option maxHeartbeats 1000000 in
theorem rright_any (s : Bool) (a : Option Addr) (L cap : Nat) (f : Nat → Nat) (hL : L ≤ 140737488355328) (w : World) (hd : Dig w a L f) :
    Calls Tryz.prog 37 #[.agg #[.bool s, .slice a L cap]] w fun e w' => e = .returned (.bool (rightB s L f)) ∧ Below w.heap.size w w' := by
  rcases Nat.eq_zero_or_pos L with h | h
  · subst h
    rw [show rightB s 0 f = !s from rfl]
    go_enter Tryz.func37, Tryz.ntmps37
    go_wp2
    go_ret
    exact ⟨rfl, (Below.refl _ w).alloc (Nat.le_refl _) _⟩
  · have hr0 : rightB s L f = decide (L ≤ 64 ∧ f (L - 1) ≠ 0) := by unfold rightB; rw [if_neg (by omega)]
    obtain ⟨b, off, rfl, hc⟩ := hd.at h
    have hcl := hc (L - 1) (by omega)
    have hb := hc.lt h
    have hz : ((L : Int) == 0) = false := by simp; omega
    have hz1 : ((L : Int) - 1).toNat = L - 1 := by omega
    by_cases h64 : L ≤ 64
    · have h64' : (L : Int) ≤ 64 := by omega
      by_cases hf : f (L - 1) = 0
      · rw [hf] at hcl
        rw [show rightB s L f = false by rw [hr0]; simp [hf]]
        have HC := hide hcl
        clear hf hr0 hc hd
        have hcl2 : w.cell? ⟨b, off + (L - 1), none⟩ = some (.int .u32 0) := HC.out
        clear hcl
        go_enter Tryz.func37, Tryz.ntmps37
        go_wp2
        go_ret
        exact ⟨rfl, (Below.refl _ w).alloc (Nat.le_refl _) _⟩
      · have hne : (((f (L - 1) : Nat) : Int) != 0) = true := by simp; exact hf
        have hne2 : (((f (L - 1) : Nat) : Int) == 0) = false := by simp; exact hf
        rw [show rightB s L f = true by rw [hr0]; simp [hf, h64]]
        clear hf hr0 hc hd
        go_enter Tryz.func37, Tryz.ntmps37
        go_wp2
        go_ret
        exact ⟨rfl, (Below.refl _ w).alloc (Nat.le_refl _) _⟩
    · have h64' : (64 : Int) < L := by omega
      rw [show rightB s L f = false by rw [hr0]; simp [h64]]
      clear hr0 hc hd
      go_enter Tryz.func37, Tryz.ntmps37
      go_wp2
      go_ret
      exact ⟨rfl, (Below.refl _ w).alloc (Nat.le_refl _) _⟩

theorem rright_arg (s : Bool) (a : Option Addr) (n c : Nat) (o : Option Int) (w : World) (h : Arg w s a n o) :
    Calls Tryz.prog 37 #[.agg #[.bool s, .slice a n c]] w fun e w' => e = .returned (.bool o.isSome) ∧ Below w.heap.size w w' := by
  cases o with
  | some z =>
    refine (rright_any s a n c (dgt z.natAbs) (by have := h.2; omega) w h.1.dig.dig).mono ?_
    rintro e w' ⟨rfl, hb⟩
    exact ⟨by rw [rightB_yes h.1 h.2]; rfl, hb⟩
  | none =>
    obtain ⟨f, h1, h2, h3⟩ := h
    refine (rright_any s a n c f h2 w h1).mono ?_
    rintro e w' ⟨rfl, hb⟩
    exact ⟨by rw [h3]; rfl, hb⟩

set_option maxRecDepth 100000 in
set_option maxHeartbeats 1000000 in
theorem rcompare_len_lt (ax ay : Option Addr) (nx ny cx cy : Nat) (h : nx < ny) (w : World) :
    Calls Tryz.prog 62 #[.slice ax nx cx, .slice ay ny cy] w fun e w' => e = .returned (.int .i64 (-1)) ∧ Below w.heap.size w w' := by
  have h' : (nx : Int) < ny := by omega
  go_enter Tryz.func62, Tryz.ntmps62
  go_wp2
  go_ret
  exact ⟨rfl, Below.refl _ _⟩
set_option maxRecDepth 100000 in
set_option maxHeartbeats 1000000 in
theorem rcompare_len_gt (ax ay : Option Addr) (nx ny cx cy : Nat) (h : ny < nx) (w : World) :
    Calls Tryz.prog 62 #[.slice ax nx cx, .slice ay ny cy] w fun e w' => e = .returned (.int .i64 1) ∧ Below w.heap.size w w' := by
  have h' : (ny : Int) < nx := by omega
  have h'' : ¬ nx < ny := by omega
  go_enter Tryz.func62, Tryz.ntmps62
  go_wp2
  go_ret
  exact ⟨rfl, Below.refl _ _⟩

set_option maxRecDepth 100000 in
set_option maxHeartbeats 2000000 in
theorem rcompare_same (ax ay : Option Addr) (n cx cy : Nat) (f g : Nat → Nat) (hn : n ≤ 1099511627776) (hf : ∀ j, j < n → f j < 4294967296) (hg : ∀ j, j < n → g j < 4294967296) (w : World) (hx : Dig w ax n f) (hy : Dig w ay n g) :
    Calls Tryz.prog 62 #[.slice ax n cx, .slice ay n cy] w fun e w' => e = .returned (.int .i64 (cmpN (valF f n) (valF g n))) ∧ Below w.heap.size w w' := by
  have HF : Hid (∀ j, j < n → f j < 4294967296) := hf
  have HG : Hid (∀ j, j < n → g j < 4294967296) := hg
  clear hf hg
  go_enter Tryz.func62, Tryz.ntmps62
  go_wp2
  go_loopw [5] (fun i wr => ∃ k : Nat, k ≤ n ∧ i = .int .i64 ((k : Int) - 1) ∧ (∀ j, k ≤ j → j < n → f j = g j) ∧ Below w.heap.size w wr) (fun i _ => (intOf i + 1).toNat)
  case atStart => exact ⟨n, Nat.le_refl _, rfl, fun j h1 h2 => by omega, Below.refl _ _⟩
  case round =>
    obtain ⟨k, hk, rfl, hsame, hr⟩ := hrel
    cases k with
    | zero =>
      have h0 : cmpN (valF f n) (valF g n) = 0 := by
        rw [valF_congr (fun j hj => hsame j (Nat.zero_le _) hj)]; exact cmpN_eq _
      have H0 := hide h0
      clear hsame h0
      rw [show ((0 : Nat) : Int) - 1 = -1 from rfl]
      go_wp2
      go_ret
      exact ⟨by rw [H0.out]; rfl, hr⟩
    | succ m =>
      rw [show ((m + 1 : Nat) : Int) - 1 = (m : Int) by omega]
      obtain ⟨bx, ox, rfl, hcx⟩ := (hx.below hr).at (by omega)
      obtain ⟨by', oy, rfl, hcy⟩ := (hy.below hr).at (by omega)
      have hx1 := hcx m (by omega)
      have hy1 := hcy m (by omega)
      have hm0 : (0 : Int) ≤ m := by omega
      have hmn : (m : Int) < n := by omega
      have HS := hide hsame
      clear hsame hcx hcy
      rcases Nat.lt_trichotomy (f m) (g m) with hlt | heq | hgt
      · have hlt' : ((f m : Nat) : Int) < ((g m : Nat) : Int) := by omega
        have HFIN := hide (cmpN_lt (valF_lt_valF hk HF.out (fun j h1 h2 => HS.out j (by omega) h2) hlt))
        clear hlt
        go_wp2
        go_quiet (fail)
        go_wp2
        go_ret
        exact ⟨by rw [HFIN.out]; rfl, below_drewN' hr _⟩
      · have HE := hide heq
        rw [heq] at hx1
        clear heq
        go_wp2
        go_quiet (fail)
        go_wp2
        go_quiet (fail)
        go_wp2
        go_roundw
        case rel => exact ⟨m, by omega, rfl, fun j h1 h2 => by
          by_cases e : j = m
          · subst e; exact HE.out
          · exact HS.out j (by omega) h2, below_drewN' hr _⟩
        case measure => simp [intOf]
      · have hgt' : ((g m : Nat) : Int) < ((f m : Nat) : Int) := by omega
        have hgt'' : ¬ ((f m : Nat) : Int) < ((g m : Nat) : Int) := by omega
        have HFIN := hide (cmpN_gt (valF_lt_valF hk HG.out (fun j h1 h2 => (HS.out j (by omega) h2).symm) hgt))
        clear hgt
        go_wp2
        go_quiet (fail)
        go_wp2
        go_quiet (fail)
        go_wp2
        go_ret
        exact ⟨by rw [HFIN.out]; rfl, below_drewN' (below_drewN' hr _) _⟩

theorem rcompare_any (ax ay : Option Addr) (x y nx ny cx cy : Nat) (hn : nx ≤ 1099511627776) (w : World) (hx : IsD w ax nx x) (hy : IsD w ay ny y) :
    Calls Tryz.prog 62 #[.slice ax nx cx, .slice ay ny cy] w fun e w' => e = .returned (.int .i64 (cmpN x y)) ∧ Below w.heap.size w w' := by
  rcases Nat.lt_trichotomy nx ny with h | h | h
  · rw [cmpN_lt (lt_of_dlen (by rw [← hx.len, ← hy.len]; exact h))]; exact rcompare_len_lt ax ay _ _ cx cy h w
  · subst h
    have := rcompare_same ax ay nx cx cy (dgt x) (dgt y) hn (fun _ _ => dgt_lt _ _) (fun _ _ => dgt_lt _ _) w hx.dig hy.dig
    have e1 : valF (dgt x) nx = x := by rw [hx.len, valF_dlen]
    have e2 : valF (dgt y) nx = y := by rw [hy.len, valF_dlen]
    rw [e1, e2] at this; exact this
  · rw [cmpN_gt (lt_of_dlen (by rw [← hx.len, ← hy.len]; exact h))]; exact rcompare_len_gt ax ay _ _ cx cy h w

set_option maxRecDepth 100000 in
set_option maxHeartbeats 1000000 in
theorem rat_any (a : Option Addr) (n c k : Nat) (f : Nat → Nat) (hn : n ≤ 1099511627776) (hk : k ≤ 1099511627776) (hf : ∀ j, j < n → f j < 4294967296) (w : World) (hd : Dig w a n f) :
    Calls Tryz.prog 76 #[.slice a n c, .int .i64 (k : Int)] w fun e w' => e = .returned (.int .u64 ((mixF f (fun _ => 0) n k : Nat) : Int)) ∧ w = w' := by
  by_cases h : k < n
  · obtain ⟨b, off, rfl, hc⟩ := hd.at (by omega)
    have hx := hc k h
    have h' : (k : Int) < n := by omega
    have hfk := hf k h
    rw [show mixF f (fun _ => 0) n k = f k by simp [mixF, h]]
    clear hc hd
    go_enter Tryz.func76, Tryz.ntmps76
    go_wp2
    go_ret
    exact ⟨rfl, rfl⟩
  · have h' : ¬ (k : Int) < n := by omega
    rw [show mixF f (fun _ => 0) n k = 0 by simp [mixF, h]]
    go_enter Tryz.func76, Tryz.ntmps76
    go_wp2
    go_ret
    exact ⟨rfl, rfl⟩
end Go.Proofs.YtmpdeiopdempcaaGreatDoor
