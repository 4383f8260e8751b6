/- The generators of ints and vectors: Mod, Next, Vec. -/
import Derived.Test.YtblnpelbklfloaaVReg
namespace Go.Proofs.Ytblnpelbklfloaa
open Go.RowKit

/-- a list of ints that came in, in blocks below B -/
def Lst (w : World) (ao : Option Addr) (len B : Nat) : Prop := ∀ j, j < len → ∃ bs off x, ao = some ⟨bs, off, none⟩ ∧ bs < B ∧ w.cell? ⟨bs, off + j, none⟩ = some (.int .i64 x)
theorem Keep.trans {S : List Nat} {a b c : World} (h : Keep S a b) (k : Keep S b c) : Keep S a c :=
  ⟨k.os.trans h.os, k.tape.trans h.tape, k.output.trans h.output, Nat.le_trans h.size k.size, fun i hi hS => (k.block i (Nat.lt_of_lt_of_le hi h.size) hS).trans (h.block i hi hS)⟩
theorem Keep.set {S : List Nat} {a w : World} (h : Keep S a w) {b : Nat} (hb : b ∈ S) (o : Nat) (v : Value) : Keep S a (w.setCell ⟨b, o, none⟩ v) :=
  ⟨h.os, h.tape, h.output, by rw [World.size_setCell]; exact h.size, fun k hk hS => (Below.heap_setCell w _ v k (fun e => hS (by subst e; exact hb))).trans (h.block k hk hS)⟩
theorem Keep.setNew {S : List Nat} {a w : World} (h : Keep S a w) {b : Nat} (hb : a.heap.size ≤ b) (o : Nat) (v : Value) : Keep S a (w.setCell ⟨b, o, none⟩ v) :=
  ⟨h.os, h.tape, h.output, by rw [World.size_setCell]; exact h.size, fun k hk hS => (Below.heap_setCell w _ v k (by show k ≠ b; omega)).trans (h.block k hk hS)⟩
theorem Var.setOther {w : World} {b c : Nat} {us : List Value} (h : Var w c us) (hne : c ≠ b) (o : Nat) (v : Value) : Var (w.setCell ⟨b, o, none⟩ v) c us := ⟨by rw [World.size_setCell]; exact h.1, h.2.block (Below.heap_setCell w _ v c hne)⟩
theorem Keep.cell {S : List Nat} {a b : World} (h : Keep S a b) {p : Addr} {v : Value} (hc : a.cell? p = some v) (hS : p.block ∉ S) : b.cell? p = some v := by
  have hb := cellLt hc
  rw [← hc]
  obtain ⟨k, o, s⟩ := p
  exact World.cell?_of_block (h.block k hb hS)
theorem Lst.keep {w w' : World} {ao : Option Addr} {len B bd : Nat} (h : Lst w ao len B) (k : Keep [bd] w w') (hB : B ≤ bd) : Lst w' ao len B := fun j hj => by
  obtain ⟨bs, off, x, e, h1, h2⟩ := h j hj
  exact ⟨bs, off, x, e, h1, k.cell h2 (by simp; omega)⟩
theorem Lst.low {w w' : World} {ao : Option Addr} {len B : Nat} (h : Lst w ao len B) (k : Below B w w') : Lst w' ao len B := fun j hj => by
  obtain ⟨bs, off, x, e, h1, h2⟩ := h j hj
  exact ⟨bs, off, x, e, h1, (k.cell (p := ⟨bs, off + j, none⟩) h1).trans h2⟩

set_option maxRecDepth 100000 in
set_option maxHeartbeats 1000000 in
theorem mod_r (n m : Int) (h1 : 1 ≤ m) (h2 : m ≤ 1099511627776) (w : World) : Calls Try.prog 49 #[.int .i64 n, .int .i64 m] w fun e w' => e = .returned (.int .i64 (n % m)) ∧ w' = w := by
  go_enter Try.func49, Try.ntmps49
  have hm : ¬ m = 0 := by omega
  have hm1 : ¬ m < 1 := by omega
  obtain ⟨t, ht⟩ : ∃ t, n.tmod m = t := ⟨_, rfl⟩
  have hb : -m < t ∧ t < m := by
    have e1 := Int.natAbs_tmod n m
    have e2 := Nat.mod_lt n.natAbs (show m.natAbs > 0 by omega)
    omega
  have e3 : t = n % m ∨ t = n % m - m := by
    rw [← ht, Int.tmod_eq_emod]
    split
    · left; omega
    · right; rw [Int.natAbs_of_nonneg (by omega)]
  have hpos : 0 ≤ n % m := Int.emod_nonneg _ hm
  have hlt : n % m < m := Int.emod_lt_of_pos _ (by omega)
  have hsum : (t + m).tmod m = n % m := by
    rw [Int.tmod_eq_emod_of_nonneg (by omega)]
    rcases e3 with e | e
    · rw [e, Int.add_emod_right, Int.emod_emod_of_dvd _ (Int.dvd_refl _)]
    · rw [e, show n % m - m + m = n % m by omega, Int.emod_emod_of_dvd _ (Int.dvd_refl _)]
  obtain ⟨q, hq⟩ : ∃ q, n % m = q := ⟨_, rfl⟩
  rw [hq] at hsum e3 hpos hlt ⊢
  have w1 : IntKind.i64.wrap (n.tmod m) = t := by rw [ht]; exact IntWalk.i64_in _ (by omega)
  have w2 : IntKind.i64.wrap ((t + m).tmod m) = q := by rw [hsum]; exact IntWalk.i64_in _ (by omega)
  clear e3 hq
  go_wp2_with fail
  go_ret
  exact ⟨rfl, rfl⟩


set_option maxRecDepth 100000 in
set_option maxHeartbeats 2000000 in
theorem next_r (bd : Nat) (ao : Option Addr) (len cap at_ : Nat) (hlen : len ≤ 9223372036854775807) (B : Nat) (hBd : B ≤ bd) (n : Int) (h1 : 1 ≤ n) (h2 : n ≤ 1099511627776) (w : World) (hd : Var w bd [.slice ao len cap, .int .i64 (at_ : Int)]) (hl : Lst w ao len B) :
    Calls Try.prog 44 #[.pointer (some ⟨bd, 0, none⟩), .int .i64 n] w fun e w' => ∃ (r : Int) (at' : Nat), e = .returned (.int .i64 r) ∧ 0 ≤ r ∧ r < n ∧ Var w' bd [.slice ao len cap, .int .i64 (at' : Int)] ∧ Keep [bd] w w' := by
  go_enter Try.func44, Try.ntmps44
  have c0 := hd.at 0 rfl
  have c1 := hd.at 1 rfl
  by_cases hlt : at_ < len
  · obtain ⟨bs, off, x, rfl, hbs, hx⟩ := hl at_ hlt
    have hlt2 : ¬ (len : Int) ≤ (at_ : Int) := by omega
    have HM := hideV (mod_r x n h1 h2)
    have hp : Hid (0 ≤ x % n ∧ x % n < n) := ⟨Int.emod_nonneg _ (by omega), Int.emod_lt_of_pos _ (by omega)⟩
    have z1 := hd.fr 1 (by simp)
    have H12 := hideV (And.intro h1 h2)
    clear h1 h2
    go_wp2_with fail
    go_quiet (fail)
    go_wp2_with fail
    have hd0 := hd.below (belowN (Below.refl w.heap.size w) nq)
    have hx0 : (w.drewN nq).cell? ⟨bs, off + at_, none⟩ = some (.int .i64 x) := hx
    have K0 : Keep [bd] w (w.drewN nq) := (Keep.refl _ _).then (belowN (Below.refl _ _) nq)
    obtain ⟨V0, hV0⟩ : ∃ V, w.drewN nq = V := ⟨_, rfl⟩
    rw [hV0] at hd0 hx0 K0 ⊢
    clear hV0 c0 c1 z1 hx
    have c0 := hd0.at 0 rfl
    have c1 := hd0.at 1 rfl
    have z1 := hd0.fr 1 (by simp)
    have hd1 : Var (V0.setCell ⟨bd, 1, none⟩ (.int .i64 ((at_ : Int) + 1))) bd [.slice (some ⟨bs, off, none⟩) len cap, .int .i64 ((at_ : Int) + 1)] :=
      ⟨by rw [World.size_setCell]; exact hd0.1, ⟨(cell_setCell_ne _ _ _ _ (fun e => by have := congrArg Addr.off e; simp at this) rfl rfl).trans c0, (World.frozen?_setCell _ _ _ _).trans (hd0.fr 0 (by simp))⟩, ⟨World.cell?_setCell_same' _ _ _ (by rw [c1]; rfl), (World.frozen?_setCell _ _ _ _).trans z1⟩, trivial⟩
    have hx1 : (V0.setCell ⟨bd, 1, none⟩ (.int .i64 ((at_ : Int) + 1))).cell? ⟨bs, off + at_, none⟩ = some (.int .i64 x) := (cell_setCell_ne _ _ _ _ (fun e => by have := congrArg Addr.block e; simp at this; omega) rfl rfl).trans hx0
    have K1 := K0.set (b := bd) (by simp) 1 (.int .i64 ((at_ : Int) + 1))
    obtain ⟨V1, hV1⟩ : ∃ V, V0.setCell ⟨bd, 1, none⟩ (.int .i64 ((at_ : Int) + 1)) = V := ⟨_, rfl⟩
    rw [hV1] at hd1 hx1 K1
    try rw [hV1]
    clear hV1 c0 c1 z1 hd0 hx0 K0
    have c0 := hd1.at 0 rfl
    have c1 := hd1.at 1 rfl
    have hlt3 : (at_ : Int) < (len : Int) := by omega
    go_quiet ((go_at_call 49; exact Calls.quiet_of_same (HM.out _)))
    go_wp2_with fail
    go_ret
    exact ⟨x % n, at_ + 1, rfl, hp.out.1, hp.out.2, hd1.below (belowN (Below.refl _ _) _), K1.then (belowN (Below.refl _ _) _)⟩
  · have hlt2 : (len : Int) ≤ (at_ : Int) := by omega
    go_wp2_with fail
    go_quiet (fail)
    go_wp2_with fail
    go_ret
    exact ⟨0, at_, rfl, by omega, by omega, hd.below (belowN (Below.refl _ _) nq), (Keep.refl _ _).then (belowN (Below.refl _ _) nq)⟩


set_option maxRecDepth 100000 in
set_option maxHeartbeats 2000000 in
theorem vec_r (bd : Nat) (ao : Option Addr) (len cap at_ : Nat) (hlen : len ≤ 9223372036854775807) (B : Nat) (hBd : B ≤ bd) (m : Int) (h1 : 1 ≤ m) (h2 : m ≤ 1000) (w : World) (hd : Var w bd [.slice ao len cap, .int .i64 (at_ : Int)]) (hl : Lst w ao len B) :
    Calls Try.prog 43 #[.pointer (some ⟨bd, 0, none⟩), .int .i64 m] w fun e w' => ∃ (x y z : Int) (at' : Nat), e = .returned (V x y z) ∧ ((-m ≤ x ∧ x ≤ m) ∧ (-m ≤ y ∧ y ≤ m) ∧ (-m ≤ z ∧ z ≤ m)) ∧ Var w' bd [.slice ao len cap, .int .i64 (at' : Int)] ∧ Keep [bd] w w' := by
  go_enter Try.func43, Try.ntmps43
  go_wp2_with fail
  have hs0 : Below w.heap.size w (w.alloc (.cells #[.int .i64 0, .int .i64 0, .int .i64 0] 23)) := belowA _ _
  have r := Var.new w [.int .i64 0, .int .i64 0, .int .i64 0] 23
  have hne : w.heap.size ≠ bd := by have := hd.1; omega
  have hBw : B ≤ w.heap.size := by have := hd.1; omega
  obtain ⟨V0, hV0⟩ : ∃ V, w.alloc (.cells #[.int .i64 0, .int .i64 0, .int .i64 0] 23) = V := ⟨_, rfl⟩
  replace r : Var (w.alloc (.cells #[.int .i64 0, .int .i64 0, .int .i64 0] 23)) w.heap.size [.int .i64 0, .int .i64 0, .int .i64 0] := r
  rw [hV0] at r hs0
  try rw [hV0]
  clear hV0
  have hd := hd.below hs0
  have hl := hl.low (hs0.mono hBw)
  have K : Keep [bd] w V0 := (Keep.refl _ _).then hs0
  have hle := Nat.le_refl w.heap.size
  obtain ⟨br, hbr⟩ : ∃ b, w.heap.size = b := ⟨_, rfl⟩
  have hle : w.heap.size ≤ br := by omega
  rw [hbr] at r hne
  try rw [hbr]
  clear hbr hs0 hBw
  go_wp2_with fail
  refine (next_r bd ao len cap at_ hlen B hBd (2 * m + 1) (by omega) (by omega) V0 hd hl).mono ?_
  rintro e V1 ⟨x, a1, rfl, x1, x2, hd, K1⟩
  have hl := hl.keep K1 hBd
  have r := K1.var r (by simp; exact hne)
  have K := K.trans K1
  clear K1
  go_wp2_with fail
  refine (next_r bd ao len cap a1 hlen B hBd (2 * m + 1) (by omega) (by omega) V1 hd hl).mono ?_
  rintro e V2 ⟨y, a2, rfl, y1, y2, hd, K1⟩
  have hl := hl.keep K1 hBd
  have r := K1.var r (by simp; exact hne)
  have K := K.trans K1
  clear K1
  go_wp2_with fail
  refine (next_r bd ao len cap a2 hlen B hBd (2 * m + 1) (by omega) (by omega) V2 hd hl).mono ?_
  rintro e V3 ⟨z, a3, rfl, z1, z2, hd, K1⟩
  have hl := hl.keep K1 hBd
  have r := K1.var r (by simp; exact hne)
  have K := K.trans K1
  clear K1
  have c0 := r.at 0 rfl
  have c1 := r.at 1 rfl
  have c2 := r.at 2 rfl
  have z0 := r.fr 0 (by simp)
  have z1' := r.fr 1 (by simp)
  have z2' := r.fr 2 (by simp)
  go_wp2_with fail
  exact bodyPost_ret (v := .agg #[.int .i64 (x - m), .int .i64 (y - m), .int .i64 (z - m)]) (by simp [results, Try.results43, go_sem, c0, c1, c2]) rfl
    ⟨x - m, y - m, z - m, a3, rfl, ⟨⟨by omega, by omega⟩, ⟨by omega, by omega⟩, by omega, by omega⟩, ((hd.setOther (Ne.symm hne) 0 _).setOther (Ne.symm hne) 1 _).setOther (Ne.symm hne) 2 _, ((K.setNew hle 0 _).setNew hle 1 _).setNew hle 2 _⟩

end Go.Proofs.Ytblnpelbklfloaa
