/- the law NumDigits: it is true. -/
import Derived.Test.YtmpdeiopdempcaaGreatDoorTxD
import Derived.Test.YtmpdeiopdempcaaGreatDoorFan
import Derived.Test.YtmpdeiopdempcaaGreatDoorSanity
import Derived.Test.YtmpdeiopdempcaaGreatDoorRingM
import Derived.Laws.IdiomStrings
import Derived.Test.YtmpdeiopdempcaaGreatDoorRaise
namespace Go.Proofs.YtmpdeiopdempcaaGreatDoor
open Go.RowKit Go.Shelf

/-- what the region leaves of one variable -/
theorem Fan.held4 {K : Nat} {w0 w : World} {U V : Nat → Value} {B : Nat → Nat} {s : Nat → Bool} {a : Nat → Option Addr} {n c : Nat → Nat} {z : Nat → Int} (h : Fan K w0 (fun _ => true) (fun _ => true) (fun _ => true) U V B s a n c z w) {k : Nat} (hk : k < K) :
    ∃ (b : Nat) (s' : Bool) (a' : Option Addr) (n' c' : Nat) (z' : Int), U k = .pointer (some ⟨b, 0, none⟩) ∧ Held w b s' a' n' c' z' ∧ n' ≤ 6 ∧ w0.heap.size ≤ b :=
  ⟨B k, s k, a k, n k, c k, z k, (h.var k hk rfl).1, ⟨h.box1 k hk rfl rfl, (h.num k hk rfl).2.1⟩, (h.num k hk rfl).2.2.1, (h.var k hk rfl).2⟩

theorem mk_app (a b : List UInt8) : ((⟨a.toArray⟩ : ByteArray) ++ ⟨b.toArray⟩) = ⟨(a ++ b).toArray⟩ := by
  apply ByteArray.ext
  simp
theorem txtZ_len {z : Int} (h : dlen z.natAbs ≤ 64) : (txtZ z).length ≤ 641 := by
  have := nd_fit h
  unfold txtZ
  split
  · rw [List.length_cons, Lib.decDigits_length]; omega
  · rw [Lib.decDigits_length]; omega
theorem conv_dig {dd : Nat} {cd : UInt8} (h : dd ≤ 9) (hcd : UInt8.ofNat (48 + dd) = cd) {W : World} {B : Nat} (hc : W.cell? ⟨B, 0, none⟩ = some (.int .u8 (48 + (dd : Int)))) :
    (convert 50 9 (.slice (some ⟨B, 0, none⟩) 1 1)).run Tryz.prog W = .ok (.string ⟨#[cd]⟩) W := by
  subst hcd
  refine run_convert_bytes_back (P := Tryz.prog) W 50 9 5 ⟨B, 0, none⟩ 1 [UInt8.ofNat (48 + dd)] Tryz.underlying50 Tryz.underlying5 Tryz.underlying9 (fun j hj => ?_)
  obtain rfl : j = 0 := by simpa using hj
  show W.cell? ⟨B, 0, none⟩ = some (.int .u8 (((UInt8.ofNat (48 + dd)).toNat : Nat) : Int))
  rw [hc, toNat_dig (by omega)]
  simp
theorem want_cases {n u dd : Nat} (h0 : n = 0 ↔ u = 0) (hd : dd ≤ 9) :
    (n ≠ 0 ∧ txtZ (u : Int) ++ [UInt8.ofNat (48 + dd)] = txtZ ((u : Int) * 10 + (dd : Int))) ∨ (n = 0 ∧ txtZ (u : Int) ++ [UInt8.ofNat (48 + dd)] = [48, UInt8.ofNat (48 + dd)] ∧ txtZ ((u : Int) * 10 + (dd : Int)) = [UInt8.ofNat (48 + dd)]) := by
  have hz : txtZ ((u : Int) * 10 + (dd : Int)) = Lib.decDigits (u * 10 + dd) := by
    rw [txtZ_nonneg (by omega)]; congr 1 <;> omega
  have hu : txtZ (u : Int) = Lib.decDigits u := by rw [txtZ_nonneg (by omega), Int.natAbs_natCast]
  rw [hz, hu]
  by_cases hn : n = 0
  · refine .inr ⟨hn, ?_, ?_⟩
    · rw [h0.1 hn, dec_small (by decide), List.singleton_append]; rfl
    · rw [h0.1 hn, Nat.zero_mul, Nat.zero_add, dec_small (by omega)]
  · have hu0 : u ≠ 0 := fun e => hn (h0.2 e)
    refine .inl ⟨hn, ?_⟩
    rw [dec_big (u := u * 10 + dd) (by omega), show (u * 10 + dd) / 10 = u by omega, show (u * 10 + dd) % 10 = dd by omega]
/-- two operations may come up -/
theorem wpAnyH_two {P : Program} {md : Region.Mode} {ops : Array Oper} {Q : Exit → Act → World → Prop} {S : World → Prop} {fuel : Nat} {l : Array Bool} {a : Act} {w : World} (i j : Nat) (hr : Region.ready md ops l = [i, j])
    (h : wpOp P ops Q i (fun a' w' => S w' ∧ wpAnyH P md ops Q S fuel (l.setIfInBounds i true) a' w') a w) (h' : wpOp P ops Q j (fun a' w' => S w' ∧ wpAnyH P md ops Q S fuel (l.setIfInBounds j true) a' w') a w) : wpAnyH P md ops Q S (fuel + 1) l a w := by
  refine ⟨fun h0 => ?_, fun k hk => ?_⟩
  · rw [hr] at h0; cases h0
  · rw [hr] at hk
    rcases List.mem_cons.1 hk with rfl | hk
    · exact h
    · obtain rfl : k = j := by simpa using hk
      exact h'
theorem small_num {z : Int} (h : z.natAbs < 18446744073709551616) : dlen z.natAbs ≤ 64 := Nat.le_trans (dlen_le_two h) (by decide)

set_option maxRecDepth 100000 in
set_option maxHeartbeats 16000000 in
theorem digits_true (x0 x1 : Option Addr) (L0 L1 d0 d1 : Nat) (g0 g1 : Nat → Int) (hL0 : L0 ≤ 9223372036854775807) (hL1 : L1 ≤ 9223372036854775807) (lo : Int) (hlo0 : 0 ≤ lo) (hlo1 : lo ≤ 255) (w : World) (ht : Pow10 w) (h0 : Ints w x0 L0 g0) (h1 : Ints w x1 L1 g1) :
    Calls Tryz.prog 8 #[.agg #[.slice x0 L0 d0, .slice x1 L1 d1], .int .u8 lo] w fun e w' => e = .returned (.bool true) ∧ Below w.heap.size w w' := by
  have hk : ∃ dd : Nat, lo % 10 = (dd : Int) ∧ dd ≤ 9 := ⟨(lo % 10).toNat, by omega, by omega⟩
  obtain ⟨dd, hdd, hd9⟩ := hk
  have HK := hide hdd
  clear hdd
  have hB : Below w.heap.size w (w.alloc (Obj.cells #[.slice x0 L0 d0, .slice x1 L1 d1] 23)) := below_alloc' _ _
  have p0 : (w.alloc (Obj.cells #[.slice x0 L0 d0, .slice x1 L1 d1] 23)).cell? ⟨w.heap.size, 0, none⟩ = some (.slice x0 L0 d0) := by simp [go_sem]
  have p1 : (w.alloc (Obj.cells #[.slice x0 L0 d0, .slice x1 L1 d1] 23)).cell? ⟨w.heap.size, 1, none⟩ = some (.slice x1 L1 d1) := by simp [go_sem]
  go_enter Tryz.func8, Tryz.ntmps8
  go_wp2_with fail
  obtain ⟨W0, hW0⟩ : ∃ W0, w.alloc (Obj.cells #[.slice x0 L0 d0, .slice x1 L1 d1] 23) = W0 := ⟨_, rfl⟩
  rw [hW0] at hB p0 p1 ⊢
  clear hW0
  refine (sanity_true W0 (ht.below hB)).mono ?_
  rintro e w1 ⟨rfl, hkeep⟩
  have hB1 := hB.trans (hkeep.mono hB.size)
  have p0 := (hkeep.cell (p := ⟨w.heap.size, 0, none⟩) (lt_of_cell p0)).trans p0
  have p1 := (hkeep.cell (p := ⟨w.heap.size, 1, none⟩) (lt_of_cell p1)).trans p1
  clear hB hkeep
  go_wp2_with fail
  have hB2 : Below w.heap.size w w1.drew := hB1.drew
  have p0 : w1.drew.cell? ⟨w.heap.size, 0, none⟩ = some (.slice x0 L0 d0) := p0
  have p1 : w1.drew.cell? ⟨w.heap.size, 1, none⟩ = some (.slice x1 L1 d1) := p1
  have l0 := h0.below (hB2.mono (Nat.le_refl _))
  have l1 := h1.below (hB2.mono (Nat.le_refl _))
  refine wp_region_held_drew (S := fun w' => Below w1.drew.heap.size w1.drew w') (by kernel_rfl) (Below.refl _ _) (fun hHeld => ?_)
  obtain ⟨WD, hWD⟩ : ∃ WD, w1.drew = WD := ⟨_, rfl⟩
  rw [hWD] at hB2 p0 p1 l0 l1 hHeld ⊢
  clear hWD hB1
  have hlt := lt_of_cell p0
  refine take_at (i := 0) (v := .pointer (some ⟨w.heap.size, 0, none⟩)) 21 rfl rfl (by kernel_rfl) (by kernel_rfl) (by kernel_rfl) (fun _ _ _ h => h) (Or.inl ⟨by rfl, fun w' hSw => by go_simp⟩) (by assumption) ?_
  simp only [Act.put, List.setIfInBounds_toArray, List.set_cons_zero, List.set_cons_succ]
  refine take_at (i := 1) (v := .slice x0 L0 d0) 22 rfl rfl (by kernel_rfl) (by kernel_rfl) (by kernel_rfl) (fun _ _ _ h => h) (Or.inl ⟨by rfl, fun w' hSw => by have q := (hSw.cell (p := ⟨w.heap.size, 0, none⟩) hlt).trans p0; go_simp⟩) (by assumption) ?_
  simp only [Act.put, List.setIfInBounds_toArray, List.set_cons_zero, List.set_cons_succ]
  refine take_at (i := 3) (v := .pointer (some ⟨w.heap.size, 1, none⟩)) 24 rfl rfl (by kernel_rfl) (by kernel_rfl) (by kernel_rfl) (fun _ _ _ h => h) (Or.inl ⟨by rfl, fun w' hSw => by go_simp⟩) (by assumption) ?_
  simp only [Act.put, List.setIfInBounds_toArray, List.set_cons_zero, List.set_cons_succ]
  refine take_at (i := 4) (v := .slice x1 L1 d1) 25 rfl rfl (by kernel_rfl) (by kernel_rfl) (by kernel_rfl) (fun _ _ _ h => h) (Or.inl ⟨by rfl, fun w' hSw => by have q := (hSw.cell (p := ⟨w.heap.size, 1, none⟩) hlt).trans p1; go_simp⟩) (by assumption) ?_
  simp only [Act.put, List.setIfInBounds_toArray, List.set_cons_zero, List.set_cons_succ]
  refine fan 2 27 (fun U V => ⟨#[.agg #[.slice x0 L0 d0, .slice x1 L1 d1], .int .u8 lo, .pointer (some ⟨w.heap.size, 0, none⟩), undef, .bool false, .bool true, U 0, U 1, undef, undef, undef, undef, undef, undef, undef, undef, undef, undef, undef, undef, .bool true, .pointer (some ⟨w.heap.size, 0, none⟩), .slice x0 L0 d0, V 0, .pointer (some ⟨w.heap.size, 1, none⟩), .slice x1 L1 d1, V 1, undef, undef, undef, undef, undef, undef, undef, undef, undef, undef, undef, undef, undef, undef, undef, undef, undef, undef, undef, undef, undef, undef, undef, undef, undef, undef, undef, undef, undef, undef, undef, undef, undef, undef, undef, undef, undef, undef, undef, undef, undef, undef, undef, undef, undef, undef, undef, undef, undef, undef, undef, undef, undef, undef, undef, undef, undef, undef, undef, undef, undef, undef, undef, undef, undef, undef, undef, undef, undef, undef, undef, undef, undef, undef, undef, undef, undef, undef, undef, undef, undef, undef, undef, undef, undef, undef, undef, undef, undef, undef, undef, undef, undef, undef, undef, undef, undef, undef, undef, undef, undef, undef, undef, undef, undef, undef, undef, undef, undef, undef, undef, undef, undef, undef, undef, undef, undef, undef, undef, undef, undef, undef, undef, undef], []⟩) WD (by kernel_rfl) (topo_of (by kernel_rfl)) (dep_of (by kernel_rfl)) ?hal ?hcl ?hst ?hend (fun _ => undef) (fun _ => undef) _ _ (by kernel_rfl) (of_decide_eq_true (by kernel_rfl)) (of_decide_eq_true (by kernel_rfl)) (of_decide_eq_true (by kernel_rfl))
  case hal =>
    intro k U V w' H hk h
    match k, hk with
    | 0, _ =>
      refine wpOp_run (i := 6) rfl ?_
      go_simp
      exact h
    | 1, _ =>
      refine wpOp_run (i := 7) rfl ?_
      go_simp
      exact h
  case hcl =>
    intro k U V w' H hk hb h
    match k, hk with
    | 0, _ =>
      refine wpOp_call (i := 2) (f := 10) (args := #[.slice x0 L0 d0]) 23 rfl rfl (by rfl) (by go_simp) ?_
      refine (made_any x0 L0 d0 g0 hL0 w' (l0.below hb)).mono ?_
      rintro e w2 ⟨z, s, a, n, c, rfl, hN, h6, hf, hg⟩
      exact ⟨_, rfl, h z s a n c w2 hN h6 hf hg⟩
    | 1, _ =>
      refine wpOp_call (i := 5) (f := 10) (args := #[.slice x1 L1 d1]) 26 rfl rfl (by rfl) (by go_simp) ?_
      refine (made_any x1 L1 d1 g1 hL1 w' (l1.below hb)).mono ?_
      rintro e w2 ⟨z, s, a, n, c, rfl, hN, h6, hf, hg⟩
      exact ⟨_, rfl, h z s a n c w2 hN h6 hf hg⟩
  case hst =>
    intro k U V w' H B s a n c hk hU hV hbox h
    obtain ⟨v0, v1, hbox⟩ := hbox
    obtain ⟨q0, q1, z0, z1⟩ := hbox
    match k, hk with
    | 0, _ =>
      refine wpOp_run (i := 8) rfl ?_
      simp only [hU, hV] at h ⊢
      go_simp
      exact h
    | 1, _ =>
      refine wpOp_run (i := 9) rfl ?_
      simp only [hU, hV] at h ⊢
      go_simp
      exact h
  case hend =>
    intro U V fB fs fa fn fc fz w3 hF
    obtain ⟨B6, s6, a6, n6, c6, A, hU0, H6, m6, b6⟩ := hF.held4 (k := 0) (by decide)
    obtain ⟨B7, s7, a7, n7, c7, B, hU1, H7, m7, b7⟩ := hF.held4 (k := 1) (by decide)
    have hB := hB2.trans (hF.below.mono hB2.size)
    clear hF
    obtain ⟨v23, hv23⟩ : ∃ v, V 0 = v := ⟨_, rfl⟩
    obtain ⟨v26, hv26⟩ : ∃ v, V 1 = v := ⟨_, rfl⟩
    rw [hU0, hU1, hv23, hv26]
    clear hU0 hU1 hv23 hv26 p0 p1 l0 l1 b6 b7 hHeld hB2 hlt U V fB fs fa fn fc fz
    obtain ⟨u, hu⟩ : ∃ u, A.natAbs = u := ⟨_, rfl⟩
    obtain ⟨v, hv⟩ : ∃ v, B.natAbs = v := ⟨_, rfl⟩
    have qA : u < bp 6 := by rw [← hu]; exact num_lt H6.num m6
    have k6 : n6 ≤ 64 := by omega
    have k7 : n7 ≤ 64 := by omega
    have HU := hide hu
    have HV := hide hv
    obtain ⟨x6, y6, -, -⟩ := H6.box
    go_wp2_with fail
    clear x6 y6
    rw [HK.out]
    have N := abs_num H6.num
    rw [hu] at N
    have H9 := Held.new c6 N 27
    clear N
    have hkeep := below_alloc' w3 (Obj.cells #[.bool false, .slice a6 n6 c6] 27)
    obtain ⟨W9, hW9⟩ : ∃ W, w3.alloc (Obj.cells #[.bool false, .slice a6 n6 c6] 27) = W := ⟨_, rfl⟩
    obtain ⟨B9, hB9⟩ : ∃ B, w3.heap.size = B := ⟨_, rfl⟩
    have hB := hB.trans (hkeep.mono hB.size)
    rw [hW9] at hkeep H9 hB ⊢
    have H6 := H6.below hkeep
    have H7 := H7.below hkeep
    rw [hB9] at H9 ⊢
    clear hkeep hW9 hB9 hu hv
    have F10 := fit_of (mul_lt (x := (u : Int)) (y := 10) (i := 6) (j := 1) (by rw [Int.natAbs_natCast]; exact qA) (by rw [bp_one]; decide)) (by decide)
    obtain ⟨RR, hRR⟩ : ∃ RR : Act → World → Prop, RR = (fun x w' => ∃ (Bv : Nat) (sv : Bool) (av : Option Addr) (nv cv : Nat) (y33 y34 y35 y36 y37 y38 : Value), x = ⟨#[.agg #[.slice x0 L0 d0, .slice x1 L1 d1], .int .u8 lo, .pointer (some ⟨w.heap.size, 0, none⟩), undef, .bool false, .bool true, .pointer (some ⟨B6, 0, none⟩), .pointer (some ⟨B7, 0, none⟩), .int .i64 (dd : Int), .pointer (some ⟨B9, 0, none⟩), .pointer (some ⟨Bv, 0, none⟩), .bool true, undef, undef, undef, undef, undef, undef, undef, undef, .bool true, .pointer (some ⟨w.heap.size, 0, none⟩), .slice x0 L0 d0, v23, .pointer (some ⟨w.heap.size, 1, none⟩), .slice x1 L1 d1, v26, .int .u8 lo, .int .i64 lo, .int .i64 (dd : Int), .pointer (some ⟨B6, 1, none⟩), .slice a6 n6 c6, .agg #[.bool false, .slice a6 n6 c6], y33, y34, y35, y36, y37, y38, undef, undef, undef, undef, undef, undef, undef, undef, undef, undef, undef, undef, undef, undef, undef, undef, undef, undef, undef, undef, undef, undef, undef, undef, undef, undef, undef, undef, undef, undef, undef, undef, undef, undef, undef, undef, undef, undef, undef, undef, undef, undef, undef, undef, undef, undef, undef, undef, undef, undef, undef, undef, undef, undef, undef, undef, undef, undef, undef, undef, undef, undef, undef, undef, undef, undef, undef, undef, undef, undef, undef, undef, undef, undef, undef, undef, undef, undef, undef, undef, undef, undef, undef, undef, undef, undef, undef, undef, undef, undef, undef, undef, undef, undef, undef, undef, undef, undef, undef, undef, undef, undef, undef, undef, undef, undef, undef, undef, undef, undef, undef, undef], []⟩ ∧ Held w' Bv sv av nv cv ((u : Int) * 10) ∧ nv ≤ 64 ∧ Below W9.drew.heap.size W9.drew w') := ⟨_, rfl⟩
    have HRR := hide hRR
    clear hRR
    refine Code.wp_mono (Q := fun e x w' => e = Exit.normal ∧ RR x w') ?imp ?reg
    case reg =>
      have hP0 : Held W9.drew B9 false a6 n6 c6 (u : Int) := H9.below (Below.drew (Below.refl _ _))
      refine wp_region_held_drew (S := fun w' => Below W9.drew.heap.size W9.drew w') (by kernel_rfl) (Below.refl _ _) (fun hHeld => ?_)
      obtain ⟨WE, hWE⟩ : ∃ WE, W9.drew = WE := ⟨_, rfl⟩
      rw [hWE] at hP0 hHeld HRR ⊢
      clear hWE
      obtain ⟨px, py, -, -⟩ := hP0.box
      have hlt := lt_of_cell px
      refine take_at (i := 0) (v := .agg #[.bool false, .slice a6 n6 c6]) 34 rfl rfl (by kernel_rfl) (by kernel_rfl) (by kernel_rfl) (fun _ _ _ h => by cases h.1) (Or.inl ⟨by rfl, fun w' hSw => by have qa := (hSw.cell (p := ⟨B9, 0, none⟩) hlt).trans px; have qb := (hSw.cell (p := ⟨B9, 1, none⟩) hlt).trans py; go_simp⟩) (by assumption) ?_
      simp only [Act.put, List.setIfInBounds_toArray, List.set_cons_zero, List.set_cons_succ]
      refine wpAnyH_two 1 6 (by kernel_rfl) ?_ ?_
      · refine wpOp_call (i := 1) (f := 28) (args := #[.int .i64 10]) 35 rfl rfl (by rfl) (by go_simp) ?_
        refine (of_any 10 (by decide) (by decide) _).mono ?_
        rintro e wo ⟨so, ao, no, co, rfl, No, ko⟩
        have hbo : Below WE.heap.size WE wo := hHeld.trans (ko.mono hHeld.size)
        have kno : no ≤ 64 := by rw [No.dig.len]; exact small_num (by omega)
        refine ⟨_, rfl, hbo, ?_⟩
        simp only [Act.put, List.setIfInBounds_toArray, List.set_cons_zero, List.set_cons_succ]
        refine wpAnyH_two 2 6 (by kernel_rfl) ?_ ?_
        · refine wpOp_call (i := 2) (f := 24) (args := #[.agg #[.bool false, .slice a6 n6 c6], .agg #[.bool so, .slice ao no co]]) 36 rfl rfl (by rfl) (by go_simp) ?_
          refine (mul_any false so a6 ao n6 no c6 co ((u : Int)) (10) k6 kno _ (hP0.below hbo).num No F10).mono ?_
          rintro e wm ⟨sv, av, nv, cv, rfl, Nm, hfm, km⟩
          have hbm : Below WE.heap.size WE wm := hbo.trans (km.mono hbo.size)
          have knv : nv ≤ 64 := by rw [Nm.dig.len]; exact F10
          refine ⟨_, rfl, hbm, ?_⟩
          simp only [Act.put, List.setIfInBounds_toArray, List.set_cons_zero, List.set_cons_succ]
          refine take_at (i := 3) (v := .tuple #[.agg #[.bool sv, .slice av nv cv], .bool true]) 33 rfl rfl (by kernel_rfl) (by kernel_rfl) (by kernel_rfl) (fun _ _ _ h => by cases h.1) (Or.inl ⟨by rfl, fun w' hSw => by go_simp⟩) (by assumption) ?_
          simp only [Act.put, List.setIfInBounds_toArray, List.set_cons_zero, List.set_cons_succ]
          refine take_at (i := 4) (v := .agg #[.bool sv, .slice av nv cv]) 37 rfl rfl (by kernel_rfl) (by kernel_rfl) (by kernel_rfl) (fun _ _ _ h => by cases h.1) (Or.inl ⟨by rfl, fun w' hSw => by go_simp⟩) (by assumption) ?_
          simp only [Act.put, List.setIfInBounds_toArray, List.set_cons_zero, List.set_cons_succ]
          refine take_at (i := 5) (v := .bool true) 38 rfl rfl (by kernel_rfl) (by kernel_rfl) (by kernel_rfl) (fun _ _ _ h => by cases h.1) (Or.inl ⟨by rfl, fun w' hSw => by go_simp⟩) (by assumption) ?_
          simp only [Act.put, List.setIfInBounds_toArray, List.set_cons_zero, List.set_cons_succ]
          refine wpAnyH_one 6 (by kernel_rfl) ?_
          have hold := Nm.old (Nat.le_refl _)
          refine wpOp_run (i := 6) rfl ?_
          go_simp
          have bx := Box2.new wm (.bool false) (.slice none 0 0) 27
          have hka := below_alloc' wm (Obj.cells #[Value.bool false, Value.slice none 0 0] 27)
          have hba : Below WE.heap.size WE (wm.alloc (Obj.cells #[Value.bool false, Value.slice none 0 0] 27)) := hbm.trans (hka.mono hbm.size)
          have hsa : (wm.alloc (Obj.cells #[Value.bool false, Value.slice none 0 0] 27)).heap.size = wm.heap.size + 1 := World.size_alloc _ _
          obtain ⟨wa, hwa⟩ : ∃ wa, wm.alloc (Obj.cells #[Value.bool false, Value.slice none 0 0] 27) = wa := ⟨_, rfl⟩
          rw [hwa] at bx hka hba hsa ⊢
          clear hwa
          refine ⟨hba, ?_⟩
          have Nm := Nm.below hka
          have hbx2 := bx.set (.bool sv) (.slice av nv cv)
          have hN2 := Nm.set2 bx (.bool sv) (.slice av nv cv) hold
          have hbf := below_set2 hba (B := wm.heap.size) hbm.size (.bool sv) (.slice av nv cv)
          have HQ := hide (And.intro hbx2 (And.intro hN2 hbf))
          obtain ⟨r0, r1, z0, z1⟩ := bx
          refine wpAnyH_one 7 (by kernel_rfl) ?_
          refine wpOp_run (i := 7) rfl ?_
          go_simp
          refine wpAnyH_one 8 (by kernel_rfl) ?_
          refine wpOp_run (i := 8) rfl ?_
          go_simp
          refine wpAnyH_done (by kernel_rfl) ?_ _
          refine ⟨rfl, ?_⟩
          rw [HRR.out]
          exact ⟨_, sv, av, nv, cv, _, _, _, _, _, _, rfl, ⟨HQ.out.1, HQ.out.2.1⟩, knv, HQ.out.2.2⟩
        · refine wpOp_run (i := 6) rfl ?_
          go_simp
          have bx := Box2.new wo (.bool false) (.slice none 0 0) 27
          have hka := below_alloc' wo (Obj.cells #[Value.bool false, Value.slice none 0 0] 27)
          have hba : Below WE.heap.size WE (wo.alloc (Obj.cells #[Value.bool false, Value.slice none 0 0] 27)) := hbo.trans (hka.mono hbo.size)
          have hsa : (wo.alloc (Obj.cells #[Value.bool false, Value.slice none 0 0] 27)).heap.size = wo.heap.size + 1 := World.size_alloc _ _
          obtain ⟨wa, hwa⟩ : ∃ wa, wo.alloc (Obj.cells #[Value.bool false, Value.slice none 0 0] 27) = wa := ⟨_, rfl⟩
          rw [hwa] at bx hka hba hsa ⊢
          clear hwa
          refine ⟨hba, ?_⟩
          have No := No.below hka
          refine wpAnyH_one 2 (by kernel_rfl) ?_
          refine wpOp_call (i := 2) (f := 24) (args := #[.agg #[.bool false, .slice a6 n6 c6], .agg #[.bool so, .slice ao no co]]) 36 rfl rfl (by rfl) (by go_simp) ?_
          refine (mul_any false so a6 ao n6 no c6 co ((u : Int)) (10) k6 kno _ (hP0.below hba).num No F10).mono ?_
          rintro e wm ⟨sv, av, nv, cv, rfl, Nm, hfm, km⟩
          have hbm : Below WE.heap.size WE wm := hba.trans (km.mono hba.size)
          have knv : nv ≤ 64 := by rw [Nm.dig.len]; exact F10
          refine ⟨_, rfl, hbm, ?_⟩
          simp only [Act.put, List.setIfInBounds_toArray, List.set_cons_zero, List.set_cons_succ]
          refine take_at (i := 3) (v := .tuple #[.agg #[.bool sv, .slice av nv cv], .bool true]) 33 rfl rfl (by kernel_rfl) (by kernel_rfl) (by kernel_rfl) (fun _ _ _ h => by cases h.1) (Or.inl ⟨by rfl, fun w' hSw => by go_simp⟩) (by assumption) ?_
          simp only [Act.put, List.setIfInBounds_toArray, List.set_cons_zero, List.set_cons_succ]
          refine take_at (i := 4) (v := .agg #[.bool sv, .slice av nv cv]) 37 rfl rfl (by kernel_rfl) (by kernel_rfl) (by kernel_rfl) (fun _ _ _ h => by cases h.1) (Or.inl ⟨by rfl, fun w' hSw => by go_simp⟩) (by assumption) ?_
          simp only [Act.put, List.setIfInBounds_toArray, List.set_cons_zero, List.set_cons_succ]
          refine take_at (i := 5) (v := .bool true) 38 rfl rfl (by kernel_rfl) (by kernel_rfl) (by kernel_rfl) (fun _ _ _ h => by cases h.1) (Or.inl ⟨by rfl, fun w' hSw => by go_simp⟩) (by assumption) ?_
          simp only [Act.put, List.setIfInBounds_toArray, List.set_cons_zero, List.set_cons_succ]
          have bx := bx.below km bx.lt
          have hbx2 := bx.set (.bool sv) (.slice av nv cv)
          have hN2 := Nm.set2 bx (.bool sv) (.slice av nv cv) (hfm.imp id fun h ad e => by have := h ad e; omega)
          have hbf := below_set2 hbm (B := wo.heap.size) hbo.size (.bool sv) (.slice av nv cv)
          have HQ := hide (And.intro hbx2 (And.intro hN2 hbf))
          obtain ⟨r0, r1, z0, z1⟩ := bx
          refine wpAnyH_one 7 (by kernel_rfl) ?_
          refine wpOp_run (i := 7) rfl ?_
          go_simp
          refine wpAnyH_one 8 (by kernel_rfl) ?_
          refine wpOp_run (i := 8) rfl ?_
          go_simp
          refine wpAnyH_done (by kernel_rfl) ?_ _
          refine ⟨rfl, ?_⟩
          rw [HRR.out]
          exact ⟨_, sv, av, nv, cv, _, _, _, _, _, _, rfl, ⟨HQ.out.1, HQ.out.2.1⟩, knv, HQ.out.2.2⟩
      · refine wpOp_run (i := 6) rfl ?_
        go_simp
        have bx := Box2.new WE (.bool false) (.slice none 0 0) 27
        have hka := below_alloc' WE (Obj.cells #[Value.bool false, Value.slice none 0 0] 27)
        have hba : Below WE.heap.size WE (WE.alloc (Obj.cells #[Value.bool false, Value.slice none 0 0] 27)) := hHeld.trans (hka.mono hHeld.size)
        have hsa : (WE.alloc (Obj.cells #[Value.bool false, Value.slice none 0 0] 27)).heap.size = WE.heap.size + 1 := World.size_alloc _ _
        obtain ⟨wa, hwa⟩ : ∃ wa, WE.alloc (Obj.cells #[Value.bool false, Value.slice none 0 0] 27) = wa := ⟨_, rfl⟩
        rw [hwa] at bx hka hba hsa ⊢
        clear hwa
        refine ⟨hba, ?_⟩
        refine wpAnyH_one 1 (by kernel_rfl) ?_
        refine wpOp_call (i := 1) (f := 28) (args := #[.int .i64 10]) 35 rfl rfl (by rfl) (by go_simp) ?_
        refine (of_any 10 (by decide) (by decide) _).mono ?_
        rintro e wo ⟨so, ao, no, co, rfl, No, ko⟩
        have hbo : Below WE.heap.size WE wo := hba.trans (ko.mono hba.size)
        have kno : no ≤ 64 := by rw [No.dig.len]; exact small_num (by omega)
        refine ⟨_, rfl, hbo, ?_⟩
        simp only [Act.put, List.setIfInBounds_toArray, List.set_cons_zero, List.set_cons_succ]
        have bx := bx.below ko bx.lt
        have hso := ko.size
        refine wpAnyH_one 2 (by kernel_rfl) ?_
        refine wpOp_call (i := 2) (f := 24) (args := #[.agg #[.bool false, .slice a6 n6 c6], .agg #[.bool so, .slice ao no co]]) 36 rfl rfl (by rfl) (by go_simp) ?_
        refine (mul_any false so a6 ao n6 no c6 co ((u : Int)) (10) k6 kno _ (hP0.below hbo).num No F10).mono ?_
        rintro e wm ⟨sv, av, nv, cv, rfl, Nm, hfm, km⟩
        have hbm : Below WE.heap.size WE wm := hbo.trans (km.mono hbo.size)
        have knv : nv ≤ 64 := by rw [Nm.dig.len]; exact F10
        refine ⟨_, rfl, hbm, ?_⟩
        simp only [Act.put, List.setIfInBounds_toArray, List.set_cons_zero, List.set_cons_succ]
        refine take_at (i := 3) (v := .tuple #[.agg #[.bool sv, .slice av nv cv], .bool true]) 33 rfl rfl (by kernel_rfl) (by kernel_rfl) (by kernel_rfl) (fun _ _ _ h => by cases h.1) (Or.inl ⟨by rfl, fun w' hSw => by go_simp⟩) (by assumption) ?_
        simp only [Act.put, List.setIfInBounds_toArray, List.set_cons_zero, List.set_cons_succ]
        refine take_at (i := 4) (v := .agg #[.bool sv, .slice av nv cv]) 37 rfl rfl (by kernel_rfl) (by kernel_rfl) (by kernel_rfl) (fun _ _ _ h => by cases h.1) (Or.inl ⟨by rfl, fun w' hSw => by go_simp⟩) (by assumption) ?_
        simp only [Act.put, List.setIfInBounds_toArray, List.set_cons_zero, List.set_cons_succ]
        refine take_at (i := 5) (v := .bool true) 38 rfl rfl (by kernel_rfl) (by kernel_rfl) (by kernel_rfl) (fun _ _ _ h => by cases h.1) (Or.inl ⟨by rfl, fun w' hSw => by go_simp⟩) (by assumption) ?_
        simp only [Act.put, List.setIfInBounds_toArray, List.set_cons_zero, List.set_cons_succ]
        have bx := bx.below km bx.lt
        have hbx2 := bx.set (.bool sv) (.slice av nv cv)
        have hN2 := Nm.set2 bx (.bool sv) (.slice av nv cv) (hfm.imp id fun h ad e => by have := h ad e; omega)
        have hbf := below_set2 hbm (B := WE.heap.size) (Nat.le_refl _) (.bool sv) (.slice av nv cv)
        have HQ := hide (And.intro hbx2 (And.intro hN2 hbf))
        obtain ⟨r0, r1, z0, z1⟩ := bx
        refine wpAnyH_one 7 (by kernel_rfl) ?_
        refine wpOp_run (i := 7) rfl ?_
        go_simp
        refine wpAnyH_one 8 (by kernel_rfl) ?_
        refine wpOp_run (i := 8) rfl ?_
        go_simp
        refine wpAnyH_done (by kernel_rfl) ?_ _
        refine ⟨rfl, ?_⟩
        rw [HRR.out]
        exact ⟨_, sv, av, nv, cv, _, _, _, _, _, _, rfl, ⟨HQ.out.1, HQ.out.2.1⟩, knv, HQ.out.2.2⟩
    case imp =>
      rintro e x W10 ⟨rfl, hr⟩
      rw [HRR.out] at hr
      obtain ⟨B10, s10, a10, n10, c10, y33, y34, y35, y36, y37, y38, rfl, H10, k10, hkeep⟩ := hr
      clear HRR RR
      have hB := hB.drew.trans (hkeep.mono hB.size)
      have Hd : ∀ (B : Nat) (s : Bool) (a : Option Addr) (n c : Nat) (z : Int), Held W9 B s a n c z → Held W10 B s a n c z := fun B s a n c z h => Held.below (w := W9.drew) (h.below (Below.drew (Below.refl _ _))) hkeep
      have H6 := Hd _ _ _ _ _ _ H6
      have H7 := Hd _ _ _ _ _ _ H7
      have H9 := Hd _ _ _ _ _ _ H9
      clear Hd hkeep
      go_wp2_with fail
      have F12 := fit_of (add_lt (k := 7) (x := (u : Int) * 10) (y := (dd : Int)) (mul_lt (i := 6) (j := 1) (by rw [Int.natAbs_natCast]; exact qA) (by rw [bp_one]; decide)) (Nat.lt_of_lt_of_le (m := 10) (by omega) (by decide))) (by decide)
      obtain ⟨RR, hRR⟩ : ∃ RR : Act → World → Prop, RR = (fun x w' => ∃ (Bv : Nat) (sv : Bool) (av : Option Addr) (nv cv : Nat) (y39 y40 y41 y42 y43 y44 y45 : Value), x = ⟨#[.agg #[.slice x0 L0 d0, .slice x1 L1 d1], .int .u8 lo, .pointer (some ⟨w.heap.size, 0, none⟩), undef, .bool false, .bool true, .pointer (some ⟨B6, 0, none⟩), .pointer (some ⟨B7, 0, none⟩), .int .i64 (dd : Int), .pointer (some ⟨B9, 0, none⟩), .pointer (some ⟨B10, 0, none⟩), .bool true, .pointer (some ⟨Bv, 0, none⟩), .bool true, undef, undef, undef, undef, undef, undef, .bool true, .pointer (some ⟨w.heap.size, 0, none⟩), .slice x0 L0 d0, v23, .pointer (some ⟨w.heap.size, 1, none⟩), .slice x1 L1 d1, v26, .int .u8 lo, .int .i64 lo, .int .i64 (dd : Int), .pointer (some ⟨B6, 1, none⟩), .slice a6 n6 c6, .agg #[.bool false, .slice a6 n6 c6], y33, y34, y35, y36, y37, y38, y39, y40, y41, y42, y43, y44, y45, undef, undef, undef, undef, undef, undef, undef, undef, undef, undef, undef, undef, undef, undef, undef, undef, undef, undef, undef, undef, undef, undef, undef, undef, undef, undef, undef, undef, undef, undef, undef, undef, undef, undef, undef, undef, undef, undef, undef, undef, undef, undef, undef, undef, undef, undef, undef, undef, undef, undef, undef, undef, undef, undef, undef, undef, undef, undef, undef, undef, undef, undef, undef, undef, undef, undef, undef, undef, undef, undef, undef, undef, undef, undef, undef, undef, undef, undef, undef, undef, undef, undef, undef, undef, undef, undef, undef, undef, undef, undef, undef, undef, undef, undef, undef, undef, undef, undef, undef, undef, undef, undef, undef, undef, undef], []⟩ ∧ Held w' Bv sv av nv cv ((u : Int) * 10 + (dd : Int)) ∧ nv ≤ 64 ∧ Below W10.drew.heap.size W10.drew w') := ⟨_, rfl⟩
      have HRR := hide hRR
      clear hRR
      refine Code.wp_mono (Q := fun e x w' => e = Exit.normal ∧ RR x w') ?imp ?reg
      case reg =>
        have hP0 : Held W10.drew B10 s10 a10 n10 c10 ((u : Int) * 10) := H10.below (Below.drew (Below.refl _ _))
        refine wp_region_held_drew (S := fun w' => Below W10.drew.heap.size W10.drew w') (by kernel_rfl) (Below.refl _ _) (fun hHeld => ?_)
        obtain ⟨WE, hWE⟩ : ∃ WE, W10.drew = WE := ⟨_, rfl⟩
        rw [hWE] at hP0 hHeld HRR ⊢
        clear hWE
        obtain ⟨px, py, -, -⟩ := hP0.box
        have hlt := lt_of_cell px
        refine take_at (i := 0) (v := .agg #[.bool s10, .slice a10 n10 c10]) 40 rfl rfl (by kernel_rfl) (by kernel_rfl) (by kernel_rfl) (fun _ _ _ h => by cases h.1) (Or.inl ⟨by rfl, fun w' hSw => by have qa := (hSw.cell (p := ⟨B10, 0, none⟩) hlt).trans px; have qb := (hSw.cell (p := ⟨B10, 1, none⟩) hlt).trans py; go_simp⟩) (by assumption) ?_
        simp only [Act.put, List.setIfInBounds_toArray, List.set_cons_zero, List.set_cons_succ]
        refine take_at (i := 1) (v := .int .i64 (dd : Int)) 41 rfl rfl (by kernel_rfl) (by kernel_rfl) (by kernel_rfl) (fun _ _ _ h => by cases h.1) (Or.inl ⟨by rfl, fun w' hSw => by go_simp⟩) (by assumption) ?_
        simp only [Act.put, List.setIfInBounds_toArray, List.set_cons_zero, List.set_cons_succ]
        refine wpAnyH_two 2 7 (by kernel_rfl) ?_ ?_
        · refine wpOp_call (i := 2) (f := 28) (args := #[.int .i64 (dd : Int)]) 42 rfl rfl (by rfl) (by go_simp) ?_
          refine (of_any (dd : Int) (by omega) (by omega) _).mono ?_
          rintro e wo ⟨so, ao, no, co, rfl, No, ko⟩
          have hbo : Below WE.heap.size WE wo := hHeld.trans (ko.mono hHeld.size)
          have kno : no ≤ 64 := by rw [No.dig.len]; exact small_num (by omega)
          refine ⟨_, rfl, hbo, ?_⟩
          simp only [Act.put, List.setIfInBounds_toArray, List.set_cons_zero, List.set_cons_succ]
          refine wpAnyH_two 3 7 (by kernel_rfl) ?_ ?_
          · refine wpOp_call (i := 3) (f := 23) (args := #[.agg #[.bool s10, .slice a10 n10 c10], .agg #[.bool so, .slice ao no co]]) 43 rfl rfl (by rfl) (by go_simp) ?_
            refine (add_any s10 so a10 ao n10 no c10 co ((u : Int) * 10) ((dd : Int)) k10 kno _ (hP0.below hbo).num No F12).mono ?_
            rintro e wm ⟨sv, av, nv, cv, rfl, Nm, hfm, km⟩
            have hbm : Below WE.heap.size WE wm := hbo.trans (km.mono hbo.size)
            have knv : nv ≤ 64 := by rw [Nm.dig.len]; exact F12
            refine ⟨_, rfl, hbm, ?_⟩
            simp only [Act.put, List.setIfInBounds_toArray, List.set_cons_zero, List.set_cons_succ]
            refine take_at (i := 4) (v := .tuple #[.agg #[.bool sv, .slice av nv cv], .bool true]) 39 rfl rfl (by kernel_rfl) (by kernel_rfl) (by kernel_rfl) (fun _ _ _ h => by cases h.1) (Or.inl ⟨by rfl, fun w' hSw => by go_simp⟩) (by assumption) ?_
            simp only [Act.put, List.setIfInBounds_toArray, List.set_cons_zero, List.set_cons_succ]
            refine take_at (i := 5) (v := .agg #[.bool sv, .slice av nv cv]) 44 rfl rfl (by kernel_rfl) (by kernel_rfl) (by kernel_rfl) (fun _ _ _ h => by cases h.1) (Or.inl ⟨by rfl, fun w' hSw => by go_simp⟩) (by assumption) ?_
            simp only [Act.put, List.setIfInBounds_toArray, List.set_cons_zero, List.set_cons_succ]
            refine take_at (i := 6) (v := .bool true) 45 rfl rfl (by kernel_rfl) (by kernel_rfl) (by kernel_rfl) (fun _ _ _ h => by cases h.1) (Or.inl ⟨by rfl, fun w' hSw => by go_simp⟩) (by assumption) ?_
            simp only [Act.put, List.setIfInBounds_toArray, List.set_cons_zero, List.set_cons_succ]
            refine wpAnyH_one 7 (by kernel_rfl) ?_
            have hold := Nm.old (Nat.le_refl _)
            refine wpOp_run (i := 7) rfl ?_
            go_simp
            have bx := Box2.new wm (.bool false) (.slice none 0 0) 27
            have hka := below_alloc' wm (Obj.cells #[Value.bool false, Value.slice none 0 0] 27)
            have hba : Below WE.heap.size WE (wm.alloc (Obj.cells #[Value.bool false, Value.slice none 0 0] 27)) := hbm.trans (hka.mono hbm.size)
            have hsa : (wm.alloc (Obj.cells #[Value.bool false, Value.slice none 0 0] 27)).heap.size = wm.heap.size + 1 := World.size_alloc _ _
            obtain ⟨wa, hwa⟩ : ∃ wa, wm.alloc (Obj.cells #[Value.bool false, Value.slice none 0 0] 27) = wa := ⟨_, rfl⟩
            rw [hwa] at bx hka hba hsa ⊢
            clear hwa
            refine ⟨hba, ?_⟩
            have Nm := Nm.below hka
            have hbx2 := bx.set (.bool sv) (.slice av nv cv)
            have hN2 := Nm.set2 bx (.bool sv) (.slice av nv cv) hold
            have hbf := below_set2 hba (B := wm.heap.size) hbm.size (.bool sv) (.slice av nv cv)
            have HQ := hide (And.intro hbx2 (And.intro hN2 hbf))
            obtain ⟨r0, r1, z0, z1⟩ := bx
            refine wpAnyH_one 8 (by kernel_rfl) ?_
            refine wpOp_run (i := 8) rfl ?_
            go_simp
            refine wpAnyH_one 9 (by kernel_rfl) ?_
            refine wpOp_run (i := 9) rfl ?_
            go_simp
            refine wpAnyH_done (by kernel_rfl) ?_ _
            refine ⟨rfl, ?_⟩
            rw [HRR.out]
            exact ⟨_, sv, av, nv, cv, _, _, _, _, _, _, _, rfl, ⟨HQ.out.1, HQ.out.2.1⟩, knv, HQ.out.2.2⟩
          · refine wpOp_run (i := 7) rfl ?_
            go_simp
            have bx := Box2.new wo (.bool false) (.slice none 0 0) 27
            have hka := below_alloc' wo (Obj.cells #[Value.bool false, Value.slice none 0 0] 27)
            have hba : Below WE.heap.size WE (wo.alloc (Obj.cells #[Value.bool false, Value.slice none 0 0] 27)) := hbo.trans (hka.mono hbo.size)
            have hsa : (wo.alloc (Obj.cells #[Value.bool false, Value.slice none 0 0] 27)).heap.size = wo.heap.size + 1 := World.size_alloc _ _
            obtain ⟨wa, hwa⟩ : ∃ wa, wo.alloc (Obj.cells #[Value.bool false, Value.slice none 0 0] 27) = wa := ⟨_, rfl⟩
            rw [hwa] at bx hka hba hsa ⊢
            clear hwa
            refine ⟨hba, ?_⟩
            have No := No.below hka
            refine wpAnyH_one 3 (by kernel_rfl) ?_
            refine wpOp_call (i := 3) (f := 23) (args := #[.agg #[.bool s10, .slice a10 n10 c10], .agg #[.bool so, .slice ao no co]]) 43 rfl rfl (by rfl) (by go_simp) ?_
            refine (add_any s10 so a10 ao n10 no c10 co ((u : Int) * 10) ((dd : Int)) k10 kno _ (hP0.below hba).num No F12).mono ?_
            rintro e wm ⟨sv, av, nv, cv, rfl, Nm, hfm, km⟩
            have hbm : Below WE.heap.size WE wm := hba.trans (km.mono hba.size)
            have knv : nv ≤ 64 := by rw [Nm.dig.len]; exact F12
            refine ⟨_, rfl, hbm, ?_⟩
            simp only [Act.put, List.setIfInBounds_toArray, List.set_cons_zero, List.set_cons_succ]
            refine take_at (i := 4) (v := .tuple #[.agg #[.bool sv, .slice av nv cv], .bool true]) 39 rfl rfl (by kernel_rfl) (by kernel_rfl) (by kernel_rfl) (fun _ _ _ h => by cases h.1) (Or.inl ⟨by rfl, fun w' hSw => by go_simp⟩) (by assumption) ?_
            simp only [Act.put, List.setIfInBounds_toArray, List.set_cons_zero, List.set_cons_succ]
            refine take_at (i := 5) (v := .agg #[.bool sv, .slice av nv cv]) 44 rfl rfl (by kernel_rfl) (by kernel_rfl) (by kernel_rfl) (fun _ _ _ h => by cases h.1) (Or.inl ⟨by rfl, fun w' hSw => by go_simp⟩) (by assumption) ?_
            simp only [Act.put, List.setIfInBounds_toArray, List.set_cons_zero, List.set_cons_succ]
            refine take_at (i := 6) (v := .bool true) 45 rfl rfl (by kernel_rfl) (by kernel_rfl) (by kernel_rfl) (fun _ _ _ h => by cases h.1) (Or.inl ⟨by rfl, fun w' hSw => by go_simp⟩) (by assumption) ?_
            simp only [Act.put, List.setIfInBounds_toArray, List.set_cons_zero, List.set_cons_succ]
            have bx := bx.below km bx.lt
            have hbx2 := bx.set (.bool sv) (.slice av nv cv)
            have hN2 := Nm.set2 bx (.bool sv) (.slice av nv cv) (hfm.imp id fun h ad e => by have := h ad e; omega)
            have hbf := below_set2 hbm (B := wo.heap.size) hbo.size (.bool sv) (.slice av nv cv)
            have HQ := hide (And.intro hbx2 (And.intro hN2 hbf))
            obtain ⟨r0, r1, z0, z1⟩ := bx
            refine wpAnyH_one 8 (by kernel_rfl) ?_
            refine wpOp_run (i := 8) rfl ?_
            go_simp
            refine wpAnyH_one 9 (by kernel_rfl) ?_
            refine wpOp_run (i := 9) rfl ?_
            go_simp
            refine wpAnyH_done (by kernel_rfl) ?_ _
            refine ⟨rfl, ?_⟩
            rw [HRR.out]
            exact ⟨_, sv, av, nv, cv, _, _, _, _, _, _, _, rfl, ⟨HQ.out.1, HQ.out.2.1⟩, knv, HQ.out.2.2⟩
        · refine wpOp_run (i := 7) rfl ?_
          go_simp
          have bx := Box2.new WE (.bool false) (.slice none 0 0) 27
          have hka := below_alloc' WE (Obj.cells #[Value.bool false, Value.slice none 0 0] 27)
          have hba : Below WE.heap.size WE (WE.alloc (Obj.cells #[Value.bool false, Value.slice none 0 0] 27)) := hHeld.trans (hka.mono hHeld.size)
          have hsa : (WE.alloc (Obj.cells #[Value.bool false, Value.slice none 0 0] 27)).heap.size = WE.heap.size + 1 := World.size_alloc _ _
          obtain ⟨wa, hwa⟩ : ∃ wa, WE.alloc (Obj.cells #[Value.bool false, Value.slice none 0 0] 27) = wa := ⟨_, rfl⟩
          rw [hwa] at bx hka hba hsa ⊢
          clear hwa
          refine ⟨hba, ?_⟩
          refine wpAnyH_one 2 (by kernel_rfl) ?_
          refine wpOp_call (i := 2) (f := 28) (args := #[.int .i64 (dd : Int)]) 42 rfl rfl (by rfl) (by go_simp) ?_
          refine (of_any (dd : Int) (by omega) (by omega) _).mono ?_
          rintro e wo ⟨so, ao, no, co, rfl, No, ko⟩
          have hbo : Below WE.heap.size WE wo := hba.trans (ko.mono hba.size)
          have kno : no ≤ 64 := by rw [No.dig.len]; exact small_num (by omega)
          refine ⟨_, rfl, hbo, ?_⟩
          simp only [Act.put, List.setIfInBounds_toArray, List.set_cons_zero, List.set_cons_succ]
          have bx := bx.below ko bx.lt
          have hso := ko.size
          refine wpAnyH_one 3 (by kernel_rfl) ?_
          refine wpOp_call (i := 3) (f := 23) (args := #[.agg #[.bool s10, .slice a10 n10 c10], .agg #[.bool so, .slice ao no co]]) 43 rfl rfl (by rfl) (by go_simp) ?_
          refine (add_any s10 so a10 ao n10 no c10 co ((u : Int) * 10) ((dd : Int)) k10 kno _ (hP0.below hbo).num No F12).mono ?_
          rintro e wm ⟨sv, av, nv, cv, rfl, Nm, hfm, km⟩
          have hbm : Below WE.heap.size WE wm := hbo.trans (km.mono hbo.size)
          have knv : nv ≤ 64 := by rw [Nm.dig.len]; exact F12
          refine ⟨_, rfl, hbm, ?_⟩
          simp only [Act.put, List.setIfInBounds_toArray, List.set_cons_zero, List.set_cons_succ]
          refine take_at (i := 4) (v := .tuple #[.agg #[.bool sv, .slice av nv cv], .bool true]) 39 rfl rfl (by kernel_rfl) (by kernel_rfl) (by kernel_rfl) (fun _ _ _ h => by cases h.1) (Or.inl ⟨by rfl, fun w' hSw => by go_simp⟩) (by assumption) ?_
          simp only [Act.put, List.setIfInBounds_toArray, List.set_cons_zero, List.set_cons_succ]
          refine take_at (i := 5) (v := .agg #[.bool sv, .slice av nv cv]) 44 rfl rfl (by kernel_rfl) (by kernel_rfl) (by kernel_rfl) (fun _ _ _ h => by cases h.1) (Or.inl ⟨by rfl, fun w' hSw => by go_simp⟩) (by assumption) ?_
          simp only [Act.put, List.setIfInBounds_toArray, List.set_cons_zero, List.set_cons_succ]
          refine take_at (i := 6) (v := .bool true) 45 rfl rfl (by kernel_rfl) (by kernel_rfl) (by kernel_rfl) (fun _ _ _ h => by cases h.1) (Or.inl ⟨by rfl, fun w' hSw => by go_simp⟩) (by assumption) ?_
          simp only [Act.put, List.setIfInBounds_toArray, List.set_cons_zero, List.set_cons_succ]
          have bx := bx.below km bx.lt
          have hbx2 := bx.set (.bool sv) (.slice av nv cv)
          have hN2 := Nm.set2 bx (.bool sv) (.slice av nv cv) (hfm.imp id fun h ad e => by have := h ad e; omega)
          have hbf := below_set2 hbm (B := WE.heap.size) (Nat.le_refl _) (.bool sv) (.slice av nv cv)
          have HQ := hide (And.intro hbx2 (And.intro hN2 hbf))
          obtain ⟨r0, r1, z0, z1⟩ := bx
          refine wpAnyH_one 8 (by kernel_rfl) ?_
          refine wpOp_run (i := 8) rfl ?_
          go_simp
          refine wpAnyH_one 9 (by kernel_rfl) ?_
          refine wpOp_run (i := 9) rfl ?_
          go_simp
          refine wpAnyH_done (by kernel_rfl) ?_ _
          refine ⟨rfl, ?_⟩
          rw [HRR.out]
          exact ⟨_, sv, av, nv, cv, _, _, _, _, _, _, _, rfl, ⟨HQ.out.1, HQ.out.2.1⟩, knv, HQ.out.2.2⟩
      case imp =>
        rintro e x W12 ⟨rfl, hr⟩
        rw [HRR.out] at hr
        obtain ⟨B12, s12, a12, n12, c12, y39, y40, y41, y42, y43, y44, y45, rfl, H12, k12, hkeep⟩ := hr
        clear HRR RR
        have hB := hB.drew.trans (hkeep.mono hB.size)
        have Hd : ∀ (B : Nat) (s : Bool) (a : Option Addr) (n c : Nat) (z : Int), Held W10 B s a n c z → Held W12 B s a n c z := fun B s a n c z h => Held.below (w := W10.drew) (h.below (Below.drew (Below.refl _ _))) hkeep
        have H6 := Hd _ _ _ _ _ _ H6
        have H7 := Hd _ _ _ _ _ _ H7
        have H9 := Hd _ _ _ _ _ _ H9
        clear Hd hkeep H10 k10
        obtain ⟨x9, y9, -, -⟩ := H9.box
        go_wp2_with fail
        clear x9 y9
        obtain ⟨cd, hcd⟩ : ∃ cd : UInt8, UInt8.ofNat (48 + dd) = cd := ⟨_, rfl⟩
        have HCD := hide hcd
        clear hcd
        have hlu : ¬ 9223372036854775807 < (txtZ (u : Int)).length + 1 := by
          have := txtZ_len (z := (u : Int)) (by rw [Int.natAbs_natCast]; exact Nat.le_trans (dlen_le_iff.2 qA) (by decide))
          omega
        obtain ⟨RR, hRR⟩ : ∃ RR : Act → World → Prop, RR = (fun x w' => ∃ (y46 y47 y48 y49 y50 y51 y52 y53 : Value), x = ⟨#[.agg #[.slice x0 L0 d0, .slice x1 L1 d1], .int .u8 lo, .pointer (some ⟨w.heap.size, 0, none⟩), undef, .bool false, .bool true, .pointer (some ⟨B6, 0, none⟩), .pointer (some ⟨B7, 0, none⟩), .int .i64 (dd : Int), .pointer (some ⟨B9, 0, none⟩), .pointer (some ⟨B10, 0, none⟩), .bool true, .pointer (some ⟨B12, 0, none⟩), .bool true, .string (⟨(txtZ (u : Int)).toArray⟩ ++ ⟨#[cd]⟩), undef, undef, undef, undef, undef, .bool true, .pointer (some ⟨w.heap.size, 0, none⟩), .slice x0 L0 d0, v23, .pointer (some ⟨w.heap.size, 1, none⟩), .slice x1 L1 d1, v26, .int .u8 lo, .int .i64 lo, .int .i64 (dd : Int), .pointer (some ⟨B6, 1, none⟩), .slice a6 n6 c6, .agg #[.bool false, .slice a6 n6 c6], y33, y34, y35, y36, y37, y38, y39, y40, y41, y42, y43, y44, y45, y46, y47, y48, y49, y50, y51, y52, y53, undef, undef, undef, undef, undef, undef, undef, undef, undef, undef, undef, undef, undef, undef, undef, undef, undef, undef, undef, undef, undef, undef, undef, undef, undef, undef, undef, undef, undef, undef, undef, undef, undef, undef, undef, undef, undef, undef, undef, undef, undef, undef, undef, undef, undef, undef, undef, undef, undef, undef, undef, undef, undef, undef, undef, undef, undef, undef, undef, undef, undef, undef, undef, undef, undef, undef, undef, undef, undef, undef, undef, undef, undef, undef, undef, undef, undef, undef, undef, undef, undef, undef, undef, undef, undef, undef, undef, undef, undef, undef, undef, undef, undef, undef, undef, undef, undef], []⟩ ∧ Below W12.drew.heap.size W12.drew w') := ⟨_, rfl⟩
        have HRR := hide hRR
        clear hRR
        have ht7 := ht.below (hB.drew)
        refine Code.wp_mono (Q := fun e x w' => e = Exit.normal ∧ RR x w') ?imp ?reg
        case reg =>
          have hP0 : Held W12.drew B9 false a6 n6 c6 (u : Int) := H9.below (Below.drew (Below.refl _ _))
          refine wp_region_held_drew (S := fun w' => Below W12.drew.heap.size W12.drew w') (by kernel_rfl) (Below.refl _ _) (fun hHeld => ?_)
          obtain ⟨WE, hWE⟩ : ∃ WE, W12.drew = WE := ⟨_, rfl⟩
          rw [hWE] at hP0 hHeld HRR ht7 ⊢
          clear hWE
          obtain ⟨px, py, -, -⟩ := hP0.box
          have hlt := lt_of_cell px
          have hw1 : IntKind.i64.wrap (48 + (dd : Int)) = 48 + (dd : Int) := by simp [IntKind.wrap, IntKind.bits, IntKind.signed]; omega
          have hw2 : IntKind.u8.wrap (48 + (dd : Int)) = 48 + (dd : Int) := by simp [IntKind.wrap, IntKind.bits, IntKind.signed]; omega
          refine take_at (i := 0) (v := .agg #[.bool false, .slice a6 n6 c6]) 46 rfl rfl (by kernel_rfl) (by kernel_rfl) (by kernel_rfl) (fun _ _ _ h => by cases h.1) (Or.inl ⟨by rfl, fun w' hSw => by have qa := (hSw.cell (p := ⟨B9, 0, none⟩) hlt).trans px; have qb := (hSw.cell (p := ⟨B9, 1, none⟩) hlt).trans py; go_simp⟩) (by assumption) ?_
          simp only [Act.put, List.setIfInBounds_toArray, List.set_cons_zero, List.set_cons_succ]
          refine take_at (i := 2) (v := .int .i64 (dd : Int)) 48 rfl rfl (by kernel_rfl) (by kernel_rfl) (by kernel_rfl) (fun _ _ _ h => by cases h.1) (Or.inl ⟨by rfl, fun w' hSw => by go_simp⟩) (by assumption) ?_
          simp only [Act.put, List.setIfInBounds_toArray, List.set_cons_zero, List.set_cons_succ]
          refine take_at (i := 3) (v := .int .i64 (48 + (dd : Int))) 49 rfl rfl (by kernel_rfl) (by kernel_rfl) (by kernel_rfl) (fun _ _ _ h => by cases h.1) (Or.inl ⟨by rfl, fun w' hSw => by go_simp⟩) (by assumption) ?_
          simp only [Act.put, List.setIfInBounds_toArray, List.set_cons_zero, List.set_cons_succ]
          refine take_at (i := 4) (v := .int .u8 (48 + (dd : Int))) 50 rfl rfl (by kernel_rfl) (by kernel_rfl) (by kernel_rfl) (fun _ _ _ h => by cases h.1) (Or.inl ⟨by rfl, fun w' hSw => by go_simp⟩) (by assumption) ?_
          simp only [Act.put, List.setIfInBounds_toArray, List.set_cons_zero, List.set_cons_succ]
          refine wpAnyH_two 1 5 (by kernel_rfl) ?_ ?_
          · refine wpOp_call (i := 1) (f := 20) (args := #[.agg #[.bool false, .slice a6 n6 c6]]) 47 rfl rfl (by rfl) (by go_simp) ?_
            refine (text_num false a6 n6 c6 (u : Int) k6 _ (ht7.below hHeld) (hP0.below hHeld).num).mono ?_
            rintro e wt ⟨rfl, kt⟩
            have hbt : Below WE.heap.size WE wt := hHeld.trans (kt.mono hHeld.size)
            refine ⟨_, rfl, hbt, ?_⟩
            simp only [Act.put, List.setIfInBounds_toArray, List.set_cons_zero, List.set_cons_succ]
            refine wpAnyH_one 5 (by kernel_rfl) ?_
            refine wpOp_run (i := 5) rfl ?_
            go_simp
            have hka := below_alloc' wt (Obj.cells #[Value.int IntKind.u8 (48 + (dd : Int))] 5)
            have hca : (wt.alloc (Obj.cells #[Value.int IntKind.u8 (48 + (dd : Int))] 5)).cell? ⟨wt.heap.size, 0, none⟩ = some (.int .u8 (48 + (dd : Int))) := by simp [go_sem]
            have hba : Below WE.heap.size WE (wt.alloc (Obj.cells #[Value.int IntKind.u8 (48 + (dd : Int))] 5)) := hbt.trans (hka.mono hbt.size)
            obtain ⟨wa, hwa⟩ : ∃ wa, wt.alloc (Obj.cells #[Value.int IntKind.u8 (48 + (dd : Int))] 5) = wa := ⟨_, rfl⟩
            rw [hwa] at hka hca hba ⊢
            clear hwa
            refine ⟨hba, ?_⟩
            refine wpAnyH_one 6 (by kernel_rfl) ?_
            have hcv := conv_dig hd9 HCD.out hca
            refine wpOp_run (i := 6) rfl ?_
            go_simp
            clear hcv
            refine wpAnyH_one 7 (by kernel_rfl) ?_
            refine wpOp_run (i := 7) rfl ?_
            go_simp
            refine wpAnyH_one 8 (by kernel_rfl) ?_
            refine wpOp_run (i := 8) rfl ?_
            go_simp
            refine wpAnyH_done (by kernel_rfl) ?_ _
            refine ⟨rfl, ?_⟩
            rw [HRR.out]
            exact ⟨_, _, _, _, _, _, _, _, rfl, hba⟩
          · refine wpOp_run (i := 5) rfl ?_
            go_simp
            have hka := below_alloc' WE (Obj.cells #[Value.int IntKind.u8 (48 + (dd : Int))] 5)
            have hca : (WE.alloc (Obj.cells #[Value.int IntKind.u8 (48 + (dd : Int))] 5)).cell? ⟨WE.heap.size, 0, none⟩ = some (.int .u8 (48 + (dd : Int))) := by simp [go_sem]
            have hba : Below WE.heap.size WE (WE.alloc (Obj.cells #[Value.int IntKind.u8 (48 + (dd : Int))] 5)) := hHeld.trans (hka.mono hHeld.size)
            obtain ⟨wa, hwa⟩ : ∃ wa, WE.alloc (Obj.cells #[Value.int IntKind.u8 (48 + (dd : Int))] 5) = wa := ⟨_, rfl⟩
            rw [hwa] at hka hca hba ⊢
            clear hwa
            refine ⟨hba, ?_⟩
            refine wpAnyH_two 1 6 (by kernel_rfl) ?_ ?_
            · refine wpOp_call (i := 1) (f := 20) (args := #[.agg #[.bool false, .slice a6 n6 c6]]) 47 rfl rfl (by rfl) (by go_simp) ?_
              refine (text_num false a6 n6 c6 (u : Int) k6 _ (ht7.below hba) (hP0.below hba).num).mono ?_
              rintro e wt ⟨rfl, kt⟩
              have hbt : Below WE.heap.size WE wt := hba.trans (kt.mono hba.size)
              refine ⟨_, rfl, hbt, ?_⟩
              simp only [Act.put, List.setIfInBounds_toArray, List.set_cons_zero, List.set_cons_succ]
              have hct := (kt.cell (lt_of_cell hca)).trans hca
              refine wpAnyH_one 6 (by kernel_rfl) ?_
              have hcv := conv_dig hd9 HCD.out hct
              refine wpOp_run (i := 6) rfl ?_
              go_simp
              clear hcv
              refine wpAnyH_one 7 (by kernel_rfl) ?_
              refine wpOp_run (i := 7) rfl ?_
              go_simp
              refine wpAnyH_one 8 (by kernel_rfl) ?_
              refine wpOp_run (i := 8) rfl ?_
              go_simp
              refine wpAnyH_done (by kernel_rfl) ?_ _
              refine ⟨rfl, ?_⟩
              rw [HRR.out]
              exact ⟨_, _, _, _, _, _, _, _, rfl, hbt⟩
            · have hcv := conv_dig hd9 HCD.out hca
              refine wpOp_run (i := 6) rfl ?_
              go_simp
              clear hcv
              refine wpAnyH_one 1 (by kernel_rfl) ?_
              refine wpOp_call (i := 1) (f := 20) (args := #[.agg #[.bool false, .slice a6 n6 c6]]) 47 rfl rfl (by rfl) (by go_simp) ?_
              refine (text_num false a6 n6 c6 (u : Int) k6 _ (ht7.below hba) (hP0.below hba).num).mono ?_
              rintro e wt ⟨rfl, kt⟩
              have hbt : Below WE.heap.size WE wt := hba.trans (kt.mono hba.size)
              refine ⟨_, rfl, hbt, ?_⟩
              simp only [Act.put, List.setIfInBounds_toArray, List.set_cons_zero, List.set_cons_succ]
              refine wpAnyH_one 7 (by kernel_rfl) ?_
              refine wpOp_run (i := 7) rfl ?_
              go_simp
              refine wpAnyH_one 8 (by kernel_rfl) ?_
              refine wpOp_run (i := 8) rfl ?_
              go_simp
              refine wpAnyH_done (by kernel_rfl) ?_ _
              refine ⟨rfl, ?_⟩
              rw [HRR.out]
              exact ⟨_, _, _, _, _, _, _, _, rfl, hbt⟩
        case imp =>
          rintro e x W14 ⟨rfl, hr⟩
          rw [HRR.out] at hr
          obtain ⟨y46, y47, y48, y49, y50, y51, y52, y53, rfl, hkeep⟩ := hr
          clear HRR RR ht7
          rw [show (⟨(txtZ (u : Int)).toArray⟩ ++ ⟨#[cd]⟩ : ByteArray) = ⟨(txtZ (u : Int) ++ [cd]).toArray⟩ from mk_app _ [cd]]
          clear hlu
          have hB := hB.drew.trans (hkeep.mono hB.size)
          have Hd : ∀ (B : Nat) (s : Bool) (a : Option Addr) (n c : Nat) (z : Int), Held W12 B s a n c z → Held W14 B s a n c z := fun B s a n c z h => Held.below (w := W12.drew) (h.below (Below.drew (Below.refl _ _))) hkeep
          have H6 := Hd _ _ _ _ _ _ H6
          have H7 := Hd _ _ _ _ _ _ H7
          have H9 := Hd _ _ _ _ _ _ H9
          have H12 := Hd _ _ _ _ _ _ H12
          clear Hd hkeep
          have hcd48 : UInt8.ofNat (48 + dd) = cd := HCD.out
          obtain ⟨WT, hWT⟩ : ∃ WT : ByteArray, (⟨(txtZ ((u : Int) * 10 + (dd : Int))).toArray⟩ : ByteArray) = WT := ⟨_, rfl⟩
          have HWT := hide hWT
          obtain ⟨TA, hTA⟩ : ∃ TA : ByteArray, (⟨(txtZ A).toArray⟩ : ByteArray) = TA := ⟨_, rfl⟩
          obtain ⟨TP, hTP⟩ : ∃ TP : ByteArray, (⟨(txtZ (u : Int)).toArray⟩ : ByteArray) = TP := ⟨_, rfl⟩
          have HCAT : Hid (A < 0 → (⟨#[45]⟩ : ByteArray) ++ TP = TA) := fun h => by
            rw [← hTP, ← hTA, txtZ_neg h, nat_txt, ← HU.out]
            exact mk_app [45] _
          have FA : dlen A.natAbs ≤ 64 := by rw [HU.out]; exact Nat.le_trans (dlen_le_iff.2 qA) (by decide)
          have HLT : Hid (¬ 9223372036854775807 < 1 + TP.size) := by
            show ¬ _
            rw [← hTP, bytes_size]
            have := txtZ_len (z := (u : Int)) (by rw [Int.natAbs_natCast, ← HU.out]; exact FA)
            omega
          have HTA := hide hTA
          have HTP := hide hTP
          clear hTA hTP
          have hu0 : n6 = 0 ↔ u = 0 := by
            rw [H9.num.dig.len, Int.natAbs_natCast]; exact dlen_eq_zero
          have hk0 : (n6 ≠ 0 ∧ txtZ (u : Int) ++ [cd] = txtZ ((u : Int) * 10 + (dd : Int))) ∨ (n6 = 0 ∧ txtZ (u : Int) ++ [cd] = [48, cd] ∧ txtZ ((u : Int) * 10 + (dd : Int)) = [cd]) := by
            rw [← hcd48]
            exact want_cases hu0 hd9
          clear hcd48 hu0
          rcases hk0 with ⟨hn6, hw⟩ | ⟨hn6, hw, hw2⟩
          · have hn6' : ((n6 : Int) == 0) = false := by simp; omega
            rw [hw, hWT]
            clear hw hWT hn6
            obtain ⟨x6, y6, -, -⟩ := H6.box
            go_wp2_with fail
            refine (text_num s6 a6 n6 c6 A k6 W14 (ht.below hB) H6.num).mono ?_
            rintro e w15 ⟨rfl, hk15⟩
            clear x6 y6
            have hB := hB.trans (hk15.mono hB.size)
            have H6 := H6.below hk15
            have H7 := H7.below hk15
            have H9 := H9.below hk15
            have H12 := H12.below hk15
            clear hk15
            go_wp2_with fail
            refine (parse_txt A FA w15).mono ?_
            rintro e w16 ⟨s15, a15, n15, c15, rfl, Nb, -, hk16⟩
            have k15 : n15 ≤ 64 := by rw [Nb.dig.len]; exact FA
            have hB := hB.trans (hk16.mono hB.size)
            have H6 := H6.below hk16
            have H7 := H7.below hk16
            have H9 := H9.below hk16
            have H12 := H12.below hk16
            have H15 := Held.new c15 Nb 27
            have hka := below_alloc' w16 (Obj.cells #[.bool s15, .slice a15 n15 c15] 27)
            obtain ⟨W15, hW15⟩ : ∃ W, w16.alloc (Obj.cells #[.bool s15, .slice a15 n15 c15] 27) = W := ⟨_, rfl⟩
            obtain ⟨B15, hB15⟩ : ∃ B, w16.heap.size = B := ⟨_, rfl⟩
            rw [hW15] at H15 hka
            have hB := hB.trans (hka.mono hB.size)
            have H6 := H6.below hka
            have H7 := H7.below hka
            have H9 := H9.below hka
            have H12 := H12.below hka
            rw [hB15] at H15
            clear hk16 Nb hka
            go_wp2_with fail
            try rw [hW15]
            try rw [hB15]
            clear hW15 hB15
            obtain ⟨RR, hRR⟩ : ∃ RR : Act → World → Prop, RR = (fun x w' => ∃ (z54 z55 z56 z57 z58 z59 z60 z61 z62 z63 z64 z65 z66 z67 z68 z69 z70 z71 z72 z73 z74 z75 z76 z77 z78 z79 z80 z81 z82 z83 z84 z85 z86 z87 z88 z89 z90 z91 z92 z93 z94 z95 z96 z97 z98 z99 z100 z101 : Value), x = ⟨#[.agg #[.slice x0 L0 d0, .slice x1 L1 d1], .int .u8 lo, .pointer (some ⟨w.heap.size, 0, none⟩), undef, .bool false, .bool true, .pointer (some ⟨B6, 0, none⟩), .pointer (some ⟨B7, 0, none⟩), .int .i64 (dd : Int), .pointer (some ⟨B9, 0, none⟩), .pointer (some ⟨B10, 0, none⟩), .bool true, .pointer (some ⟨B12, 0, none⟩), .bool true, .string WT, .pointer (some ⟨B15, 0, none⟩), .bool true, undef, undef, undef, .bool true, .pointer (some ⟨w.heap.size, 0, none⟩), .slice x0 L0 d0, v23, .pointer (some ⟨w.heap.size, 1, none⟩), .slice x1 L1 d1, v26, .int .u8 lo, .int .i64 lo, .int .i64 (dd : Int), .pointer (some ⟨B6, 1, none⟩), .slice a6 n6 c6, .agg #[.bool false, .slice a6 n6 c6], y33, y34, y35, y36, y37, y38, y39, y40, y41, y42, y43, y44, y45, y46, y47, y48, y49, y50, y51, y52, y53, z54, z55, z56, z57, z58, z59, z60, z61, z62, z63, z64, z65, z66, z67, z68, z69, z70, z71, z72, z73, z74, z75, z76, z77, z78, z79, z80, z81, z82, z83, z84, z85, z86, z87, z88, z89, z90, z91, z92, z93, z94, z95, z96, z97, z98, z99, z100, z101, .bool false, undef, undef, undef, undef, undef, undef, undef, undef, undef, undef, undef, undef, undef, undef, undef, undef, undef, undef, undef, undef, undef, undef, undef, undef, undef, undef, undef, undef, undef, undef, undef, undef, undef, undef, undef, undef, undef, undef, undef, undef, undef, undef, undef, undef, undef, undef, undef, undef], []⟩ ∧ Below W15.drew.heap.size W15.drew w') := ⟨_, rfl⟩
            have HRR := hide hRR
            clear hRR
            refine Code.wp_mono (Q := fun e x w' => e = Exit.normal ∧ RR x w') ?imp ?reg
            case reg =>
              have hdr := Below.drew (Below.refl W15.heap.size W15)
              have ht' := ht.below (hB.drew)
              have CT12 : Hid (∀ W, Below W15.drew.heap.size W15.drew W → Calls Tryz.prog 20 #[.agg #[.bool s12, .slice a12 n12 c12]] W fun e w' => e = .returned (.string WT) ∧ Below W.heap.size W w') := fun W hW => by
                have := text_num s12 a12 n12 c12 ((u : Int) * 10 + (dd : Int)) k12 W (ht'.below hW) ((H12.below hdr).num.below hW)
                rw [HWT.out] at this; exact this
              have CT6 : Hid (∀ W, Below W15.drew.heap.size W15.drew W → Calls Tryz.prog 20 #[.agg #[.bool s6, .slice a6 n6 c6]] W fun e w' => e = .returned (.string TA) ∧ Below W.heap.size W w') := fun W hW => by
                have := text_num s6 a6 n6 c6 A k6 W (ht'.below hW) ((H6.below hdr).num.below hW)
                rw [HTA.out] at this; exact this
              have CT9 : Hid (∀ W, Below W15.drew.heap.size W15.drew W → Calls Tryz.prog 20 #[.agg #[.bool false, .slice a6 n6 c6]] W fun e w' => e = .returned (.string TP) ∧ Below W.heap.size W w') := fun W hW => by
                have := text_num false a6 n6 c6 (u : Int) k6 W (ht'.below hW) ((H9.below hdr).num.below hW)
                rw [HTP.out] at this; exact this
              have CS : Hid (∀ W, Below W15.drew.heap.size W15.drew W → Calls Tryz.prog 18 #[.agg #[.bool s15, .slice a15 n15 c15], .agg #[.bool s6, .slice a6 n6 c6]] W fun e w' => e = .returned (.bool true) ∧ Below W.heap.size W w') := fun W hW =>
                same_eq s15 s6 a15 a6 n15 n6 c15 c6 A k15 W ((H15.below hdr).num.below hW) ((H6.below hdr).num.below hW)
              have hs6 := H6.num.sign
              obtain ⟨x6, y6, -, -⟩ := (H6.below hdr).box
              obtain ⟨x9, y9, -, -⟩ := (H9.below hdr).box
              obtain ⟨x12, y12, -, -⟩ := (H12.below hdr).box
              obtain ⟨x15, y15, -, -⟩ := (H15.below hdr).box
              have HE := hide hs6
              clear hs6 H6 H7 H9 H12 H15 hB ht'
              cases s6
              · clear HCAT HLT CT6 CT9 x9 y9
                refine wp_region_held_drew (S := fun w' => Below W15.drew.heap.size W15.drew w') (by kernel_rfl) (Below.refl _ _) (fun hHeld => ?_)
                obtain ⟨WE, hWE⟩ : ∃ WE, W15.drew = WE := ⟨_, rfl⟩
                rw [hWE] at x6 y6 x12 y12 x15 y15 hHeld HRR CT12 CS ⊢
                clear hWE
                have hl6 := lt_of_cell x6
                have hl12 := lt_of_cell x12
                have hl15 := lt_of_cell x15
                refine take_at (i := 0) (v := .bool true) 69 rfl rfl (by kernel_rfl) (by kernel_rfl) (by kernel_rfl) (fun _ _ _ h => by cases h.1) (Or.inl ⟨by rfl, fun w' hSw => by go_simp⟩) (by assumption) ?_
                simp only [Act.put, List.setIfInBounds_toArray, List.set_cons_zero, List.set_cons_succ]
                refine take_at (i := 1) (v := .bool false) 70 rfl rfl (by kernel_rfl) (by kernel_rfl) (by kernel_rfl) (fun _ _ _ h => by cases h.1) (Or.inl ⟨by rfl, fun w' hSw => by go_simp⟩) (by assumption) ?_
                simp only [Act.put, List.setIfInBounds_toArray, List.set_cons_zero, List.set_cons_succ]
                refine take_at (i := 2) (v := .bool false) 71 rfl rfl (by kernel_rfl) (by kernel_rfl) (by kernel_rfl) (fun _ _ _ h => by cases h.1) (Or.inl ⟨by rfl, fun w' hSw => by go_simp⟩) (by assumption) ?_
                simp only [Act.put, List.setIfInBounds_toArray, List.set_cons_zero, List.set_cons_succ]
                refine take_at (i := 3) (v := .bool true) 72 rfl rfl (by kernel_rfl) (by kernel_rfl) (by kernel_rfl) (fun _ _ _ h => by cases h.1) (Or.inl ⟨by rfl, fun w' hSw => by go_simp⟩) (by assumption) ?_
                simp only [Act.put, List.setIfInBounds_toArray, List.set_cons_zero, List.set_cons_succ]
                refine take_at (i := 4) (v := .bool false) 73 rfl rfl (by kernel_rfl) (by kernel_rfl) (by kernel_rfl) (fun _ _ _ h => by cases h.1) (Or.inl ⟨by rfl, fun w' hSw => by go_simp⟩) (by assumption) ?_
                simp only [Act.put, List.setIfInBounds_toArray, List.set_cons_zero, List.set_cons_succ]
                refine take_at (i := 5) (v := .bool false) 74 rfl rfl (by kernel_rfl) (by kernel_rfl) (by kernel_rfl) (fun _ _ _ h => by cases h.1) (Or.inl ⟨by rfl, fun w' hSw => by go_simp⟩) (by assumption) ?_
                simp only [Act.put, List.setIfInBounds_toArray, List.set_cons_zero, List.set_cons_succ]
                refine take_at (i := 6) (v := .bool false) 75 rfl rfl (by kernel_rfl) (by kernel_rfl) (by kernel_rfl) (fun _ _ _ h => by cases h.1) (Or.inl ⟨by rfl, fun w' hSw => by go_simp⟩) (by assumption) ?_
                simp only [Act.put, List.setIfInBounds_toArray, List.set_cons_zero, List.set_cons_succ]
                refine take_at (i := 7) (v := .bool true) 76 rfl rfl (by kernel_rfl) (by kernel_rfl) (by kernel_rfl) (fun _ _ _ h => by cases h.1) (Or.inl ⟨by rfl, fun w' hSw => by go_simp⟩) (by assumption) ?_
                simp only [Act.put, List.setIfInBounds_toArray, List.set_cons_zero, List.set_cons_succ]
                refine take_at (i := 8) (v := .bool false) 77 rfl rfl (by kernel_rfl) (by kernel_rfl) (by kernel_rfl) (fun _ _ _ h => by cases h.1) (Or.inl ⟨by rfl, fun w' hSw => by go_simp⟩) (by assumption) ?_
                simp only [Act.put, List.setIfInBounds_toArray, List.set_cons_zero, List.set_cons_succ]
                refine take_at (i := 9) (v := .bool false) 78 rfl rfl (by kernel_rfl) (by kernel_rfl) (by kernel_rfl) (fun _ _ _ h => by cases h.1) (Or.inl ⟨by rfl, fun w' hSw => by go_simp⟩) (by assumption) ?_
                simp only [Act.put, List.setIfInBounds_toArray, List.set_cons_zero, List.set_cons_succ]
                refine take_at (i := 10) (v := .bool false) 79 rfl rfl (by kernel_rfl) (by kernel_rfl) (by kernel_rfl) (fun _ _ _ h => by cases h.1) (Or.inl ⟨by rfl, fun w' hSw => by go_simp⟩) (by assumption) ?_
                simp only [Act.put, List.setIfInBounds_toArray, List.set_cons_zero, List.set_cons_succ]
                refine take_at (i := 11) (v := .agg #[.bool s12, .slice a12 n12 c12]) 80 rfl rfl (by kernel_rfl) (by kernel_rfl) (by kernel_rfl) (fun _ _ _ h => by cases h.1) (Or.inl ⟨by rfl, fun w' hSw => by have qa := (hSw.cell (p := ⟨B12, 0, none⟩) hl12).trans x12; have qb := (hSw.cell (p := ⟨B12, 1, none⟩) hl12).trans y12; go_simp⟩) (by assumption) ?_
                simp only [Act.put, List.setIfInBounds_toArray, List.set_cons_zero, List.set_cons_succ]
                refine take_at (i := 13) (v := .string WT) 82 rfl rfl (by kernel_rfl) (by kernel_rfl) (by kernel_rfl) (fun _ _ _ h => by cases h.1) (Or.inl ⟨by rfl, fun w' hSw => by go_simp⟩) (by assumption) ?_
                simp only [Act.put, List.setIfInBounds_toArray, List.set_cons_zero, List.set_cons_succ]
                refine wpAnyH_one 12 (by kernel_rfl) ?_
                refine wpOp_call (i := 12) (f := 20) (args := #[.agg #[.bool s12, .slice a12 n12 c12]]) 81 rfl rfl (by rfl) (by go_simp) ?_
                refine Calls.mono (CT12.out _ hHeld) ?_
                rintro e v1 ⟨rfl, kv1⟩
                have hv1 : Below WE.heap.size WE v1 := hHeld.trans (kv1.mono hHeld.size)
                refine ⟨_, rfl, hv1, ?_⟩
                simp only [Act.put, List.setIfInBounds_toArray, List.set_cons_zero, List.set_cons_succ]
                refine take_at (i := 14) (v := .bool false) 83 rfl rfl (by kernel_rfl) (by kernel_rfl) (by kernel_rfl) (fun _ _ _ h => by cases h.1) (Or.inl ⟨by rfl, fun w' hSw => by go_simp⟩) (by assumption) ?_
                simp only [Act.put, List.setIfInBounds_toArray, List.set_cons_zero, List.set_cons_succ]
                refine take_at (i := 15) (v := .bool false) 84 rfl rfl (by kernel_rfl) (by kernel_rfl) (by kernel_rfl) (fun _ _ _ h => by cases h.1) (Or.inl ⟨by rfl, fun w' hSw => by go_simp⟩) (by assumption) ?_
                simp only [Act.put, List.setIfInBounds_toArray, List.set_cons_zero, List.set_cons_succ]
                refine take_at (i := 16) (v := .bool false) 85 rfl rfl (by kernel_rfl) (by kernel_rfl) (by kernel_rfl) (fun _ _ _ h => by cases h.1) (Or.inl ⟨by rfl, fun w' hSw => by go_simp⟩) (by assumption) ?_
                simp only [Act.put, List.setIfInBounds_toArray, List.set_cons_zero, List.set_cons_succ]
                refine take_at (i := 17) (v := .agg #[.bool s15, .slice a15 n15 c15]) 86 rfl rfl (by kernel_rfl) (by kernel_rfl) (by kernel_rfl) (fun _ _ _ h => by cases h.1) (Or.inl ⟨by rfl, fun w' hSw => by have qa := (hSw.cell (p := ⟨B15, 0, none⟩) hl15).trans x15; have qb := (hSw.cell (p := ⟨B15, 1, none⟩) hl15).trans y15; go_simp⟩) (by assumption) ?_
                simp only [Act.put, List.setIfInBounds_toArray, List.set_cons_zero, List.set_cons_succ]
                refine take_at (i := 18) (v := .agg #[.bool false, .slice a6 n6 c6]) 87 rfl rfl (by kernel_rfl) (by kernel_rfl) (by kernel_rfl) (fun _ _ _ h => by cases h.1) (Or.inl ⟨by rfl, fun w' hSw => by have qa := (hSw.cell (p := ⟨B6, 0, none⟩) hl6).trans x6; have qb := (hSw.cell (p := ⟨B6, 1, none⟩) hl6).trans y6; go_simp⟩) (by assumption) ?_
                simp only [Act.put, List.setIfInBounds_toArray, List.set_cons_zero, List.set_cons_succ]
                refine wpAnyH_one 19 (by kernel_rfl) ?_
                refine wpOp_call (i := 19) (f := 18) (args := #[.agg #[.bool s15, .slice a15 n15 c15], .agg #[.bool false, .slice a6 n6 c6]]) 88 rfl rfl (by rfl) (by go_simp) ?_
                refine Calls.mono (CS.out _ hv1) ?_
                rintro e v2 ⟨rfl, kv2⟩
                have hv2 : Below WE.heap.size WE v2 := hv1.trans (kv2.mono hv1.size)
                refine ⟨_, rfl, hv2, ?_⟩
                simp only [Act.put, List.setIfInBounds_toArray, List.set_cons_zero, List.set_cons_succ]
                refine take_at (i := 20) (v := .bool false) 89 rfl rfl (by kernel_rfl) (by kernel_rfl) (by kernel_rfl) (fun _ _ _ h => by cases h.1) (Or.inl ⟨by rfl, fun w' hSw => by go_simp⟩) (by assumption) ?_
                simp only [Act.put, List.setIfInBounds_toArray, List.set_cons_zero, List.set_cons_succ]
                refine take_at (i := 21) (v := .bool false) 90 rfl rfl (by kernel_rfl) (by kernel_rfl) (by kernel_rfl) (fun _ _ _ h => by cases h.1) (Or.inl ⟨by rfl, fun w' hSw => by go_simp⟩) (by assumption) ?_
                simp only [Act.put, List.setIfInBounds_toArray, List.set_cons_zero, List.set_cons_succ]
                refine take_at (i := 22) (v := .bool false) 91 rfl rfl (by kernel_rfl) (by kernel_rfl) (by kernel_rfl) (fun _ _ _ h => by cases h.1) (Or.inl ⟨by rfl, fun w' hSw => by go_simp⟩) (by assumption) ?_
                simp only [Act.put, List.setIfInBounds_toArray, List.set_cons_zero, List.set_cons_succ]
                refine take_at (i := 23) (v := .pointer (some ⟨B6, 0, none⟩)) 92 rfl rfl (by kernel_rfl) (by kernel_rfl) (by kernel_rfl) (fun _ _ _ h => by cases h.1) (Or.inl ⟨by rfl, fun w' hSw => by go_simp⟩) (by assumption) ?_
                simp only [Act.put, List.setIfInBounds_toArray, List.set_cons_zero, List.set_cons_succ]
                refine take_at (i := 24) (v := .bool false) 93 rfl rfl (by kernel_rfl) (by kernel_rfl) (by kernel_rfl) (fun _ _ _ h => by cases h.1) (Or.inl ⟨by rfl, fun w' hSw => by have qa := (hSw.cell (p := ⟨B6, 0, none⟩) hl6).trans x6; go_simp⟩) (by assumption) ?_
                simp only [Act.put, List.setIfInBounds_toArray, List.set_cons_zero, List.set_cons_succ]
                refine take_at (i := 25) (v := .bool false) 94 rfl rfl (by kernel_rfl) (by kernel_rfl) (by kernel_rfl) (fun _ _ _ h => by cases h.1) (Or.inl ⟨by rfl, fun w' hSw => by go_simp⟩) (by assumption) ?_
                simp only [Act.put, List.setIfInBounds_toArray, List.set_cons_zero, List.set_cons_succ]
                refine take_at (i := 26) (v := undef) 95 rfl rfl (by kernel_rfl) (by kernel_rfl) (by kernel_rfl) (fun _ _ _ h => by cases h.1) (Or.inr ⟨by rfl, rfl⟩) (by assumption) ?_
                simp only [Act.put, List.setIfInBounds_toArray, List.set_cons_zero, List.set_cons_succ]
                refine take_at (i := 27) (v := undef) 96 rfl rfl (by kernel_rfl) (by kernel_rfl) (by kernel_rfl) (fun _ _ _ h => by cases h.1) (Or.inr ⟨by rfl, rfl⟩) (by assumption) ?_
                simp only [Act.put, List.setIfInBounds_toArray, List.set_cons_zero, List.set_cons_succ]
                refine take_at (i := 28) (v := undef) 97 rfl rfl (by kernel_rfl) (by kernel_rfl) (by kernel_rfl) (fun _ _ _ h => by cases h.1) (Or.inr ⟨by rfl, rfl⟩) (by assumption) ?_
                simp only [Act.put, List.setIfInBounds_toArray, List.set_cons_zero, List.set_cons_succ]
                refine take_at (i := 29) (v := undef) 98 rfl rfl (by kernel_rfl) (by kernel_rfl) (by kernel_rfl) (fun _ _ _ h => by cases h.1) (Or.inr ⟨by rfl, rfl⟩) (by assumption) ?_
                simp only [Act.put, List.setIfInBounds_toArray, List.set_cons_zero, List.set_cons_succ]
                refine take_at (i := 30) (v := undef) 99 rfl rfl (by kernel_rfl) (by kernel_rfl) (by kernel_rfl) (fun _ _ _ h => by cases h.1) (Or.inr ⟨by rfl, rfl⟩) (by assumption) ?_
                simp only [Act.put, List.setIfInBounds_toArray, List.set_cons_zero, List.set_cons_succ]
                refine take_at (i := 31) (v := undef) 100 rfl rfl (by kernel_rfl) (by kernel_rfl) (by kernel_rfl) (fun _ _ _ h => by cases h.1) (Or.inr ⟨by rfl, rfl⟩) (by assumption) ?_
                simp only [Act.put, List.setIfInBounds_toArray, List.set_cons_zero, List.set_cons_succ]
                refine take_at (i := 32) (v := .bool false) 101 rfl rfl (by kernel_rfl) (by kernel_rfl) (by kernel_rfl) (fun _ _ _ h => by cases h.1) (Or.inl ⟨by rfl, fun w' hSw => by go_simp⟩) (by assumption) ?_
                simp only [Act.put, List.setIfInBounds_toArray, List.set_cons_zero, List.set_cons_succ]
                refine take_at (i := 33) (v := .bool false) 102 rfl rfl (by kernel_rfl) (by kernel_rfl) (by kernel_rfl) (fun _ _ _ h => by cases h.1) (Or.inl ⟨by rfl, fun w' hSw => by go_simp⟩) (by assumption) ?_
                simp only [Act.put, List.setIfInBounds_toArray, List.set_cons_zero, List.set_cons_succ]
                refine wpAnyH_done (by kernel_rfl) ?_ _
                refine ⟨rfl, ?_⟩
                rw [HRR.out]
                exact ⟨_, _, _, _, _, _, _, _, _, _, _, _, _, _, _, _, _, _, _, _, _, _, _, _, _, _, _, _, _, _, _, _, _, _, _, _, _, _, _, _, _, _, _, _, _, _, _, _, rfl, hv2⟩
              · have hcat := HCAT.out (by have := HE.out; simpa using this.symm)
                have hlt := HLT.out
                go_region_held3 (fun w' => w'.cell? ⟨B6, 0, none⟩ = some (.bool true) ∧ w'.cell? ⟨B6, 1, none⟩ = some (.slice a6 n6 c6) ∧ w'.cell? ⟨B9, 0, none⟩ = some (.bool false) ∧ w'.cell? ⟨B9, 1, none⟩ = some (.slice a6 n6 c6) ∧ w'.cell? ⟨B12, 0, none⟩ = some (.bool s12) ∧ w'.cell? ⟨B12, 1, none⟩ = some (.slice a12 n12 c12) ∧ w'.cell? ⟨B15, 0, none⟩ = some (.bool s15) ∧ w'.cell? ⟨B15, 1, none⟩ = some (.slice a15 n15 c15))
                  (first | exact ⟨x6, y6, x9, y9, x12, y12, x15, y15⟩ | exact ⟨x6a, y6a, x9a, y9a, x12a, y12a, x15a, y15a⟩ | exact ⟨x6b, y6b, x9b, y9b, x12b, y12b, x15b, y15b⟩ | exact ⟨x6c, y6c, x9c, y9c, x12c, y12c, x15c, y15c⟩ | exact ⟨x6d, y6d, x9d, y9d, x12d, y12d, x15d, y15d⟩ | go_keep)
                  (first
                    | (go_at_call 20; with_reducible refine Calls.mono (CT12.out _ (Below.refl _ _)) ?_; rintro e v1 ⟨rfl, kv1⟩; have hv1 := kv1; have x6a := (kv1.cell (p := ⟨B6, 0, none⟩) (lt_of_cell x6)).trans x6; have y6a := (kv1.cell (p := ⟨B6, 1, none⟩) (lt_of_cell y6)).trans y6; have x9a := (kv1.cell (p := ⟨B9, 0, none⟩) (lt_of_cell x9)).trans x9; have y9a := (kv1.cell (p := ⟨B9, 1, none⟩) (lt_of_cell y9)).trans y9; have x12a := (kv1.cell (p := ⟨B12, 0, none⟩) (lt_of_cell x12)).trans x12; have y12a := (kv1.cell (p := ⟨B12, 1, none⟩) (lt_of_cell y12)).trans y12; have x15a := (kv1.cell (p := ⟨B15, 0, none⟩) (lt_of_cell x15)).trans x15; have y15a := (kv1.cell (p := ⟨B15, 1, none⟩) (lt_of_cell y15)).trans y15)
                    | (go_at_call 18; with_reducible refine Calls.mono (CS.out _ hv1) ?_; rintro e v2 ⟨rfl, kv2⟩; have hv2 := hv1.trans (kv2.mono hv1.size); have x6b := (kv2.cell (p := ⟨B6, 0, none⟩) (lt_of_cell x6a)).trans x6a; have y6b := (kv2.cell (p := ⟨B6, 1, none⟩) (lt_of_cell y6a)).trans y6a; have x9b := (kv2.cell (p := ⟨B9, 0, none⟩) (lt_of_cell x9a)).trans x9a; have y9b := (kv2.cell (p := ⟨B9, 1, none⟩) (lt_of_cell y9a)).trans y9a; have x12b := (kv2.cell (p := ⟨B12, 0, none⟩) (lt_of_cell x12a)).trans x12a; have y12b := (kv2.cell (p := ⟨B12, 1, none⟩) (lt_of_cell y12a)).trans y12a; have x15b := (kv2.cell (p := ⟨B15, 0, none⟩) (lt_of_cell x15a)).trans x15a; have y15b := (kv2.cell (p := ⟨B15, 1, none⟩) (lt_of_cell y15a)).trans y15a)
                    | (go_at_call 20; with_reducible refine Calls.mono (CT6.out _ hv2) ?_; rintro e v3 ⟨rfl, kv3⟩; have hv3 := hv2.trans (kv3.mono hv2.size); have x6c := (kv3.cell (p := ⟨B6, 0, none⟩) (lt_of_cell x6b)).trans x6b; have y6c := (kv3.cell (p := ⟨B6, 1, none⟩) (lt_of_cell y6b)).trans y6b; have x9c := (kv3.cell (p := ⟨B9, 0, none⟩) (lt_of_cell x9b)).trans x9b; have y9c := (kv3.cell (p := ⟨B9, 1, none⟩) (lt_of_cell y9b)).trans y9b; have x12c := (kv3.cell (p := ⟨B12, 0, none⟩) (lt_of_cell x12b)).trans x12b; have y12c := (kv3.cell (p := ⟨B12, 1, none⟩) (lt_of_cell y12b)).trans y12b; have x15c := (kv3.cell (p := ⟨B15, 0, none⟩) (lt_of_cell x15b)).trans x15b; have y15c := (kv3.cell (p := ⟨B15, 1, none⟩) (lt_of_cell y15b)).trans y15b)
                    | (go_at_call 20; with_reducible refine Calls.mono (CT9.out _ hv3) ?_; rintro e v4 ⟨rfl, kv4⟩; have hv4 := hv3.trans (kv4.mono hv3.size); have x6d := (kv4.cell (p := ⟨B6, 0, none⟩) (lt_of_cell x6c)).trans x6c; have y6d := (kv4.cell (p := ⟨B6, 1, none⟩) (lt_of_cell y6c)).trans y6c; have x9d := (kv4.cell (p := ⟨B9, 0, none⟩) (lt_of_cell x9c)).trans x9c; have y9d := (kv4.cell (p := ⟨B9, 1, none⟩) (lt_of_cell y9c)).trans y9c; have x12d := (kv4.cell (p := ⟨B12, 0, none⟩) (lt_of_cell x12c)).trans x12c; have y12d := (kv4.cell (p := ⟨B12, 1, none⟩) (lt_of_cell y12c)).trans y12c; have x15d := (kv4.cell (p := ⟨B15, 0, none⟩) (lt_of_cell x15c)).trans x15c; have y15d := (kv4.cell (p := ⟨B15, 1, none⟩) (lt_of_cell y15c)).trans y15c))
                (refine ⟨rfl, ?_⟩; rw [HRR.out]; exact ⟨_, _, _, _, _, _, _, _, _, _, _, _, _, _, _, _, _, _, _, _, _, _, _, _, _, _, _, _, _, _, _, _, _, _, _, _, _, _, _, _, _, _, _, _, _, _, _, _, rfl, hv4⟩)
            case imp =>
              rintro e x W16 ⟨rfl, hr⟩
              rw [HRR.out] at hr
              obtain ⟨z54, z55, z56, z57, z58, z59, z60, z61, z62, z63, z64, z65, z66, z67, z68, z69, z70, z71, z72, z73, z74, z75, z76, z77, z78, z79, z80, z81, z82, z83, z84, z85, z86, z87, z88, z89, z90, z91, z92, z93, z94, z95, z96, z97, z98, z99, z100, z101, rfl, hkeep⟩ := hr
              clear HRR RR HCAT HLT
              have hB := hB.drew.trans (hkeep.mono hB.size)
              have H7 := Held.below (w := W15.drew) (H7.below (Below.drew (Below.refl _ _))) hkeep
              have H9 := Held.below (w := W15.drew) (H9.below (Below.drew (Below.refl _ _))) hkeep
              clear hkeep H6 H12 H15
              have hN7 := abs_num H7.num
              rw [HV.out] at hN7
              obtain ⟨TV, hTV⟩ : ∃ TV : ByteArray, (⟨(txtZ (v : Int)).toArray⟩ : ByteArray) = TV := ⟨_, rfl⟩
              have HTV := hide hTV
              have hB' := hB.drew
              have CT9 : Hid (∀ W, Below W16.drew.heap.size W16.drew W → Calls Tryz.prog 20 #[.agg #[.bool false, .slice a6 n6 c6]] W fun e w' => e = .returned (.string TP) ∧ Below W.heap.size W w') := fun W hW => by
                have := text_num false a6 n6 c6 (u : Int) k6 W ((ht.below hB').below hW) ((H9.num.below (Below.drew (Below.refl _ _)) : IsN W16.drew false a6 n6 (u : Int)).below hW)
                rw [HTP.out] at this; exact this
              have CT7 : Hid (∀ W, Below W16.drew.heap.size W16.drew W → Calls Tryz.prog 20 #[.agg #[.bool false, .slice a7 n7 c7]] W fun e w' => e = .returned (.string TV) ∧ Below W.heap.size W w') := fun W hW => by
                have := text_num false a7 n7 c7 (v : Int) k7 W ((ht.below hB').below hW) ((hN7.below (Below.drew (Below.refl _ _)) : IsN W16.drew false a7 n7 (v : Int)).below hW)
                rw [HTV.out] at this; exact this
              have hsP : TP.size = Lib.nDigits u := by rw [← HTP.out, bytes_size, nat_txt, Lib.decDigits_length]
              have hsV : TV.size = Lib.nDigits v := by rw [← hTV, bytes_size, nat_txt, Lib.decDigits_length]
              clear hTV
              obtain ⟨x9, y9, -, -⟩ := (H9.below (Below.drew (Below.refl _ _)) : Held W16.drew B9 false a6 n6 c6 (u : Int)).box
              obtain ⟨x7, y7, -, -⟩ := (H7.below (Below.drew (Below.refl _ _)) : Held W16.drew B7 s7 a7 n7 c7 B).box
              go_wp2_with fail
              go_region_held3 (fun w' => w'.cell? ⟨B9, 0, none⟩ = some (.bool false) ∧ w'.cell? ⟨B9, 1, none⟩ = some (.slice a6 n6 c6) ∧ w'.cell? ⟨B7, 1, none⟩ = some (.slice a7 n7 c7))
                (first | exact ⟨x9, y9, y7⟩ | exact ⟨x9a, y9a, y7a⟩ | exact ⟨x9b, y9b, y7b⟩ | go_keep)
                (first
                  | (go_at_call 20; with_reducible refine Calls.mono (CT9.out _ (Below.refl _ _)) ?_; rintro e v1 ⟨rfl, kv1⟩; have x9a := (kv1.cell (p := ⟨B9, 0, none⟩) (lt_of_cell x9)).trans x9; have y9a := (kv1.cell (p := ⟨B9, 1, none⟩) (lt_of_cell y9)).trans y9; have y7a := (kv1.cell (p := ⟨B7, 1, none⟩) (lt_of_cell y7)).trans y7)
                  | (go_at_call 20; with_reducible refine Calls.mono (CT7.out _ kv1) ?_; rintro e v2 ⟨rfl, kv2⟩; have x9b := (kv2.cell (p := ⟨B9, 0, none⟩) (lt_of_cell x9a)).trans x9a; have y9b := (kv2.cell (p := ⟨B9, 1, none⟩) (lt_of_cell y9a)).trans y9a; have y7b := (kv2.cell (p := ⟨B7, 1, none⟩) (lt_of_cell y7a)).trans y7a))
              have kv : Below W16.drew.heap.size W16.drew v2 := kv1.trans (kv2.mono kv1.size)
              have hB2 := hB'.trans (kv.mono hB'.size)
              have hN9 := ((H9.num.below (Below.drew (Below.refl _ _)) : IsN W16.drew false a6 n6 (u : Int)).below kv)
              have hN7' := ((hN7.below (Below.drew (Below.refl _ _)) : IsN W16.drew false a7 n7 (v : Int)).below kv)
              clear x9 y9 x7 y7 x9a y9a y7a kv1 kv2 kv CT9 CT7
              go_wp2_with fail
              clear x9b y9b y7b
              refine (cmp_any false false a6 a7 n6 n7 c6 c7 (u : Int) (v : Int) k6 k7 v2 hN9 hN7').mono ?_
              rintro e v3 ⟨rfl, kv3⟩
              have hB3 := hB2.trans (kv3.mono hB2.size)
              clear hN9 hN7' kv3 hB2 hN7 hB'
              have hlP : TP.toList = Lib.decDigits u := by rw [← HTP.out, nat_txt]; exact bytes_toList _
              have hlV : TV.toList = Lib.decDigits v := by rw [← HTV.out, nat_txt]; exact bytes_toList _
              have hbe : (TP.toList == TV.toList) = decide (u = v) := by rw [hlP, hlV]; exact dec_beq u v
              have hbl : Lib.nDigits u = Lib.nDigits v → Op.bytesLess TP.toList TV.toList = decide (u < v) := fun h => by rw [hlP, hlV]; exact dec_less h
              have HBL := hide hbl
              clear hlP hlV hbl
              rcases Nat.lt_trichotomy u v with h | h | h
              · have hz : cmpZ (u : Int) (v : Int) = -1 := by unfold cmpZ; rw [if_pos (by omega)]
                rw [hz]
                clear hz
                have hbe' : (TP.toList == TV.toList) = false := by rw [hbe]; simp; omega
                by_cases hq : Lib.nDigits u = Lib.nDigits v
                · have hb := HBL.out hq
                  have hb' : Op.bytesLess TP.toList TV.toList = true := by rw [hb]; simpa using h
                  have hq' : ((Lib.nDigits u : Int) != (Lib.nDigits v : Int)) = false := by simp; omega
                  clear hb hbe
                  go_wp2
                  go_ret
                  exact ⟨rfl, hB3⟩
                · have hql : Lib.nDigits u < Lib.nDigits v := Nat.lt_of_le_of_ne (Nat.le_of_not_lt fun h2 => by have := nd_lt h2; omega) hq
                  have hqi : (Lib.nDigits u : Int) < (Lib.nDigits v : Int) := by omega
                  have hq' : ((Lib.nDigits u : Int) != (Lib.nDigits v : Int)) = true := by simp; omega
                  clear hbe
                  go_wp2
                  go_ret
                  exact ⟨rfl, hB3⟩
              · subst h
                have hz : cmpZ (u : Int) (u : Int) = 0 := by unfold cmpZ; rw [if_neg (by omega), if_pos rfl]
                rw [hz]
                clear hz
                have hbe' : (TP.toList == TV.toList) = true := by rw [hbe]; simp
                have hb' : Op.bytesLess TP.toList TV.toList = false := by rw [HBL.out rfl]; simp
                clear hbe
                go_wp2
                go_ret
                exact ⟨rfl, hB3⟩
              · have hz : cmpZ (u : Int) (v : Int) = 1 := by unfold cmpZ; rw [if_neg (by omega), if_neg (by omega)]
                rw [hz]
                clear hz
                have hbe' : (TP.toList == TV.toList) = false := by rw [hbe]; simp; omega
                by_cases hq : Lib.nDigits u = Lib.nDigits v
                · have hb := HBL.out hq
                  have hb' : Op.bytesLess TP.toList TV.toList = false := by rw [hb]; simp; omega
                  have hq' : ((Lib.nDigits u : Int) != (Lib.nDigits v : Int)) = false := by simp; omega
                  clear hb hbe
                  go_wp2
                  go_ret
                  exact ⟨rfl, hB3⟩
                · have hql : ¬ Lib.nDigits u < Lib.nDigits v := fun h2 => by have := nd_lt h2; omega
                  have hqi : ¬ (Lib.nDigits u : Int) < (Lib.nDigits v : Int) := by omega
                  have hq' : ((Lib.nDigits u : Int) != (Lib.nDigits v : Int)) = true := by simp; omega
                  clear hbe
                  go_wp2
                  go_ret
                  exact ⟨rfl, hB3⟩
          · have hn6' : ((n6 : Int) == 0) = true := by simp; omega
            rw [hw2] at hWT
            rw [hw]
            have hx : (⟨#[48, cd]⟩ : ByteArray).extract (min (1 : Int) 2).toNat 2 = WT := by
              rw [← hWT]
              exact bytes_extract [48, cd] 1 2
            have HX := hide hx
            clear hw hw2 hx hWT hn6
            obtain ⟨x6, y6, -, -⟩ := H6.box
            go_wp2_with fail
            try rw [HX.out]
            refine (text_num s6 a6 n6 c6 A k6 W14 (ht.below hB) H6.num).mono ?_
            rintro e w15 ⟨rfl, hk15⟩
            clear x6 y6
            have hB := hB.trans (hk15.mono hB.size)
            have H6 := H6.below hk15
            have H7 := H7.below hk15
            have H9 := H9.below hk15
            have H12 := H12.below hk15
            clear hk15
            go_wp2_with fail
            refine (parse_txt A FA w15).mono ?_
            rintro e w16 ⟨s15, a15, n15, c15, rfl, Nb, -, hk16⟩
            have k15 : n15 ≤ 64 := by rw [Nb.dig.len]; exact FA
            have hB := hB.trans (hk16.mono hB.size)
            have H6 := H6.below hk16
            have H7 := H7.below hk16
            have H9 := H9.below hk16
            have H12 := H12.below hk16
            have H15 := Held.new c15 Nb 27
            have hka := below_alloc' w16 (Obj.cells #[.bool s15, .slice a15 n15 c15] 27)
            obtain ⟨W15, hW15⟩ : ∃ W, w16.alloc (Obj.cells #[.bool s15, .slice a15 n15 c15] 27) = W := ⟨_, rfl⟩
            obtain ⟨B15, hB15⟩ : ∃ B, w16.heap.size = B := ⟨_, rfl⟩
            rw [hW15] at H15 hka
            have hB := hB.trans (hka.mono hB.size)
            have H6 := H6.below hka
            have H7 := H7.below hka
            have H9 := H9.below hka
            have H12 := H12.below hka
            rw [hB15] at H15
            clear hk16 Nb hka
            go_wp2_with fail
            try rw [hW15]
            try rw [hB15]
            clear hW15 hB15
            obtain ⟨RR, hRR⟩ : ∃ RR : Act → World → Prop, RR = (fun x w' => ∃ (z54 z55 z56 z57 z58 z59 z60 z61 z62 z63 z64 z65 z66 z67 z68 z69 z70 z71 z72 z73 z74 z75 z76 z77 z78 z79 z80 z81 z82 z83 z84 z85 z86 z87 z88 z89 z90 z91 z92 z93 z94 z95 z96 z97 z98 z99 z100 z101 : Value), x = ⟨#[.agg #[.slice x0 L0 d0, .slice x1 L1 d1], .int .u8 lo, .pointer (some ⟨w.heap.size, 0, none⟩), undef, .bool false, .bool true, .pointer (some ⟨B6, 0, none⟩), .pointer (some ⟨B7, 0, none⟩), .int .i64 (dd : Int), .pointer (some ⟨B9, 0, none⟩), .pointer (some ⟨B10, 0, none⟩), .bool true, .pointer (some ⟨B12, 0, none⟩), .bool true, .string WT, .pointer (some ⟨B15, 0, none⟩), .bool true, undef, undef, undef, .bool true, .pointer (some ⟨w.heap.size, 0, none⟩), .slice x0 L0 d0, v23, .pointer (some ⟨w.heap.size, 1, none⟩), .slice x1 L1 d1, v26, .int .u8 lo, .int .i64 lo, .int .i64 (dd : Int), .pointer (some ⟨B6, 1, none⟩), .slice a6 n6 c6, .agg #[.bool false, .slice a6 n6 c6], y33, y34, y35, y36, y37, y38, y39, y40, y41, y42, y43, y44, y45, y46, y47, y48, y49, y50, y51, y52, y53, z54, z55, z56, z57, z58, z59, z60, z61, z62, z63, z64, z65, z66, z67, z68, z69, z70, z71, z72, z73, z74, z75, z76, z77, z78, z79, z80, z81, z82, z83, z84, z85, z86, z87, z88, z89, z90, z91, z92, z93, z94, z95, z96, z97, z98, z99, z100, z101, .bool false, undef, undef, undef, undef, undef, undef, undef, undef, undef, undef, undef, undef, undef, undef, undef, undef, undef, undef, undef, undef, undef, undef, undef, undef, undef, undef, undef, undef, undef, undef, undef, undef, undef, undef, undef, undef, undef, undef, undef, undef, undef, undef, undef, undef, undef, undef, undef, undef], []⟩ ∧ Below W15.drew.heap.size W15.drew w') := ⟨_, rfl⟩
            have HRR := hide hRR
            clear hRR
            refine Code.wp_mono (Q := fun e x w' => e = Exit.normal ∧ RR x w') ?imp ?reg
            case reg =>
              have hdr := Below.drew (Below.refl W15.heap.size W15)
              have ht' := ht.below (hB.drew)
              have CT12 : Hid (∀ W, Below W15.drew.heap.size W15.drew W → Calls Tryz.prog 20 #[.agg #[.bool s12, .slice a12 n12 c12]] W fun e w' => e = .returned (.string WT) ∧ Below W.heap.size W w') := fun W hW => by
                have := text_num s12 a12 n12 c12 ((u : Int) * 10 + (dd : Int)) k12 W (ht'.below hW) ((H12.below hdr).num.below hW)
                rw [HWT.out] at this; exact this
              have CT6 : Hid (∀ W, Below W15.drew.heap.size W15.drew W → Calls Tryz.prog 20 #[.agg #[.bool s6, .slice a6 n6 c6]] W fun e w' => e = .returned (.string TA) ∧ Below W.heap.size W w') := fun W hW => by
                have := text_num s6 a6 n6 c6 A k6 W (ht'.below hW) ((H6.below hdr).num.below hW)
                rw [HTA.out] at this; exact this
              have CT9 : Hid (∀ W, Below W15.drew.heap.size W15.drew W → Calls Tryz.prog 20 #[.agg #[.bool false, .slice a6 n6 c6]] W fun e w' => e = .returned (.string TP) ∧ Below W.heap.size W w') := fun W hW => by
                have := text_num false a6 n6 c6 (u : Int) k6 W (ht'.below hW) ((H9.below hdr).num.below hW)
                rw [HTP.out] at this; exact this
              have CS : Hid (∀ W, Below W15.drew.heap.size W15.drew W → Calls Tryz.prog 18 #[.agg #[.bool s15, .slice a15 n15 c15], .agg #[.bool s6, .slice a6 n6 c6]] W fun e w' => e = .returned (.bool true) ∧ Below W.heap.size W w') := fun W hW =>
                same_eq s15 s6 a15 a6 n15 n6 c15 c6 A k15 W ((H15.below hdr).num.below hW) ((H6.below hdr).num.below hW)
              have hs6 := H6.num.sign
              obtain ⟨x6, y6, -, -⟩ := (H6.below hdr).box
              obtain ⟨x9, y9, -, -⟩ := (H9.below hdr).box
              obtain ⟨x12, y12, -, -⟩ := (H12.below hdr).box
              obtain ⟨x15, y15, -, -⟩ := (H15.below hdr).box
              have HE := hide hs6
              clear hs6 H6 H7 H9 H12 H15 hB ht'
              cases s6
              · clear HCAT HLT CT6 CT9 x9 y9
                refine wp_region_held_drew (S := fun w' => Below W15.drew.heap.size W15.drew w') (by kernel_rfl) (Below.refl _ _) (fun hHeld => ?_)
                obtain ⟨WE, hWE⟩ : ∃ WE, W15.drew = WE := ⟨_, rfl⟩
                rw [hWE] at x6 y6 x12 y12 x15 y15 hHeld HRR CT12 CS ⊢
                clear hWE
                have hl6 := lt_of_cell x6
                have hl12 := lt_of_cell x12
                have hl15 := lt_of_cell x15
                refine take_at (i := 0) (v := .bool true) 69 rfl rfl (by kernel_rfl) (by kernel_rfl) (by kernel_rfl) (fun _ _ _ h => by cases h.1) (Or.inl ⟨by rfl, fun w' hSw => by go_simp⟩) (by assumption) ?_
                simp only [Act.put, List.setIfInBounds_toArray, List.set_cons_zero, List.set_cons_succ]
                refine take_at (i := 1) (v := .bool false) 70 rfl rfl (by kernel_rfl) (by kernel_rfl) (by kernel_rfl) (fun _ _ _ h => by cases h.1) (Or.inl ⟨by rfl, fun w' hSw => by go_simp⟩) (by assumption) ?_
                simp only [Act.put, List.setIfInBounds_toArray, List.set_cons_zero, List.set_cons_succ]
                refine take_at (i := 2) (v := .bool false) 71 rfl rfl (by kernel_rfl) (by kernel_rfl) (by kernel_rfl) (fun _ _ _ h => by cases h.1) (Or.inl ⟨by rfl, fun w' hSw => by go_simp⟩) (by assumption) ?_
                simp only [Act.put, List.setIfInBounds_toArray, List.set_cons_zero, List.set_cons_succ]
                refine take_at (i := 3) (v := .bool true) 72 rfl rfl (by kernel_rfl) (by kernel_rfl) (by kernel_rfl) (fun _ _ _ h => by cases h.1) (Or.inl ⟨by rfl, fun w' hSw => by go_simp⟩) (by assumption) ?_
                simp only [Act.put, List.setIfInBounds_toArray, List.set_cons_zero, List.set_cons_succ]
                refine take_at (i := 4) (v := .bool false) 73 rfl rfl (by kernel_rfl) (by kernel_rfl) (by kernel_rfl) (fun _ _ _ h => by cases h.1) (Or.inl ⟨by rfl, fun w' hSw => by go_simp⟩) (by assumption) ?_
                simp only [Act.put, List.setIfInBounds_toArray, List.set_cons_zero, List.set_cons_succ]
                refine take_at (i := 5) (v := .bool false) 74 rfl rfl (by kernel_rfl) (by kernel_rfl) (by kernel_rfl) (fun _ _ _ h => by cases h.1) (Or.inl ⟨by rfl, fun w' hSw => by go_simp⟩) (by assumption) ?_
                simp only [Act.put, List.setIfInBounds_toArray, List.set_cons_zero, List.set_cons_succ]
                refine take_at (i := 6) (v := .bool false) 75 rfl rfl (by kernel_rfl) (by kernel_rfl) (by kernel_rfl) (fun _ _ _ h => by cases h.1) (Or.inl ⟨by rfl, fun w' hSw => by go_simp⟩) (by assumption) ?_
                simp only [Act.put, List.setIfInBounds_toArray, List.set_cons_zero, List.set_cons_succ]
                refine take_at (i := 7) (v := .bool true) 76 rfl rfl (by kernel_rfl) (by kernel_rfl) (by kernel_rfl) (fun _ _ _ h => by cases h.1) (Or.inl ⟨by rfl, fun w' hSw => by go_simp⟩) (by assumption) ?_
                simp only [Act.put, List.setIfInBounds_toArray, List.set_cons_zero, List.set_cons_succ]
                refine take_at (i := 8) (v := .bool false) 77 rfl rfl (by kernel_rfl) (by kernel_rfl) (by kernel_rfl) (fun _ _ _ h => by cases h.1) (Or.inl ⟨by rfl, fun w' hSw => by go_simp⟩) (by assumption) ?_
                simp only [Act.put, List.setIfInBounds_toArray, List.set_cons_zero, List.set_cons_succ]
                refine take_at (i := 9) (v := .bool false) 78 rfl rfl (by kernel_rfl) (by kernel_rfl) (by kernel_rfl) (fun _ _ _ h => by cases h.1) (Or.inl ⟨by rfl, fun w' hSw => by go_simp⟩) (by assumption) ?_
                simp only [Act.put, List.setIfInBounds_toArray, List.set_cons_zero, List.set_cons_succ]
                refine take_at (i := 10) (v := .bool false) 79 rfl rfl (by kernel_rfl) (by kernel_rfl) (by kernel_rfl) (fun _ _ _ h => by cases h.1) (Or.inl ⟨by rfl, fun w' hSw => by go_simp⟩) (by assumption) ?_
                simp only [Act.put, List.setIfInBounds_toArray, List.set_cons_zero, List.set_cons_succ]
                refine take_at (i := 11) (v := .agg #[.bool s12, .slice a12 n12 c12]) 80 rfl rfl (by kernel_rfl) (by kernel_rfl) (by kernel_rfl) (fun _ _ _ h => by cases h.1) (Or.inl ⟨by rfl, fun w' hSw => by have qa := (hSw.cell (p := ⟨B12, 0, none⟩) hl12).trans x12; have qb := (hSw.cell (p := ⟨B12, 1, none⟩) hl12).trans y12; go_simp⟩) (by assumption) ?_
                simp only [Act.put, List.setIfInBounds_toArray, List.set_cons_zero, List.set_cons_succ]
                refine take_at (i := 13) (v := .string WT) 82 rfl rfl (by kernel_rfl) (by kernel_rfl) (by kernel_rfl) (fun _ _ _ h => by cases h.1) (Or.inl ⟨by rfl, fun w' hSw => by go_simp⟩) (by assumption) ?_
                simp only [Act.put, List.setIfInBounds_toArray, List.set_cons_zero, List.set_cons_succ]
                refine wpAnyH_one 12 (by kernel_rfl) ?_
                refine wpOp_call (i := 12) (f := 20) (args := #[.agg #[.bool s12, .slice a12 n12 c12]]) 81 rfl rfl (by rfl) (by go_simp) ?_
                refine Calls.mono (CT12.out _ hHeld) ?_
                rintro e v1 ⟨rfl, kv1⟩
                have hv1 : Below WE.heap.size WE v1 := hHeld.trans (kv1.mono hHeld.size)
                refine ⟨_, rfl, hv1, ?_⟩
                simp only [Act.put, List.setIfInBounds_toArray, List.set_cons_zero, List.set_cons_succ]
                refine take_at (i := 14) (v := .bool false) 83 rfl rfl (by kernel_rfl) (by kernel_rfl) (by kernel_rfl) (fun _ _ _ h => by cases h.1) (Or.inl ⟨by rfl, fun w' hSw => by go_simp⟩) (by assumption) ?_
                simp only [Act.put, List.setIfInBounds_toArray, List.set_cons_zero, List.set_cons_succ]
                refine take_at (i := 15) (v := .bool false) 84 rfl rfl (by kernel_rfl) (by kernel_rfl) (by kernel_rfl) (fun _ _ _ h => by cases h.1) (Or.inl ⟨by rfl, fun w' hSw => by go_simp⟩) (by assumption) ?_
                simp only [Act.put, List.setIfInBounds_toArray, List.set_cons_zero, List.set_cons_succ]
                refine take_at (i := 16) (v := .bool false) 85 rfl rfl (by kernel_rfl) (by kernel_rfl) (by kernel_rfl) (fun _ _ _ h => by cases h.1) (Or.inl ⟨by rfl, fun w' hSw => by go_simp⟩) (by assumption) ?_
                simp only [Act.put, List.setIfInBounds_toArray, List.set_cons_zero, List.set_cons_succ]
                refine take_at (i := 17) (v := .agg #[.bool s15, .slice a15 n15 c15]) 86 rfl rfl (by kernel_rfl) (by kernel_rfl) (by kernel_rfl) (fun _ _ _ h => by cases h.1) (Or.inl ⟨by rfl, fun w' hSw => by have qa := (hSw.cell (p := ⟨B15, 0, none⟩) hl15).trans x15; have qb := (hSw.cell (p := ⟨B15, 1, none⟩) hl15).trans y15; go_simp⟩) (by assumption) ?_
                simp only [Act.put, List.setIfInBounds_toArray, List.set_cons_zero, List.set_cons_succ]
                refine take_at (i := 18) (v := .agg #[.bool false, .slice a6 n6 c6]) 87 rfl rfl (by kernel_rfl) (by kernel_rfl) (by kernel_rfl) (fun _ _ _ h => by cases h.1) (Or.inl ⟨by rfl, fun w' hSw => by have qa := (hSw.cell (p := ⟨B6, 0, none⟩) hl6).trans x6; have qb := (hSw.cell (p := ⟨B6, 1, none⟩) hl6).trans y6; go_simp⟩) (by assumption) ?_
                simp only [Act.put, List.setIfInBounds_toArray, List.set_cons_zero, List.set_cons_succ]
                refine wpAnyH_one 19 (by kernel_rfl) ?_
                refine wpOp_call (i := 19) (f := 18) (args := #[.agg #[.bool s15, .slice a15 n15 c15], .agg #[.bool false, .slice a6 n6 c6]]) 88 rfl rfl (by rfl) (by go_simp) ?_
                refine Calls.mono (CS.out _ hv1) ?_
                rintro e v2 ⟨rfl, kv2⟩
                have hv2 : Below WE.heap.size WE v2 := hv1.trans (kv2.mono hv1.size)
                refine ⟨_, rfl, hv2, ?_⟩
                simp only [Act.put, List.setIfInBounds_toArray, List.set_cons_zero, List.set_cons_succ]
                refine take_at (i := 20) (v := .bool false) 89 rfl rfl (by kernel_rfl) (by kernel_rfl) (by kernel_rfl) (fun _ _ _ h => by cases h.1) (Or.inl ⟨by rfl, fun w' hSw => by go_simp⟩) (by assumption) ?_
                simp only [Act.put, List.setIfInBounds_toArray, List.set_cons_zero, List.set_cons_succ]
                refine take_at (i := 21) (v := .bool false) 90 rfl rfl (by kernel_rfl) (by kernel_rfl) (by kernel_rfl) (fun _ _ _ h => by cases h.1) (Or.inl ⟨by rfl, fun w' hSw => by go_simp⟩) (by assumption) ?_
                simp only [Act.put, List.setIfInBounds_toArray, List.set_cons_zero, List.set_cons_succ]
                refine take_at (i := 22) (v := .bool false) 91 rfl rfl (by kernel_rfl) (by kernel_rfl) (by kernel_rfl) (fun _ _ _ h => by cases h.1) (Or.inl ⟨by rfl, fun w' hSw => by go_simp⟩) (by assumption) ?_
                simp only [Act.put, List.setIfInBounds_toArray, List.set_cons_zero, List.set_cons_succ]
                refine take_at (i := 23) (v := .pointer (some ⟨B6, 0, none⟩)) 92 rfl rfl (by kernel_rfl) (by kernel_rfl) (by kernel_rfl) (fun _ _ _ h => by cases h.1) (Or.inl ⟨by rfl, fun w' hSw => by go_simp⟩) (by assumption) ?_
                simp only [Act.put, List.setIfInBounds_toArray, List.set_cons_zero, List.set_cons_succ]
                refine take_at (i := 24) (v := .bool false) 93 rfl rfl (by kernel_rfl) (by kernel_rfl) (by kernel_rfl) (fun _ _ _ h => by cases h.1) (Or.inl ⟨by rfl, fun w' hSw => by have qa := (hSw.cell (p := ⟨B6, 0, none⟩) hl6).trans x6; go_simp⟩) (by assumption) ?_
                simp only [Act.put, List.setIfInBounds_toArray, List.set_cons_zero, List.set_cons_succ]
                refine take_at (i := 25) (v := .bool false) 94 rfl rfl (by kernel_rfl) (by kernel_rfl) (by kernel_rfl) (fun _ _ _ h => by cases h.1) (Or.inl ⟨by rfl, fun w' hSw => by go_simp⟩) (by assumption) ?_
                simp only [Act.put, List.setIfInBounds_toArray, List.set_cons_zero, List.set_cons_succ]
                refine take_at (i := 26) (v := undef) 95 rfl rfl (by kernel_rfl) (by kernel_rfl) (by kernel_rfl) (fun _ _ _ h => by cases h.1) (Or.inr ⟨by rfl, rfl⟩) (by assumption) ?_
                simp only [Act.put, List.setIfInBounds_toArray, List.set_cons_zero, List.set_cons_succ]
                refine take_at (i := 27) (v := undef) 96 rfl rfl (by kernel_rfl) (by kernel_rfl) (by kernel_rfl) (fun _ _ _ h => by cases h.1) (Or.inr ⟨by rfl, rfl⟩) (by assumption) ?_
                simp only [Act.put, List.setIfInBounds_toArray, List.set_cons_zero, List.set_cons_succ]
                refine take_at (i := 28) (v := undef) 97 rfl rfl (by kernel_rfl) (by kernel_rfl) (by kernel_rfl) (fun _ _ _ h => by cases h.1) (Or.inr ⟨by rfl, rfl⟩) (by assumption) ?_
                simp only [Act.put, List.setIfInBounds_toArray, List.set_cons_zero, List.set_cons_succ]
                refine take_at (i := 29) (v := undef) 98 rfl rfl (by kernel_rfl) (by kernel_rfl) (by kernel_rfl) (fun _ _ _ h => by cases h.1) (Or.inr ⟨by rfl, rfl⟩) (by assumption) ?_
                simp only [Act.put, List.setIfInBounds_toArray, List.set_cons_zero, List.set_cons_succ]
                refine take_at (i := 30) (v := undef) 99 rfl rfl (by kernel_rfl) (by kernel_rfl) (by kernel_rfl) (fun _ _ _ h => by cases h.1) (Or.inr ⟨by rfl, rfl⟩) (by assumption) ?_
                simp only [Act.put, List.setIfInBounds_toArray, List.set_cons_zero, List.set_cons_succ]
                refine take_at (i := 31) (v := undef) 100 rfl rfl (by kernel_rfl) (by kernel_rfl) (by kernel_rfl) (fun _ _ _ h => by cases h.1) (Or.inr ⟨by rfl, rfl⟩) (by assumption) ?_
                simp only [Act.put, List.setIfInBounds_toArray, List.set_cons_zero, List.set_cons_succ]
                refine take_at (i := 32) (v := .bool false) 101 rfl rfl (by kernel_rfl) (by kernel_rfl) (by kernel_rfl) (fun _ _ _ h => by cases h.1) (Or.inl ⟨by rfl, fun w' hSw => by go_simp⟩) (by assumption) ?_
                simp only [Act.put, List.setIfInBounds_toArray, List.set_cons_zero, List.set_cons_succ]
                refine take_at (i := 33) (v := .bool false) 102 rfl rfl (by kernel_rfl) (by kernel_rfl) (by kernel_rfl) (fun _ _ _ h => by cases h.1) (Or.inl ⟨by rfl, fun w' hSw => by go_simp⟩) (by assumption) ?_
                simp only [Act.put, List.setIfInBounds_toArray, List.set_cons_zero, List.set_cons_succ]
                refine wpAnyH_done (by kernel_rfl) ?_ _
                refine ⟨rfl, ?_⟩
                rw [HRR.out]
                exact ⟨_, _, _, _, _, _, _, _, _, _, _, _, _, _, _, _, _, _, _, _, _, _, _, _, _, _, _, _, _, _, _, _, _, _, _, _, _, _, _, _, _, _, _, _, _, _, _, _, rfl, hv2⟩
              · have hcat := HCAT.out (by have := HE.out; simpa using this.symm)
                have hlt := HLT.out
                go_region_held3 (fun w' => w'.cell? ⟨B6, 0, none⟩ = some (.bool true) ∧ w'.cell? ⟨B6, 1, none⟩ = some (.slice a6 n6 c6) ∧ w'.cell? ⟨B9, 0, none⟩ = some (.bool false) ∧ w'.cell? ⟨B9, 1, none⟩ = some (.slice a6 n6 c6) ∧ w'.cell? ⟨B12, 0, none⟩ = some (.bool s12) ∧ w'.cell? ⟨B12, 1, none⟩ = some (.slice a12 n12 c12) ∧ w'.cell? ⟨B15, 0, none⟩ = some (.bool s15) ∧ w'.cell? ⟨B15, 1, none⟩ = some (.slice a15 n15 c15))
                  (first | exact ⟨x6, y6, x9, y9, x12, y12, x15, y15⟩ | exact ⟨x6a, y6a, x9a, y9a, x12a, y12a, x15a, y15a⟩ | exact ⟨x6b, y6b, x9b, y9b, x12b, y12b, x15b, y15b⟩ | exact ⟨x6c, y6c, x9c, y9c, x12c, y12c, x15c, y15c⟩ | exact ⟨x6d, y6d, x9d, y9d, x12d, y12d, x15d, y15d⟩ | go_keep)
                  (first
                    | (go_at_call 20; with_reducible refine Calls.mono (CT12.out _ (Below.refl _ _)) ?_; rintro e v1 ⟨rfl, kv1⟩; have hv1 := kv1; have x6a := (kv1.cell (p := ⟨B6, 0, none⟩) (lt_of_cell x6)).trans x6; have y6a := (kv1.cell (p := ⟨B6, 1, none⟩) (lt_of_cell y6)).trans y6; have x9a := (kv1.cell (p := ⟨B9, 0, none⟩) (lt_of_cell x9)).trans x9; have y9a := (kv1.cell (p := ⟨B9, 1, none⟩) (lt_of_cell y9)).trans y9; have x12a := (kv1.cell (p := ⟨B12, 0, none⟩) (lt_of_cell x12)).trans x12; have y12a := (kv1.cell (p := ⟨B12, 1, none⟩) (lt_of_cell y12)).trans y12; have x15a := (kv1.cell (p := ⟨B15, 0, none⟩) (lt_of_cell x15)).trans x15; have y15a := (kv1.cell (p := ⟨B15, 1, none⟩) (lt_of_cell y15)).trans y15)
                    | (go_at_call 18; with_reducible refine Calls.mono (CS.out _ hv1) ?_; rintro e v2 ⟨rfl, kv2⟩; have hv2 := hv1.trans (kv2.mono hv1.size); have x6b := (kv2.cell (p := ⟨B6, 0, none⟩) (lt_of_cell x6a)).trans x6a; have y6b := (kv2.cell (p := ⟨B6, 1, none⟩) (lt_of_cell y6a)).trans y6a; have x9b := (kv2.cell (p := ⟨B9, 0, none⟩) (lt_of_cell x9a)).trans x9a; have y9b := (kv2.cell (p := ⟨B9, 1, none⟩) (lt_of_cell y9a)).trans y9a; have x12b := (kv2.cell (p := ⟨B12, 0, none⟩) (lt_of_cell x12a)).trans x12a; have y12b := (kv2.cell (p := ⟨B12, 1, none⟩) (lt_of_cell y12a)).trans y12a; have x15b := (kv2.cell (p := ⟨B15, 0, none⟩) (lt_of_cell x15a)).trans x15a; have y15b := (kv2.cell (p := ⟨B15, 1, none⟩) (lt_of_cell y15a)).trans y15a)
                    | (go_at_call 20; with_reducible refine Calls.mono (CT6.out _ hv2) ?_; rintro e v3 ⟨rfl, kv3⟩; have hv3 := hv2.trans (kv3.mono hv2.size); have x6c := (kv3.cell (p := ⟨B6, 0, none⟩) (lt_of_cell x6b)).trans x6b; have y6c := (kv3.cell (p := ⟨B6, 1, none⟩) (lt_of_cell y6b)).trans y6b; have x9c := (kv3.cell (p := ⟨B9, 0, none⟩) (lt_of_cell x9b)).trans x9b; have y9c := (kv3.cell (p := ⟨B9, 1, none⟩) (lt_of_cell y9b)).trans y9b; have x12c := (kv3.cell (p := ⟨B12, 0, none⟩) (lt_of_cell x12b)).trans x12b; have y12c := (kv3.cell (p := ⟨B12, 1, none⟩) (lt_of_cell y12b)).trans y12b; have x15c := (kv3.cell (p := ⟨B15, 0, none⟩) (lt_of_cell x15b)).trans x15b; have y15c := (kv3.cell (p := ⟨B15, 1, none⟩) (lt_of_cell y15b)).trans y15b)
                    | (go_at_call 20; with_reducible refine Calls.mono (CT9.out _ hv3) ?_; rintro e v4 ⟨rfl, kv4⟩; have hv4 := hv3.trans (kv4.mono hv3.size); have x6d := (kv4.cell (p := ⟨B6, 0, none⟩) (lt_of_cell x6c)).trans x6c; have y6d := (kv4.cell (p := ⟨B6, 1, none⟩) (lt_of_cell y6c)).trans y6c; have x9d := (kv4.cell (p := ⟨B9, 0, none⟩) (lt_of_cell x9c)).trans x9c; have y9d := (kv4.cell (p := ⟨B9, 1, none⟩) (lt_of_cell y9c)).trans y9c; have x12d := (kv4.cell (p := ⟨B12, 0, none⟩) (lt_of_cell x12c)).trans x12c; have y12d := (kv4.cell (p := ⟨B12, 1, none⟩) (lt_of_cell y12c)).trans y12c; have x15d := (kv4.cell (p := ⟨B15, 0, none⟩) (lt_of_cell x15c)).trans x15c; have y15d := (kv4.cell (p := ⟨B15, 1, none⟩) (lt_of_cell y15c)).trans y15c))
                (refine ⟨rfl, ?_⟩; rw [HRR.out]; exact ⟨_, _, _, _, _, _, _, _, _, _, _, _, _, _, _, _, _, _, _, _, _, _, _, _, _, _, _, _, _, _, _, _, _, _, _, _, _, _, _, _, _, _, _, _, _, _, _, _, rfl, hv4⟩)
            case imp =>
              rintro e x W16 ⟨rfl, hr⟩
              rw [HRR.out] at hr
              obtain ⟨z54, z55, z56, z57, z58, z59, z60, z61, z62, z63, z64, z65, z66, z67, z68, z69, z70, z71, z72, z73, z74, z75, z76, z77, z78, z79, z80, z81, z82, z83, z84, z85, z86, z87, z88, z89, z90, z91, z92, z93, z94, z95, z96, z97, z98, z99, z100, z101, rfl, hkeep⟩ := hr
              clear HRR RR HCAT HLT
              have hB := hB.drew.trans (hkeep.mono hB.size)
              have H7 := Held.below (w := W15.drew) (H7.below (Below.drew (Below.refl _ _))) hkeep
              have H9 := Held.below (w := W15.drew) (H9.below (Below.drew (Below.refl _ _))) hkeep
              clear hkeep H6 H12 H15
              have hN7 := abs_num H7.num
              rw [HV.out] at hN7
              obtain ⟨TV, hTV⟩ : ∃ TV : ByteArray, (⟨(txtZ (v : Int)).toArray⟩ : ByteArray) = TV := ⟨_, rfl⟩
              have HTV := hide hTV
              have hB' := hB.drew
              have CT9 : Hid (∀ W, Below W16.drew.heap.size W16.drew W → Calls Tryz.prog 20 #[.agg #[.bool false, .slice a6 n6 c6]] W fun e w' => e = .returned (.string TP) ∧ Below W.heap.size W w') := fun W hW => by
                have := text_num false a6 n6 c6 (u : Int) k6 W ((ht.below hB').below hW) ((H9.num.below (Below.drew (Below.refl _ _)) : IsN W16.drew false a6 n6 (u : Int)).below hW)
                rw [HTP.out] at this; exact this
              have CT7 : Hid (∀ W, Below W16.drew.heap.size W16.drew W → Calls Tryz.prog 20 #[.agg #[.bool false, .slice a7 n7 c7]] W fun e w' => e = .returned (.string TV) ∧ Below W.heap.size W w') := fun W hW => by
                have := text_num false a7 n7 c7 (v : Int) k7 W ((ht.below hB').below hW) ((hN7.below (Below.drew (Below.refl _ _)) : IsN W16.drew false a7 n7 (v : Int)).below hW)
                rw [HTV.out] at this; exact this
              have hsP : TP.size = Lib.nDigits u := by rw [← HTP.out, bytes_size, nat_txt, Lib.decDigits_length]
              have hsV : TV.size = Lib.nDigits v := by rw [← hTV, bytes_size, nat_txt, Lib.decDigits_length]
              clear hTV
              obtain ⟨x9, y9, -, -⟩ := (H9.below (Below.drew (Below.refl _ _)) : Held W16.drew B9 false a6 n6 c6 (u : Int)).box
              obtain ⟨x7, y7, -, -⟩ := (H7.below (Below.drew (Below.refl _ _)) : Held W16.drew B7 s7 a7 n7 c7 B).box
              go_wp2_with fail
              go_region_held3 (fun w' => w'.cell? ⟨B9, 0, none⟩ = some (.bool false) ∧ w'.cell? ⟨B9, 1, none⟩ = some (.slice a6 n6 c6) ∧ w'.cell? ⟨B7, 1, none⟩ = some (.slice a7 n7 c7))
                (first | exact ⟨x9, y9, y7⟩ | exact ⟨x9a, y9a, y7a⟩ | exact ⟨x9b, y9b, y7b⟩ | go_keep)
                (first
                  | (go_at_call 20; with_reducible refine Calls.mono (CT9.out _ (Below.refl _ _)) ?_; rintro e v1 ⟨rfl, kv1⟩; have x9a := (kv1.cell (p := ⟨B9, 0, none⟩) (lt_of_cell x9)).trans x9; have y9a := (kv1.cell (p := ⟨B9, 1, none⟩) (lt_of_cell y9)).trans y9; have y7a := (kv1.cell (p := ⟨B7, 1, none⟩) (lt_of_cell y7)).trans y7)
                  | (go_at_call 20; with_reducible refine Calls.mono (CT7.out _ kv1) ?_; rintro e v2 ⟨rfl, kv2⟩; have x9b := (kv2.cell (p := ⟨B9, 0, none⟩) (lt_of_cell x9a)).trans x9a; have y9b := (kv2.cell (p := ⟨B9, 1, none⟩) (lt_of_cell y9a)).trans y9a; have y7b := (kv2.cell (p := ⟨B7, 1, none⟩) (lt_of_cell y7a)).trans y7a))
              have kv : Below W16.drew.heap.size W16.drew v2 := kv1.trans (kv2.mono kv1.size)
              have hB2 := hB'.trans (kv.mono hB'.size)
              have hN9 := ((H9.num.below (Below.drew (Below.refl _ _)) : IsN W16.drew false a6 n6 (u : Int)).below kv)
              have hN7' := ((hN7.below (Below.drew (Below.refl _ _)) : IsN W16.drew false a7 n7 (v : Int)).below kv)
              clear x9 y9 x7 y7 x9a y9a y7a kv1 kv2 kv CT9 CT7
              go_wp2_with fail
              clear x9b y9b y7b
              refine (cmp_any false false a6 a7 n6 n7 c6 c7 (u : Int) (v : Int) k6 k7 v2 hN9 hN7').mono ?_
              rintro e v3 ⟨rfl, kv3⟩
              have hB3 := hB2.trans (kv3.mono hB2.size)
              clear hN9 hN7' kv3 hB2 hN7 hB'
              have hlP : TP.toList = Lib.decDigits u := by rw [← HTP.out, nat_txt]; exact bytes_toList _
              have hlV : TV.toList = Lib.decDigits v := by rw [← HTV.out, nat_txt]; exact bytes_toList _
              have hbe : (TP.toList == TV.toList) = decide (u = v) := by rw [hlP, hlV]; exact dec_beq u v
              have hbl : Lib.nDigits u = Lib.nDigits v → Op.bytesLess TP.toList TV.toList = decide (u < v) := fun h => by rw [hlP, hlV]; exact dec_less h
              have HBL := hide hbl
              clear hlP hlV hbl
              rcases Nat.lt_trichotomy u v with h | h | h
              · have hz : cmpZ (u : Int) (v : Int) = -1 := by unfold cmpZ; rw [if_pos (by omega)]
                rw [hz]
                clear hz
                have hbe' : (TP.toList == TV.toList) = false := by rw [hbe]; simp; omega
                by_cases hq : Lib.nDigits u = Lib.nDigits v
                · have hb := HBL.out hq
                  have hb' : Op.bytesLess TP.toList TV.toList = true := by rw [hb]; simpa using h
                  have hq' : ((Lib.nDigits u : Int) != (Lib.nDigits v : Int)) = false := by simp; omega
                  clear hb hbe
                  go_wp2
                  go_ret
                  exact ⟨rfl, hB3⟩
                · have hql : Lib.nDigits u < Lib.nDigits v := Nat.lt_of_le_of_ne (Nat.le_of_not_lt fun h2 => by have := nd_lt h2; omega) hq
                  have hqi : (Lib.nDigits u : Int) < (Lib.nDigits v : Int) := by omega
                  have hq' : ((Lib.nDigits u : Int) != (Lib.nDigits v : Int)) = true := by simp; omega
                  clear hbe
                  go_wp2
                  go_ret
                  exact ⟨rfl, hB3⟩
              · subst h
                have hz : cmpZ (u : Int) (u : Int) = 0 := by unfold cmpZ; rw [if_neg (by omega), if_pos rfl]
                rw [hz]
                clear hz
                have hbe' : (TP.toList == TV.toList) = true := by rw [hbe]; simp
                have hb' : Op.bytesLess TP.toList TV.toList = false := by rw [HBL.out rfl]; simp
                clear hbe
                go_wp2
                go_ret
                exact ⟨rfl, hB3⟩
              · have hz : cmpZ (u : Int) (v : Int) = 1 := by unfold cmpZ; rw [if_neg (by omega), if_neg (by omega)]
                rw [hz]
                clear hz
                have hbe' : (TP.toList == TV.toList) = false := by rw [hbe]; simp; omega
                by_cases hq : Lib.nDigits u = Lib.nDigits v
                · have hb := HBL.out hq
                  have hb' : Op.bytesLess TP.toList TV.toList = false := by rw [hb]; simp; omega
                  have hq' : ((Lib.nDigits u : Int) != (Lib.nDigits v : Int)) = false := by simp; omega
                  clear hb hbe
                  go_wp2
                  go_ret
                  exact ⟨rfl, hB3⟩
                · have hql : ¬ Lib.nDigits u < Lib.nDigits v := fun h2 => by have := nd_lt h2; omega
                  have hqi : ¬ (Lib.nDigits u : Int) < (Lib.nDigits v : Int) := by omega
                  have hq' : ((Lib.nDigits u : Int) != (Lib.nDigits v : Int)) = true := by simp; omega
                  clear hbe
                  go_wp2
                  go_ret
                  exact ⟨rfl, hB3⟩
end Go.Proofs.YtmpdeiopdempcaaGreatDoor
