/- the law NumWrites: it is true. -/
import Derived.Test.YtgenaicmjddjcaaGreatDoorPTxA
import Derived.Test.YtgenaicmjddjcaaGreatDoorPTxB
import Derived.Test.YtgenaicmjddjcaaGreatDoorPTxD
import Derived.Test.YtgenaicmjddjcaaGreatDoorPRf
import Derived.Test.YtgenaicmjddjcaaGreatDoorPRef
import Derived.Test.YtgenaicmjddjcaaGreatDoorSanity
import Derived.Test.YtgenaicmjddjcaaGreatDoorDsM
import Derived.Laws.IdiomStrings
namespace Go.Proofs.YtgenaicmjddjcaaGreatDoor
open Go.RowKit Go.Shelf

def bsW (s : ByteArray) : List UInt8 := s.data.toList
theorem bsW_mk (s : ByteArray) : (⟨(bsW s).toArray⟩ : ByteArray) = s := by cases s; simp [bsW]
theorem cut40_eq (s : ByteArray) : s.extract 0 (min (s.size : Int) 40).toNat = ⟨((bsW s).take 40).toArray⟩ := by
 apply ByteArray.ext
 apply Array.ext'
 rw [ByteArray.data_extract]
 have : (min (s.size : Int) 40).toNat = min s.size 40 := by omega
 rw [this]
 simp only [bsW, Array.toList_extract, List.extract_eq_take_drop, List.drop_zero, Nat.sub_zero]
 rw [List.take_eq_take_iff]
 show min (min s.size 40) s.data.toList.length = min 40 s.data.toList.length
 have : s.data.toList.length = s.size := rfl
 omega
theorem bytes_sizeW (a : List UInt8) : (⟨a.toArray⟩ : ByteArray).size = a.length := by
 show a.toArray.size = a.length
 simp

theorem txtO_len {w : World} {s : Bool} {a : Option Addr} {n : Nat} {o : Option Int} (h : Arg w s a n o) : (txtO o).length ≤ 641 := by
 cases o with
 | none => exact Nat.zero_le _
 | some z =>
   have := nd_fit (show dlen z.natAbs ≤ 64 by rw [← h.1.dig.len]; exact h.2)
   show (txtZ z).length ≤ 641
   unfold txtZ
   split
   · rw [List.length_cons, Lib.decDigits_length]; omega
   · rw [Lib.decDigits_length]; omega
theorem six_strings (w : World) (X L : ByteArray) (hX : X.size ≤ 641) (hL : L.size ≤ 40) (t : TypeId) :
 ∃ S : Nat → ByteArray, ∀ k, k < 6 → (w.alloc (Obj.cells #[.string X, .string L, .string (X ++ L), .string (L ++ X), .string (⟨#[48]⟩ ++ X), .string (⟨#[45]⟩ ++ X)] t)).cell? ⟨w.heap.size, k, none⟩ = some (.string (S k)) ∧ (S k).size ≤ 9223372036854775806 := by
 refine ⟨fun k => match k with | 0 => X | 1 => L | 2 => X ++ L | 3 => L ++ X | 4 => ⟨#[48]⟩ ++ X | _ => ⟨#[45]⟩ ++ X, fun k hk => ?_⟩
 have e : (⟨#[48]⟩ : ByteArray).size = 1 := rfl
 have e' : (⟨#[45]⟩ : ByteArray).size = 1 := rfl
 match k, hk with
 | 0, _ => exact ⟨by simp [go_sem], by show X.size ≤ _; omega⟩
 | 1, _ => exact ⟨by simp [go_sem], by show L.size ≤ _; omega⟩
 | 2, _ => exact ⟨by simp [go_sem], by show (X ++ L).size ≤ _; rw [ByteArray.size_append]; omega⟩
 | 3, _ => exact ⟨by simp [go_sem], by show (L ++ X).size ≤ _; rw [ByteArray.size_append]; omega⟩
 | 4, _ => exact ⟨by simp [go_sem], by show ((⟨#[48]⟩ : ByteArray) ++ X).size ≤ _; rw [ByteArray.size_append]; omega⟩
 | 5, _ => exact ⟨by simp [go_sem], by show ((⟨#[45]⟩ : ByteArray) ++ X).size ≤ _; rw [ByteArray.size_append]; omega⟩

set_option maxRecDepth 100000 in
set_option maxHeartbeats 16000000 in
theorem writes_true (x0 : Option Addr) (L0 d0 : Nat) (g0 : Nat → Int) (hL0 : L0 ≤ 9223372036854775807) (s : Bool) (a : Option Addr) (n c : Nat) (hc : n ≤ c) (ha : a = none → n = 0 ∧ c = 0) (T : ByteArray) (hT : T.size ≤ 9223372036854775807) (w : World) (ht : Pow10 w) (hsy : Syn w) (h0 : Ints w x0 L0 g0) (hr : Raw w a n) :
 Calls Tryz.prog 3 #[.slice x0 L0 d0, .agg #[.bool s, .slice a n c], .string T] w fun e w' => e = .returned (.bool true) ∧ Below w.heap.size w w' := by
 have HCT := hide (cut40_eq T)
 have hm0 : (0 : Int) ≤ min (T.size : Int) 40 := by omega
 have hm1 : min (T.size : Int) 40 ≤ (T.size : Int) := by omega
 have hm2 : (min (T.size : Int) 40).toNat ≤ T.size := by omega
 go_enter Tryz.func3, Tryz.ntmps3
 go_wp2_with fail
 have hB := below_alloc w (Obj.cells #[.bool s, .slice a n c] 25)
 have hX := Box2.new w (.bool s) (.slice a n c) 25
 obtain ⟨W0, hW0⟩ : ∃ W0, w.alloc (Obj.cells #[.bool s, .slice a n c] 25) = W0 := ⟨_, rfl⟩
 rw [hW0] at hB hX ⊢
 clear hW0
 refine (sanity_true W0 (ht.below hB)).mono ?_
 rintro e w1 ⟨rfl, hkeep⟩
 have hB1 := hB.trans (hkeep.mono hB.size)
 have hX := hX.below hkeep hX.lt
 clear hB hkeep
 go_wp2_with fail
 rw [HCT.out]
 obtain ⟨TL, hTL⟩ : ∃ TL : ByteArray, (⟨((bsW T).take 40).toArray⟩ : ByteArray) = TL := ⟨_, rfl⟩
 have hsL : TL.size ≤ 40 := by rw [← hTL, bytes_sizeW, List.length_take]; omega
 rw [hTL]
 clear hTL HCT
 have hB2 : Below w.heap.size w w1.drew := hB1.drew
 have hX : Box2 w1.drew w.heap.size (.bool s) (.slice a n c) := hX.below (Below.drew (Below.refl _ _)) hX.lt
 have l0 := h0.below (hB2.mono (Nat.le_refl _))
 have l1 := hr.below (hB2.mono (Nat.le_refl _))
 refine wp_region_held_drew (S := fun w' => Below w1.drew.heap.size w1.drew w') (by kernel_rfl) (Below.refl _ _) (fun hHeld => ?_)
 obtain ⟨WD, hWD⟩ : ∃ WD, w1.drew = WD := ⟨_, rfl⟩
 rw [hWD] at hB2 hX l0 l1 hHeld ⊢
 clear hWD hB1 hm0 hm1 hm2
 have hlt := hX.lt
 obtain ⟨px, py, -, -⟩ := hX
 refine tk 0 (.slice x0 L0 d0) 23 rfl rfl ?_
 simp only [Act.put, pA, pB, pC]
 refine tk 2 (.agg #[.bool s, .slice a n c]) 25 rfl rfl ?_ (Or.inl ⟨by rfl, fun w' hSw => by have qa := (hSw.cell (p := ⟨w.heap.size, 0, none⟩) hlt).trans px; have qb := (hSw.cell (p := ⟨w.heap.size, 1, none⟩) hlt).trans py; go_simp⟩)
 simp only [Act.put, pA, pB, pC]
 refine tk 6 (.int .i64 0) 29 rfl rfl ?_
 simp only [Act.put, pA, pB, pC]
 refine wpAnyH_one 1 (by kernel_rfl) ?_
 refine wpOp_call (i := 1) (f := 9) (args := #[.slice x0 L0 d0]) 24 rfl rfl (by rfl) (by go_simp) ?_
 refine (made_any x0 L0 d0 g0 hL0 WD l0).mono ?_
 rintro e w2 ⟨z1, s1, a1, n1, c1, rfl, N1, h6, hf, hg⟩
 have hb2 : Below WD.heap.size WD w2 := hg
 refine ⟨_, rfl, hb2, ?_⟩
 simp only [Act.put, pA, pB, pC]
 refine wpAnyH_one 3 (by kernel_rfl) ?_
 refine wpOp_call (i := 3) (f := 10) (args := #[.agg #[.bool s, .slice a n c], .int .i64 20]) 26 rfl rfl (by rfl) (by go_simp) ?_
 refine (cut20_any s a n c hc ha w2 (l1.below hb2)).mono ?_
 rintro e w3 ⟨m, hm, rfl, hd, hk3⟩
 have hb3 : Below WD.heap.size WD w3 := hb2.trans (hk3.mono hb2.size)
 refine ⟨_, rfl, hb3, ?_⟩
 simp only [Act.put, pA, pB, pC]
 refine wpAnyH_one 4 (by kernel_rfl) ?_
 refine wpOp_run (i := 4) rfl ?_
 go_simp
 have hkeep := below_alloc w3 (Obj.cells #[.bool s1, .slice a1 n1 c1, .bool s, .slice a m c] 25)
 have hb4 : Below WD.heap.size WD (w3.alloc (Obj.cells #[.bool s1, .slice a1 n1 c1, .bool s, .slice a m c] 25)) := hb3.trans (hkeep.mono hb3.size)
 refine ⟨hb4, ?_⟩
 refine wpAnyH_one 5 (by kernel_rfl) ?_
 refine wpOp_run (i := 5) rfl ?_
 go_simp
 refine wpAnyH_done (by kernel_rfl) ?_ _
 have A1 := ((N1.below hk3).below hkeep).arg (by omega)
 obtain ⟨o2, A2⟩ := (hd.below hkeep).arg s
 have HF := Four.new w3 (.bool s1) (.slice a1 n1 c1) (.bool s) (.slice a m c) 25
 obtain ⟨VN, hVN⟩ : ∃ W, w3.alloc (Obj.cells #[.bool s1, .slice a1 n1 c1, .bool s, .slice a m c] 25) = W := ⟨_, rfl⟩
 obtain ⟨gn, hgn⟩ : ∃ g, w3.heap.size = g := ⟨_, rfl⟩
 rw [hVN] at A1 A2 HF hb4 ⊢
 rw [hgn] at HF ⊢
 clear hVN hkeep hgn
 have hB := hB2.trans (hb4.mono hB2.size)
 have hsy := hsy.below hB
 have ht := ht.below hB
 clear l0 l1 hX px py hlt hHeld hB2 hb2 hb3 hb4 hk3 hd N1 hf hg
 go_wp2_with fail
 refine wp_loop_rounds 3 ?_
 rw [rounds_succ]
 obtain ⟨f0, f1, f2, f3⟩ := id HF
 have hkeep := below_alloc VN (Obj.cells #[.bool s1, .slice a1 n1 c1] 25)
 have bx := Box2.new VN (.bool s1) (.slice a1 n1 c1) 25
 obtain ⟨V0, hV⟩ : ∃ W, VN.alloc (Obj.cells #[.bool s1, .slice a1 n1 c1] 25) = W := ⟨_, rfl⟩
 obtain ⟨b0, hb⟩ : ∃ b, VN.heap.size = b := ⟨_, rfl⟩
 rw [hV] at hkeep bx
 rw [hb] at bx
 have hB := hB.trans (hkeep.mono hB.size)
 have hsy := hsy.below hkeep
 have ht := ht.below hkeep
 have HF := HF.below hkeep
 have A1 := A1.below hkeep
 have A2 := A2.below hkeep
 obtain ⟨x, y, -, -⟩ := id bx
 go_wp2_with fail
 try rw [hV]
 try rw [hb]
 clear hV hb f0 f1 f2 f3 x y hkeep
 refine (rtext_arg s1 a1 n1 c1 (some z1) V0 A1).mono ?_
 rintro e p0 ⟨rfl, hkeep⟩
 have hB := hB.trans (hkeep.mono hB.size)
 have hsy := hsy.below hkeep
 have ht := ht.below hkeep
 have HF := HF.below hkeep
 have A1 := A1.below hkeep
 have A2 := A2.below hkeep
 have bx := bx.below hkeep bx.lt
 have hlX := txtO_len A1
 obtain ⟨TX0, hTX⟩ : ∃ TX : ByteArray, (⟨(txtO (some z1)).toArray⟩ : ByteArray) = TX := ⟨_, rfl⟩
 have hsX : TX0.size ≤ 641 := by rw [← hTX, bytes_sizeW]; exact hlX
 have HT := hide hTX
 rw [hTX]
 obtain ⟨x, y, -, -⟩ := id bx
 clear hlX hTX hkeep
 go_wp2_with fail
 clear x y
 refine (text_arg s1 a1 n1 c1 (some z1) p0 ht A1).mono ?_
 rintro e q0 ⟨rfl, hkeep⟩
 have hB := hB.trans (hkeep.mono hB.size)
 have hsy := hsy.below hkeep
 have ht := ht.below hkeep
 have HF := HF.below hkeep
 have A1 := A1.below hkeep
 have A2 := A2.below hkeep
 rw [HT.out]
 clear HT hkeep bx
 have e1 : ¬ 9223372036854775807 < TX0.size + TL.size := by omega
 have e2 : ¬ 9223372036854775807 < TL.size + TX0.size := by omega
 have e3 : ¬ 9223372036854775807 < 1 + TX0.size := by omega
 have hkeep := below_alloc q0 (Obj.cells #[.string TX0, .string TL, .string (TX0 ++ TL), .string (TL ++ TX0), .string (⟨#[48]⟩ ++ TX0), .string (⟨#[45]⟩ ++ TX0)] 9)
 have hS0 := six_strings q0 TX0 TL hsX hsL 9
 obtain ⟨U0, hU⟩ : ∃ W, q0.alloc (Obj.cells #[.string TX0, .string TL, .string (TX0 ++ TL), .string (TL ++ TX0), .string (⟨#[48]⟩ ++ TX0), .string (⟨#[45]⟩ ++ TX0)] 9) = W := ⟨_, rfl⟩
 obtain ⟨g0, hg⟩ : ∃ b, q0.heap.size = b := ⟨_, rfl⟩
 rw [hU] at hkeep hS0
 rw [hg] at hS0
 obtain ⟨S0, hS⟩ := hS0
 have HS0 := hide hS
 have hB := hB.trans (hkeep.mono hB.size)
 have hsy := hsy.below hkeep
 have ht := ht.below hkeep
 have HF := HF.below hkeep
 have A1 := A1.below hkeep
 have A2 := A2.below hkeep
 clear hS hkeep
 go_wp2_with fail
 try rw [hU]
 try rw [hg]
 clear hU hg e1 e2 e3
 have hBk := hB.size
 go_loopw [53] (fun i wr => ∃ k : Nat, k ≤ 6 ∧ i = .int .i64 (k : Int) ∧ Below U0.heap.size U0 wr) (fun i _ => 6 - (intOf i).toNat)
 case atStart => exact ⟨0, by omega, rfl, Below.refl _ _⟩
 case round =>
  obtain ⟨k, hk, rfl, hr⟩ := hrel
  by_cases hlt : k < 6
  · have hq := (HS0.out k hlt).1
    have hq := (hr.cell (p := ⟨g0, k, none⟩) (lt_of_cell hq)).trans hq
    have hz := (HS0.out k hlt).2
    obtain ⟨tt, htt⟩ : ∃ tt, S0 k = tt := ⟨_, rfl⟩
    rw [htt] at hq hz
    clear htt
    have hi1 : (k : Int) < 6 := by omega
    have hi0 : (0 : Int) ≤ (k : Int) := by omega
    have hB := hB.trans (hr.mono hBk)
    have hsy := hsy.below hr
    obtain ⟨R, hR⟩ : ∃ R, parseO (bsW tt) = R := ⟨_, rfl⟩
    have P := parse_any (bsW tt) wr hsy
    rw [bsW_mk, hR] at P
    go_wp2_with fail
    refine P.mono ?_
    clear P
    rintro e w5 ⟨s13, a13, n13, c13, rfl, N, k13, -, hkeep⟩
    have hr := hr.trans (hkeep.mono hr.size)
    obtain ⟨bb, hbb⟩ : ∃ bb, R.isSome = bb := ⟨_, rfl⟩
    obtain ⟨zz, hzz⟩ : ∃ zz, R.getD 0 = zz := ⟨_, rfl⟩
    rw [hbb]
    rw [hzz] at N
    have HR := hide hR
    have HBB := hide hbb
    have HZZ := hide hzz
    clear hR hbb hzz hq
    have H13 := Held.new c13 N 25
    clear N
    have hkeep := below_alloc w5 (Obj.cells #[.bool s13, .slice a13 n13 c13] 25)
    obtain ⟨W13, hW13⟩ : ∃ W, w5.alloc (Obj.cells #[.bool s13, .slice a13 n13 c13] 25) = W := ⟨_, rfl⟩
    obtain ⟨B13, hB13⟩ : ∃ B, w5.heap.size = B := ⟨_, rfl⟩
    rw [hW13] at hkeep H13
    rw [hB13] at H13
    have hr := hr.trans (hkeep.mono hr.size)
    clear hkeep
    have P := rparse_opt (bsW tt) (by rw [← bytes_sizeW, bsW_mk]; exact hz) W13
    rw [bsW_mk, HR.out] at P
    go_wp2_with fail
    try rw [hW13]
    try rw [hB13]
    clear hW13 hB13
    refine P.mono ?_
    clear P
    rintro e w6 ⟨s15, a15, n15, c15, rfl, N, k15, -, hkeep⟩
    rw [HBB.out]
    rw [HZZ.out] at N
    have hr := hr.trans (hkeep.mono hr.size)
    have H13 := H13.below hkeep
    have H15 := Held.new c15 N 25
    clear N
    have hkeep := below_alloc w6 (Obj.cells #[.bool s15, .slice a15 n15 c15] 25)
    obtain ⟨W15, hW15⟩ : ∃ W, w6.alloc (Obj.cells #[.bool s15, .slice a15 n15 c15] 25) = W := ⟨_, rfl⟩
    obtain ⟨B15, hB15⟩ : ∃ B, w6.heap.size = B := ⟨_, rfl⟩
    rw [hW15] at hkeep H15
    rw [hB15] at H15
    have hr := hr.trans (hkeep.mono hr.size)
    have H13 := H13.below hkeep
    clear hkeep
    obtain ⟨x13, y13, -, -⟩ := H13.box
    obtain ⟨x15, y15, -, -⟩ := H15.box
    go_wp2_with fail
    clear x13 y13 x15 y15
    try rw [hW15]
    try rw [hB15]
    clear hW15 hB15
    refine (same_eq s13 s15 a13 a15 n13 n15 c13 c15 zz k13 W15 H13.num H15.num).mono ?_
    rintro e w7 ⟨rfl, hkeep⟩
    have hr := hr.trans (hkeep.mono hr.size)
    clear hkeep H13 H15
    go_wp2
    go_roundw
    case rel => exact ⟨k + 1, by omega, by go_num, hr⟩
    case measure => simp [intOf]; omega
  · obtain rfl : k = 6 := by omega
    have hB := hB.trans (hr.mono hBk)
    have hsy := hsy.below hr
    have ht := ht.below hr
    have HF := HF.below hr
    have A1 := A1.below hr
    have A2 := A2.below hr
    go_wp2_with fail
    rw [rounds_succ]
    obtain ⟨f0, f1, f2, f3⟩ := id HF
    have hkeep := below_alloc wr (Obj.cells #[.bool s, .slice a m c] 25)
    have bx := Box2.new wr (.bool s) (.slice a m c) 25
    obtain ⟨V1, hV⟩ : ∃ W, wr.alloc (Obj.cells #[.bool s, .slice a m c] 25) = W := ⟨_, rfl⟩
    obtain ⟨b1, hb⟩ : ∃ b, wr.heap.size = b := ⟨_, rfl⟩
    rw [hV] at hkeep bx
    rw [hb] at bx
    have hB := hB.trans (hkeep.mono hB.size)
    have hsy := hsy.below hkeep
    have ht := ht.below hkeep
    have HF := HF.below hkeep
    have A1 := A1.below hkeep
    have A2 := A2.below hkeep
    obtain ⟨x, y, -, -⟩ := id bx
    go_wp2_with fail
    try rw [hV]
    try rw [hb]
    clear hV hb f0 f1 f2 f3 x y hkeep
    refine (rtext_arg s a m c o2 V1 A2).mono ?_
    rintro e p1 ⟨rfl, hkeep⟩
    have hB := hB.trans (hkeep.mono hB.size)
    have hsy := hsy.below hkeep
    have ht := ht.below hkeep
    have HF := HF.below hkeep
    have A1 := A1.below hkeep
    have A2 := A2.below hkeep
    have bx := bx.below hkeep bx.lt
    have hlX := txtO_len A2
    obtain ⟨TX1, hTX⟩ : ∃ TX : ByteArray, (⟨(txtO o2).toArray⟩ : ByteArray) = TX := ⟨_, rfl⟩
    have hsX : TX1.size ≤ 641 := by rw [← hTX, bytes_sizeW]; exact hlX
    have HT := hide hTX
    rw [hTX]
    obtain ⟨x, y, -, -⟩ := id bx
    clear hlX hTX hkeep
    go_wp2_with fail
    clear x y
    refine (text_arg s a m c o2 p1 ht A2).mono ?_
    rintro e q1 ⟨rfl, hkeep⟩
    have hB := hB.trans (hkeep.mono hB.size)
    have hsy := hsy.below hkeep
    have ht := ht.below hkeep
    have HF := HF.below hkeep
    have A1 := A1.below hkeep
    have A2 := A2.below hkeep
    rw [HT.out]
    clear HT hkeep bx
    have e1 : ¬ 9223372036854775807 < TX1.size + TL.size := by omega
    have e2 : ¬ 9223372036854775807 < TL.size + TX1.size := by omega
    have e3 : ¬ 9223372036854775807 < 1 + TX1.size := by omega
    have hkeep := below_alloc q1 (Obj.cells #[.string TX1, .string TL, .string (TX1 ++ TL), .string (TL ++ TX1), .string (⟨#[48]⟩ ++ TX1), .string (⟨#[45]⟩ ++ TX1)] 9)
    have hS0 := six_strings q1 TX1 TL hsX hsL 9
    obtain ⟨U1, hU⟩ : ∃ W, q1.alloc (Obj.cells #[.string TX1, .string TL, .string (TX1 ++ TL), .string (TL ++ TX1), .string (⟨#[48]⟩ ++ TX1), .string (⟨#[45]⟩ ++ TX1)] 9) = W := ⟨_, rfl⟩
    obtain ⟨g1, hg⟩ : ∃ b, q1.heap.size = b := ⟨_, rfl⟩
    rw [hU] at hkeep hS0
    rw [hg] at hS0
    obtain ⟨S1, hS⟩ := hS0
    have HS1 := hide hS
    have hB := hB.trans (hkeep.mono hB.size)
    have hsy := hsy.below hkeep
    have ht := ht.below hkeep
    have HF := HF.below hkeep
    have A1 := A1.below hkeep
    have A2 := A2.below hkeep
    clear hS hkeep
    go_wp2_with fail
    try rw [hU]
    try rw [hg]
    clear hU hg e1 e2 e3
    have hBk := hB.size
    go_loopw [53] (fun i wr => ∃ k : Nat, k ≤ 6 ∧ i = .int .i64 (k : Int) ∧ Below U1.heap.size U1 wr) (fun i _ => 6 - (intOf i).toNat)
    case atStart => exact ⟨0, by omega, rfl, Below.refl _ _⟩
    case round =>
     obtain ⟨k, hk, rfl, hr⟩ := hrel
     by_cases hlt : k < 6
     · have hq := (HS1.out k hlt).1
       have hq := (hr.cell (p := ⟨g1, k, none⟩) (lt_of_cell hq)).trans hq
       have hz := (HS1.out k hlt).2
       obtain ⟨tt, htt⟩ : ∃ tt, S1 k = tt := ⟨_, rfl⟩
       rw [htt] at hq hz
       clear htt
       have hi1 : (k : Int) < 6 := by omega
       have hi0 : (0 : Int) ≤ (k : Int) := by omega
       have hB := hB.trans (hr.mono hBk)
       have hsy := hsy.below hr
       obtain ⟨R, hR⟩ : ∃ R, parseO (bsW tt) = R := ⟨_, rfl⟩
       have P := parse_any (bsW tt) wr hsy
       rw [bsW_mk, hR] at P
       go_wp2_with fail
       refine P.mono ?_
       clear P
       rintro e w5 ⟨s13, a13, n13, c13, rfl, N, k13, -, hkeep⟩
       have hr := hr.trans (hkeep.mono hr.size)
       obtain ⟨bb, hbb⟩ : ∃ bb, R.isSome = bb := ⟨_, rfl⟩
       obtain ⟨zz, hzz⟩ : ∃ zz, R.getD 0 = zz := ⟨_, rfl⟩
       rw [hbb]
       rw [hzz] at N
       have HR := hide hR
       have HBB := hide hbb
       have HZZ := hide hzz
       clear hR hbb hzz hq
       have H13 := Held.new c13 N 25
       clear N
       have hkeep := below_alloc w5 (Obj.cells #[.bool s13, .slice a13 n13 c13] 25)
       obtain ⟨W13, hW13⟩ : ∃ W, w5.alloc (Obj.cells #[.bool s13, .slice a13 n13 c13] 25) = W := ⟨_, rfl⟩
       obtain ⟨B13, hB13⟩ : ∃ B, w5.heap.size = B := ⟨_, rfl⟩
       rw [hW13] at hkeep H13
       rw [hB13] at H13
       have hr := hr.trans (hkeep.mono hr.size)
       clear hkeep
       have P := rparse_opt (bsW tt) (by rw [← bytes_sizeW, bsW_mk]; exact hz) W13
       rw [bsW_mk, HR.out] at P
       go_wp2_with fail
       try rw [hW13]
       try rw [hB13]
       clear hW13 hB13
       refine P.mono ?_
       clear P
       rintro e w6 ⟨s15, a15, n15, c15, rfl, N, k15, -, hkeep⟩
       rw [HBB.out]
       rw [HZZ.out] at N
       have hr := hr.trans (hkeep.mono hr.size)
       have H13 := H13.below hkeep
       have H15 := Held.new c15 N 25
       clear N
       have hkeep := below_alloc w6 (Obj.cells #[.bool s15, .slice a15 n15 c15] 25)
       obtain ⟨W15, hW15⟩ : ∃ W, w6.alloc (Obj.cells #[.bool s15, .slice a15 n15 c15] 25) = W := ⟨_, rfl⟩
       obtain ⟨B15, hB15⟩ : ∃ B, w6.heap.size = B := ⟨_, rfl⟩
       rw [hW15] at hkeep H15
       rw [hB15] at H15
       have hr := hr.trans (hkeep.mono hr.size)
       have H13 := H13.below hkeep
       clear hkeep
       obtain ⟨x13, y13, -, -⟩ := H13.box
       obtain ⟨x15, y15, -, -⟩ := H15.box
       go_wp2_with fail
       clear x13 y13 x15 y15
       try rw [hW15]
       try rw [hB15]
       clear hW15 hB15
       refine (same_eq s13 s15 a13 a15 n13 n15 c13 c15 zz k13 W15 H13.num H15.num).mono ?_
       rintro e w7 ⟨rfl, hkeep⟩
       have hr := hr.trans (hkeep.mono hr.size)
       clear hkeep H13 H15
       go_wp2
       go_roundw
       case rel => exact ⟨k + 1, by omega, by go_num, hr⟩
       case measure => simp [intOf]; omega
     · obtain rfl : k = 6 := by omega
       have hB := hB.trans (hr.mono hBk)
       have hsy := hsy.below hr
       have ht := ht.below hr
       have HF := HF.below hr
       have A1 := A1.below hr
       have A2 := A2.below hr
       go_wp2_with fail
       rw [rounds_succ]
       go_wp2
       go_ret
       exact ⟨rfl, hB⟩
end Go.Proofs.YtgenaicmjddjcaaGreatDoor
