/- strings.Cut at one byte; ratio's Parse. -/
import Derived.Test.YtgenaicmjddjcaaGreatDoorRaT
import Derived.Test.YtgenaicmjddjcaaGreatDoorPTxB
import Derived.Test.YtgenaicmjddjcaaGreatDoorShelf
import Derived.Shelf.Strings.Search2
import Derived.Lib.CutLaws
import Derived.Lib.IndexBytes
namespace Go.Proofs.YtgenaicmjddjcaaGreatDoor
open Go.RowKit Go.Shelf

theorem index_one_r (s : ByteArray) (c : UInt8) (w : World) :
 Calls Tryz.prog 154 #[.string s, .string ⟨#[c]⟩] w fun e w' => e = .returned (.int .i64 (Lib.index s.data.toList [c])) ∧ w' = w := by
 rw [Lib.index_one]
 exact Any.stringslite_Index_one { Tryz.lays145 with } s c w

set_option maxRecDepth 100000 in
set_option maxHeartbeats 2000000 in
theorem lite_cut (s : ByteArray) (c : UInt8) (hs : s.size ≤ 9223372036854775807) (w : World) :
 Calls Tryz.prog 128 #[.string s, .string ⟨#[c]⟩] w fun e w' => e = .returned (.tuple #[.string ⟨(Lib.cut s.data.toList [c]).1.toArray⟩, .string ⟨(Lib.cut s.data.toList [c]).2.1.toArray⟩, .bool (Lib.cut s.data.toList [c]).2.2]) ∧ ∃ n, w' = w.drewN n := by
 have hone : (⟨#[c]⟩ : ByteArray).data.toList = [c] := rfl
 have hsz : (⟨#[c]⟩ : ByteArray).size = 1 := rfl
 rcases Lib.indexB_cases s ⟨#[c]⟩ with hix | ⟨i, hix, hroom⟩
 · obtain ⟨e1, e2, e3⟩ := Lib.cutB_miss s ⟨#[c]⟩ hix
   rw [hone] at e1 e2 e3
   rw [e1, e2, e3]
   have HX : Hid (Lib.index s.data.toList [c] = _) := hide hix
   clear hix e1 e2 e3 hone hsz
   go_enter Tryz.func128, Tryz.ntmps128
   go_wp2_with fail
   refine (index_one_r s c w).mono ?_
   rintro e w' ⟨rfl, rfl⟩
   rw [HX.out]
   go_wp2
   go_ret3
   exact ⟨rfl, 0, rfl⟩
 · obtain ⟨e1, e2, e3⟩ := Lib.cutB_hit s ⟨#[c]⟩ i hix
   rw [hone] at e1 e2 e3
   rw [e1, e2, e3]
   rw [hsz] at hroom
   have c1 : (0 : Int) ≤ ↑i := by omega
   have c2 : (↑i : Int) ≤ ↑s.size := by omega
   have c3 : (0 : Int) ≤ ↑i + 1 := by omega
   have c4 : (↑i + 1 : Int) ≤ ↑s.size := by omega
   have hw1 : IntKind.i64.wrap (↑i + 1) = (i : Int) + 1 := by simp only [IntKind.wrap, IntKind.bits, IntKind.signed]; simp; omega
   have HX : Hid (Lib.index s.data.toList [c] = _) := hide hix
   clear hix e1 e2 e3 hone
   go_enter Tryz.func128, Tryz.ntmps128
   go_wp2_with fail
   refine (index_one_r s c w).mono ?_
   rintro e w' ⟨rfl, rfl⟩
   rw [HX.out]
   go_wp2_with fail
   go_region
   go_wp2
   go_ret3
   exact ⟨rfl, 1, rfl⟩
set_option maxRecDepth 100000 in
set_option maxHeartbeats 2000000 in
theorem cut_one (s : ByteArray) (c : UInt8) (hs : s.size ≤ 9223372036854775807) (w : World) :
 Calls Tryz.prog 100 #[.string s, .string ⟨#[c]⟩] w fun e w' => e = .returned (.tuple #[.string ⟨(Lib.cut s.data.toList [c]).1.toArray⟩, .string ⟨(Lib.cut s.data.toList [c]).2.1.toArray⟩, .bool (Lib.cut s.data.toList [c]).2.2]) ∧ ∃ n, w' = w.drewN n := by
 obtain ⟨X, hX⟩ : ∃ X, Lib.cut s.data.toList [c] = X := ⟨_, rfl⟩
 have H := lite_cut s c hs w
 rw [hX] at H ⊢
 clear hX
 go_enter Tryz.func100, Tryz.ntmps100
 go_wp2_with fail
 refine H.mono ?_
 rintro e w' ⟨rfl, n, rfl⟩
 go_wp2
 go_ret3
 exact ⟨rfl, n, rfl⟩

def ratOfO : Option Int → Option Int → Option Rat
 | some n, some d => if rightO (some n) (some d) = true then some (Rat.divInt n d) else none
 | _, _ => none
def parseRO (l : List UInt8) : Option Rat :=
 if (Lib.cut l [47]).2.2 = true then
  (if (Lib.cut l [47]).2.1 = [49] then none else ratOfO (parseO (Lib.cut l [47]).1) (parseO (Lib.cut l [47]).2.1))
 else ratOfO (parseO (Lib.cut l [47]).1) (parseO [49])
theorem divInt_right {n d : Int} (h : rightO (some n) (some d) = true) : (Rat.divInt n d).num = n ∧ ((Rat.divInt n d).den : Int) = d := by
 obtain ⟨x, e1, e2⟩ := rat_of_right h
 rw [← e1, ← e2, Rat.num_divInt_den]
 exact ⟨rfl, rfl⟩
theorem drewN_below (w : World) (n : Nat) : Below w.heap.size w (w.drewN n) := by
 induction n with
 | zero => exact Below.refl _ _
 | succ n ih => exact ih.drew
set_option maxRecDepth 100000 in
set_option maxHeartbeats 8000000 in
theorem ratParse_r (l : List UInt8) (hl : l.length ≤ 9223372036854775807) (w : World) (hsy : Syn w) :
 Calls Tryz.prog 48 #[.string ⟨l.toArray⟩] w (RatPost w (parseRO l)) := by
 have HCUT : Hid (∀ W : World, Calls Tryz.prog 100 #[.string ⟨l.toArray⟩, .string ⟨#[47]⟩] W fun e w' => e = .returned (.tuple #[.string ⟨(Lib.cut l [47]).1.toArray⟩, .string ⟨(Lib.cut l [47]).2.1.toArray⟩, .bool (Lib.cut l [47]).2.2]) ∧ Below W.heap.size W w') := hide fun W => (cut_one ⟨l.toArray⟩ 47 (by rw [bytes_sizeR]; exact hl) W).mono fun e w' ⟨h, n, hn⟩ => ⟨h, by rw [hn]; exact drewN_below W n⟩
 obtain ⟨A, hA⟩ : ∃ A, (Lib.cut l [47]).1 = A := ⟨_, rfl⟩
 obtain ⟨B, hBl⟩ : ∃ B, (Lib.cut l [47]).2.1 = B := ⟨_, rfl⟩
 obtain ⟨f, hf⟩ : ∃ f, (Lib.cut l [47]).2.2 = f := ⟨_, rfl⟩
 have HV : Hid (parseRO l = if f = true then (if B = [49] then none else ratOfO (parseO A) (parseO B)) else ratOfO (parseO A) (parseO [49])) := hide (by unfold parseRO; rw [hA, hBl, hf])
 rw [hA, hBl, hf] at HCUT
 clear hA hBl hf
 obtain ⟨OA, hOA⟩ : ∃ O, parseO A = O := ⟨_, rfl⟩
 have EA := hide hOA
 obtain ⟨TA, hTA⟩ : ∃ T : ByteArray, (⟨A.toArray⟩ : ByteArray) = T := ⟨_, rfl⟩
 have PA : Hid (∀ W, Syn W → Calls Tryz.prog 13 #[.string TA] W (OptPost W OA)) := hide fun W t => by rw [← hTA, ← hOA]; exact parse_any A W t
 rw [hTA] at HCUT
 clear hTA hOA
 go_enter Tryz.func48, Tryz.ntmps48
 go_wp2_with fail
 obtain ⟨W1, hW1⟩ : ∃ W1, w.alloc (Obj.cells #[.bool false, .slice none 0 0, .bool false, .slice none 0 0] 37) = W1 := ⟨_, rfl⟩
 have qC : Quad W1 w.heap.size (.bool false) (.slice none 0 0) (.bool false) (.slice none 0 0) := by rw [← hW1]; exact Quad.new _ _ _ _ _ _
 have hB : Below w.heap.size w W1 := by rw [← hW1]; exact below_alloc _ _
 have hsy := hsy.below hB
 try rw [hW1]
 clear hW1
 refine (HCUT.out W1).mono ?_
 rintro e w1 ⟨rfl, hk⟩
 have hB := hB.trans (hk.mono hB.size)
 have hsy := hsy.below hk
 have qC := qC.below hk
 clear hk
 clear HCUT
 cases f with
 | false =>
   have HW : Hid (parseRO l = ratOfO (parseO A) (parseO [49])) := hide (by rw [HV.out]; rfl)
   obtain ⟨OB, hOB⟩ : ∃ O, parseO [49] = O := ⟨_, rfl⟩
   have EB := hide hOB
   have PB : Hid (∀ W, Syn W → Calls Tryz.prog 13 #[.string ⟨#[49]⟩] W (OptPost W OB)) := hide fun W t => by rw [← hOB]; exact parse_any [49] W t
   clear hOB HV
   go_wp2_with fail
   refine (PA.out w1 hsy).mono ?_
   rintro e u7 ⟨s7, a7, n7, c7, rfl, N7, k7, -, hk⟩
   have hB := hB.trans (hk.mono hB.size)
   have hsy := hsy.below hk
   have qC := qC.below hk
   clear hk
   obtain ⟨Z7, hZ7⟩ : ∃ Z, u7.alloc (Obj.cells #[.bool false, .slice none 0 0] 25) = Z := ⟨_, rfl⟩
   obtain ⟨W7, hW7⟩ : ∃ W, (Z7.setCell ⟨u7.heap.size, 0, none⟩ (.bool s7)).setCell ⟨u7.heap.size, 1, none⟩ (.slice a7 n7 c7) = W := ⟨_, rfl⟩
   obtain ⟨H7, hk, bx7⟩ := num_new (c := c7) hZ7 hW7 N7
   clear N7
   obtain ⟨B7, hB7⟩ : ∃ B, u7.heap.size = B := ⟨_, rfl⟩
   have hB := hB.trans (hk.mono hB.size)
   have hsy := hsy.below hk
   have qC := qC.below hk
   clear hk
   rw [hB7] at hW7 H7 bx7
   obtain ⟨y70, y71, yz70, yz71⟩ := id bx7
   go_wp2_with fail
   try rw [hW7]
   try rw [hB7]
   clear hW7 hB7
   clear y70 y71 yz70 yz71
   refine (PB.out W7 hsy).mono ?_
   rintro e u9 ⟨s9, a9, n9, c9, rfl, N9, k9, -, hk⟩
   have hB := hB.trans (hk.mono hB.size)
   have hsy := hsy.below hk
   have qC := qC.below hk
   have H7 := H7.below hk
   clear hk
   obtain ⟨Z9, hZ9⟩ : ∃ Z, u9.alloc (Obj.cells #[.bool false, .slice none 0 0] 25) = Z := ⟨_, rfl⟩
   obtain ⟨W9, hW9⟩ : ∃ W, (Z9.setCell ⟨u9.heap.size, 0, none⟩ (.bool s9)).setCell ⟨u9.heap.size, 1, none⟩ (.slice a9 n9 c9) = W := ⟨_, rfl⟩
   obtain ⟨H9, hk, bx9⟩ := num_new (c := c9) hZ9 hW9 N9
   clear N9
   obtain ⟨B9, hB9⟩ : ∃ B, u9.heap.size = B := ⟨_, rfl⟩
   have hB := hB.trans (hk.mono hB.size)
   have hsy := hsy.below hk
   have qC := qC.below hk
   have H7 := H7.below hk
   clear hk
   rw [hB9] at hW9 H9 bx9
   obtain ⟨ZR, hZR⟩ : ∃ Z, W9.alloc (Obj.cells #[.bool false, .slice none 0 0, .bool false, .slice none 0 0] 37) = Z := ⟨_, rfl⟩
   obtain ⟨WR, hWR⟩ : ∃ W, (((ZR.setCell ⟨W9.heap.size, 0, none⟩ (.bool s7)).setCell ⟨W9.heap.size, 1, none⟩ (.slice a7 n7 c7)).setCell ⟨W9.heap.size, 2, none⟩ (.bool s9)).setCell ⟨W9.heap.size, 3, none⟩ (.slice a9 n9 c9) = W := ⟨_, rfl⟩
   have qZ : Quad ZR W9.heap.size (.bool false) (.slice none 0 0) (.bool false) (.slice none 0 0) := by rw [← hZR]; exact Quad.new _ _ _ _ _ _
   have hk : Below W9.heap.size W9 WR := by
    have kZ : Below W9.heap.size W9 ZR := by rw [← hZR]; exact below_alloc _ _
    rw [← hWR]; exact (((kZ.setCell (p := ⟨W9.heap.size, 0, none⟩) (Nat.le_refl _) _).setCell (p := ⟨W9.heap.size, 1, none⟩) (Nat.le_refl _) _).setCell (p := ⟨W9.heap.size, 2, none⟩) (Nat.le_refl _) _).setCell (p := ⟨W9.heap.size, 3, none⟩) (Nat.le_refl _) _
   have qR := (qZ.set _ _ _ _ hWR).1
   have H7k := id H7.box
   have H9k := id H9.box
   obtain ⟨BR, hBR⟩ : ∃ B, W9.heap.size = B := ⟨_, rfl⟩
   have hB := hB.trans (hk.mono hB.size)
   have hsy := hsy.below hk
   have qC := qC.below hk
   have H7 := H7.below hk
   have H9 := H9.below hk
   clear hk
   rw [hBR] at hWR qZ qR
   cases OA with
   | none =>
     have P1 := zero_num WR
     have P2 := zero_num WR
     obtain ⟨Wz, hWz⟩ : ∃ W, (((WR.setCell ⟨w.heap.size, 0, none⟩ (.bool false)).setCell ⟨w.heap.size, 1, none⟩ (.slice none 0 0)).setCell ⟨w.heap.size, 2, none⟩ (.bool false)).setCell ⟨w.heap.size, 3, none⟩ (.slice none 0 0) = W := ⟨_, rfl⟩
     obtain ⟨hQ, hT⟩ := qC.set _ _ _ _ hWz
     have hBz : Below w.heap.size w Wz := by rw [← hWz]; exact below_set4 hB (by omega) _ _ _ _
     have P1 := P1.quad qC.four hT
     have P2 := P2.quad qC.four hT
     have K := hide (And.intro hQ (And.intro P1 (And.intro P2 hBz)))
     have HWz := hide hWz
     clear hQ hBz hWz hT P1 P2
     obtain ⟨⟨x90, x91, x92, x93⟩, z90, z91, z92, z93⟩ := id qC
     obtain ⟨y90, y91, yz90, yz91⟩ := id bx9
     obtain ⟨g70, g71, -, -⟩ := id H7k
     obtain ⟨g90, g91, -, -⟩ := id H9k
     obtain ⟨⟨y0, y1, y2, y3⟩, yz0, yz1, yz2, yz3⟩ := id qZ
     go_wp2
     try rw [hW9]
     try rw [hB9]
     try rw [hWR]
     try rw [hBR]
     obtain ⟨⟨⟨q0, q1, q2, q3⟩, -, -, -, -⟩, P1, P2, hBB⟩ := K.out
     rw [HWz.out]
     exact bodyPost_ret (v := .tuple #[.agg #[.bool false, .slice none 0 0, .bool false, .slice none 0 0], .bool false]) (by simp [results, Tryz.results48, go_sem, q0, q1, q2, q3]) rfl (by rw [show parseRO l = none from (by rw [HW.out, EA.out]; rfl)]; exact ⟨_, _, _, _, _, _, _, _, rfl, P1, P2, by decide, by decide, hBB⟩)
   | some n =>
     cases OB with
     | none =>
       have P1 := zero_num WR
       have P2 := zero_num WR
       obtain ⟨Wz, hWz⟩ : ∃ W, (((WR.setCell ⟨w.heap.size, 0, none⟩ (.bool false)).setCell ⟨w.heap.size, 1, none⟩ (.slice none 0 0)).setCell ⟨w.heap.size, 2, none⟩ (.bool false)).setCell ⟨w.heap.size, 3, none⟩ (.slice none 0 0) = W := ⟨_, rfl⟩
       obtain ⟨hQ, hT⟩ := qC.set _ _ _ _ hWz
       have hBz : Below w.heap.size w Wz := by rw [← hWz]; exact below_set4 hB (by omega) _ _ _ _
       have P1 := P1.quad qC.four hT
       have P2 := P2.quad qC.four hT
       have K := hide (And.intro hQ (And.intro P1 (And.intro P2 hBz)))
       have HWz := hide hWz
       clear hQ hBz hWz hT P1 P2
       obtain ⟨⟨x90, x91, x92, x93⟩, z90, z91, z92, z93⟩ := id qC
       obtain ⟨y90, y91, yz90, yz91⟩ := id bx9
       obtain ⟨g70, g71, -, -⟩ := id H7k
       obtain ⟨g90, g91, -, -⟩ := id H9k
       obtain ⟨⟨y0, y1, y2, y3⟩, yz0, yz1, yz2, yz3⟩ := id qZ
       go_wp2
       try rw [hW9]
       try rw [hB9]
       try rw [hWR]
       try rw [hBR]
       obtain ⟨⟨⟨q0, q1, q2, q3⟩, -, -, -, -⟩, P1, P2, hBB⟩ := K.out
       rw [HWz.out]
       exact bodyPost_ret (v := .tuple #[.agg #[.bool false, .slice none 0 0, .bool false, .slice none 0 0], .bool false]) (by simp [results, Tryz.results48, go_sem, q0, q1, q2, q3]) rfl (by rw [show parseRO l = none from (by rw [HW.out, EA.out, EB.out]; rfl)]; exact ⟨_, _, _, _, _, _, _, _, rfl, P1, P2, by decide, by decide, hBB⟩)
     | some d =>
       obtain ⟨y90, y91, yz90, yz91⟩ := id bx9
       obtain ⟨g70, g71, -, -⟩ := id H7k
       obtain ⟨g90, g91, -, -⟩ := id H9k
       obtain ⟨⟨y0, y1, y2, y3⟩, yz0, yz1, yz2, yz3⟩ := id qZ
       obtain ⟨⟨r0, r1, r2, r3⟩, -, -, -, -⟩ := id qR
       go_wp2_with fail
       try rw [hW9]
       try rw [hB9]
       try rw [hWR]
       try rw [hBR]
       clear hW9 hB9 hWR hBR
       clear y90 y91 yz90 yz91 g70 g71 g90 g91 y0 y1 y2 y3 yz0 yz1 yz2 yz3 r0 r1 r2 r3
       have h7 : IsN WR s7 a7 n7 n := H7.num
       have h9 : IsN WR s9 a9 n9 d := H9.num
       refine (ratRight_any s7 s9 a7 a9 n7 n9 c7 c9 (some n) (some d) WR ⟨h7, k7⟩ ⟨h9, k9⟩).mono ?_
       rintro e v1 ⟨rfl, hk⟩
       have hB := hB.trans (hk.mono hB.size)
       have hsy := hsy.below hk
       have qC := qC.below hk
       have H7 := H7.below hk
       have H9 := H9.below hk
       have qR := qR.below hk
       have h7 := h7.below hk
       have h9 := h9.below hk
       clear hk
       by_cases hr : rightO (some n) (some d) = true
       case neg =>
        have HR := hide hr
        rw [show rightO (some n) (some d) = false by simpa using hr]
        clear hr
        have P1 := zero_num v1
        have P2 := zero_num v1
        obtain ⟨Wz, hWz⟩ : ∃ W, (((v1.setCell ⟨w.heap.size, 0, none⟩ (.bool false)).setCell ⟨w.heap.size, 1, none⟩ (.slice none 0 0)).setCell ⟨w.heap.size, 2, none⟩ (.bool false)).setCell ⟨w.heap.size, 3, none⟩ (.slice none 0 0) = W := ⟨_, rfl⟩
        obtain ⟨hQ, hT⟩ := qC.set _ _ _ _ hWz
        have hBz : Below w.heap.size w Wz := by rw [← hWz]; exact below_set4 hB (by omega) _ _ _ _
        have P1 := P1.quad qC.four hT
        have P2 := P2.quad qC.four hT
        have K := hide (And.intro hQ (And.intro P1 (And.intro P2 hBz)))
        have HWz := hide hWz
        clear hQ hBz hWz hT P1 P2
        obtain ⟨⟨x90, x91, x92, x93⟩, z90, z91, z92, z93⟩ := id qC
        go_wp2
        obtain ⟨⟨⟨q0, q1, q2, q3⟩, -, -, -, -⟩, P1, P2, hBB⟩ := K.out
        rw [HWz.out]
        exact bodyPost_ret (v := .tuple #[.agg #[.bool false, .slice none 0 0, .bool false, .slice none 0 0], .bool false]) (by simp [results, Tryz.results48, go_sem, q0, q1, q2, q3]) rfl (by rw [show parseRO l = none from (by rw [HW.out, EA.out, EB.out]; exact if_neg HR.out)]; exact ⟨_, _, _, _, _, _, _, _, rfl, P1, P2, by decide, by decide, hBB⟩)
       case pos =>
        have HR := hide hr
        rw [hr]
        clear hr
        have P1 := h7
        have P2 := h9
        obtain ⟨Wz, hWz⟩ : ∃ W, (((v1.setCell ⟨w.heap.size, 0, none⟩ (.bool s7)).setCell ⟨w.heap.size, 1, none⟩ (.slice a7 n7 c7)).setCell ⟨w.heap.size, 2, none⟩ (.bool s9)).setCell ⟨w.heap.size, 3, none⟩ (.slice a9 n9 c9) = W := ⟨_, rfl⟩
        obtain ⟨hQ, hT⟩ := qC.set _ _ _ _ hWz
        have hBz : Below w.heap.size w Wz := by rw [← hWz]; exact below_set4 hB (by omega) _ _ _ _
        have P1 := P1.quad qC.four hT
        have P2 := P2.quad qC.four hT
        have K := hide (And.intro hQ (And.intro P1 (And.intro P2 hBz)))
        have HWz := hide hWz
        clear hQ hBz hWz hT P1 P2
        obtain ⟨⟨x90, x91, x92, x93⟩, z90, z91, z92, z93⟩ := id qC
        obtain ⟨⟨r0, r1, r2, r3⟩, -, -, -, -⟩ := id qR
        go_wp2
        obtain ⟨⟨⟨q0, q1, q2, q3⟩, -, -, -, -⟩, P1, P2, hBB⟩ := K.out
        rw [HWz.out]
        exact bodyPost_ret (v := .tuple #[.agg #[.bool s7, .slice a7 n7 c7, .bool s9, .slice a9 n9 c9], .bool true]) (by simp [results, Tryz.results48, go_sem, q0, q1, q2, q3]) rfl (by rw [show parseRO l = some (Rat.divInt n d) from (by rw [HW.out, EA.out, EB.out]; exact if_pos HR.out)]; exact ⟨_, _, _, _, _, _, _, _, rfl, by rw [show numO (some (Rat.divInt n d)) = n from (divInt_right HR.out).1]; exact P1, by rw [show denO (some (Rat.divInt n d)) = d from (divInt_right HR.out).2]; exact P2, k7, k9, hBB⟩)
 | true =>
   by_cases hb : B = [49]
   case pos =>
    have HW : Hid (parseRO l = none) := hide (by rw [HV.out, hb]; rfl)
    subst hb
    clear HV
    have P1 := zero_num w1
    have P2 := zero_num w1
    obtain ⟨Wz, hWz⟩ : ∃ W, (((w1.setCell ⟨w.heap.size, 0, none⟩ (.bool false)).setCell ⟨w.heap.size, 1, none⟩ (.slice none 0 0)).setCell ⟨w.heap.size, 2, none⟩ (.bool false)).setCell ⟨w.heap.size, 3, none⟩ (.slice none 0 0) = W := ⟨_, rfl⟩
    obtain ⟨hQ, hT⟩ := qC.set _ _ _ _ hWz
    have hBz : Below w.heap.size w Wz := by rw [← hWz]; exact below_set4 hB (by omega) _ _ _ _
    have P1 := P1.quad qC.four hT
    have P2 := P2.quad qC.four hT
    have K := hide (And.intro hQ (And.intro P1 (And.intro P2 hBz)))
    have HWz := hide hWz
    clear hQ hBz hWz hT P1 P2
    obtain ⟨⟨x90, x91, x92, x93⟩, z90, z91, z92, z93⟩ := id qC
    go_wp2
    obtain ⟨⟨⟨q0, q1, q2, q3⟩, -, -, -, -⟩, P1, P2, hBB⟩ := K.out
    rw [HWz.out]
    exact bodyPost_ret (v := .tuple #[.agg #[.bool false, .slice none 0 0, .bool false, .slice none 0 0], .bool false]) (by simp [results, Tryz.results48, go_sem, q0, q1, q2, q3]) rfl (by rw [HW.out]; exact ⟨_, _, _, _, _, _, _, _, rfl, P1, P2, by decide, by decide, hBB⟩)
   case neg =>
    have HW : Hid (parseRO l = ratOfO (parseO A) (parseO B)) := hide (by rw [HV.out, if_pos rfl, if_neg hb])
    obtain ⟨OB, hOB⟩ : ∃ O, parseO B = O := ⟨_, rfl⟩
    have EB := hide hOB
    obtain ⟨TB, hTB⟩ : ∃ T : ByteArray, (⟨B.toArray⟩ : ByteArray) = T := ⟨_, rfl⟩
    have PB : Hid (∀ W, Syn W → Calls Tryz.prog 13 #[.string TB] W (OptPost W OB)) := hide fun W t => by rw [← hTB, ← hOB]; exact parse_any B W t
    have hne : (TB.toList == [49]) = false := by rw [← hTB, bytes_toList]; exact beq_eq_false_iff_ne.2 hb
    rw [hTB]
    clear hTB hOB HV hb
    go_wp2_with fail
    refine (PA.out w1 hsy).mono ?_
    rintro e u7 ⟨s7, a7, n7, c7, rfl, N7, k7, -, hk⟩
    have hB := hB.trans (hk.mono hB.size)
    have hsy := hsy.below hk
    have qC := qC.below hk
    clear hk
    obtain ⟨Z7, hZ7⟩ : ∃ Z, u7.alloc (Obj.cells #[.bool false, .slice none 0 0] 25) = Z := ⟨_, rfl⟩
    obtain ⟨W7, hW7⟩ : ∃ W, (Z7.setCell ⟨u7.heap.size, 0, none⟩ (.bool s7)).setCell ⟨u7.heap.size, 1, none⟩ (.slice a7 n7 c7) = W := ⟨_, rfl⟩
    obtain ⟨H7, hk, bx7⟩ := num_new (c := c7) hZ7 hW7 N7
    clear N7
    obtain ⟨B7, hB7⟩ : ∃ B, u7.heap.size = B := ⟨_, rfl⟩
    have hB := hB.trans (hk.mono hB.size)
    have hsy := hsy.below hk
    have qC := qC.below hk
    clear hk
    rw [hB7] at hW7 H7 bx7
    obtain ⟨y70, y71, yz70, yz71⟩ := id bx7
    go_wp2_with fail
    try rw [hW7]
    try rw [hB7]
    clear hW7 hB7
    clear y70 y71 yz70 yz71
    refine (PB.out W7 hsy).mono ?_
    rintro e u9 ⟨s9, a9, n9, c9, rfl, N9, k9, -, hk⟩
    have hB := hB.trans (hk.mono hB.size)
    have hsy := hsy.below hk
    have qC := qC.below hk
    have H7 := H7.below hk
    clear hk
    obtain ⟨Z9, hZ9⟩ : ∃ Z, u9.alloc (Obj.cells #[.bool false, .slice none 0 0] 25) = Z := ⟨_, rfl⟩
    obtain ⟨W9, hW9⟩ : ∃ W, (Z9.setCell ⟨u9.heap.size, 0, none⟩ (.bool s9)).setCell ⟨u9.heap.size, 1, none⟩ (.slice a9 n9 c9) = W := ⟨_, rfl⟩
    obtain ⟨H9, hk, bx9⟩ := num_new (c := c9) hZ9 hW9 N9
    clear N9
    obtain ⟨B9, hB9⟩ : ∃ B, u9.heap.size = B := ⟨_, rfl⟩
    have hB := hB.trans (hk.mono hB.size)
    have hsy := hsy.below hk
    have qC := qC.below hk
    have H7 := H7.below hk
    clear hk
    rw [hB9] at hW9 H9 bx9
    obtain ⟨ZR, hZR⟩ : ∃ Z, W9.alloc (Obj.cells #[.bool false, .slice none 0 0, .bool false, .slice none 0 0] 37) = Z := ⟨_, rfl⟩
    obtain ⟨WR, hWR⟩ : ∃ W, (((ZR.setCell ⟨W9.heap.size, 0, none⟩ (.bool s7)).setCell ⟨W9.heap.size, 1, none⟩ (.slice a7 n7 c7)).setCell ⟨W9.heap.size, 2, none⟩ (.bool s9)).setCell ⟨W9.heap.size, 3, none⟩ (.slice a9 n9 c9) = W := ⟨_, rfl⟩
    have qZ : Quad ZR W9.heap.size (.bool false) (.slice none 0 0) (.bool false) (.slice none 0 0) := by rw [← hZR]; exact Quad.new _ _ _ _ _ _
    have hk : Below W9.heap.size W9 WR := by
     have kZ : Below W9.heap.size W9 ZR := by rw [← hZR]; exact below_alloc _ _
     rw [← hWR]; exact (((kZ.setCell (p := ⟨W9.heap.size, 0, none⟩) (Nat.le_refl _) _).setCell (p := ⟨W9.heap.size, 1, none⟩) (Nat.le_refl _) _).setCell (p := ⟨W9.heap.size, 2, none⟩) (Nat.le_refl _) _).setCell (p := ⟨W9.heap.size, 3, none⟩) (Nat.le_refl _) _
    have qR := (qZ.set _ _ _ _ hWR).1
    have H7k := id H7.box
    have H9k := id H9.box
    obtain ⟨BR, hBR⟩ : ∃ B, W9.heap.size = B := ⟨_, rfl⟩
    have hB := hB.trans (hk.mono hB.size)
    have hsy := hsy.below hk
    have qC := qC.below hk
    have H7 := H7.below hk
    have H9 := H9.below hk
    clear hk
    rw [hBR] at hWR qZ qR
    cases OA with
    | none =>
      have P1 := zero_num WR
      have P2 := zero_num WR
      obtain ⟨Wz, hWz⟩ : ∃ W, (((WR.setCell ⟨w.heap.size, 0, none⟩ (.bool false)).setCell ⟨w.heap.size, 1, none⟩ (.slice none 0 0)).setCell ⟨w.heap.size, 2, none⟩ (.bool false)).setCell ⟨w.heap.size, 3, none⟩ (.slice none 0 0) = W := ⟨_, rfl⟩
      obtain ⟨hQ, hT⟩ := qC.set _ _ _ _ hWz
      have hBz : Below w.heap.size w Wz := by rw [← hWz]; exact below_set4 hB (by omega) _ _ _ _
      have P1 := P1.quad qC.four hT
      have P2 := P2.quad qC.four hT
      have K := hide (And.intro hQ (And.intro P1 (And.intro P2 hBz)))
      have HWz := hide hWz
      clear hQ hBz hWz hT P1 P2
      obtain ⟨⟨x90, x91, x92, x93⟩, z90, z91, z92, z93⟩ := id qC
      obtain ⟨y90, y91, yz90, yz91⟩ := id bx9
      obtain ⟨g70, g71, -, -⟩ := id H7k
      obtain ⟨g90, g91, -, -⟩ := id H9k
      obtain ⟨⟨y0, y1, y2, y3⟩, yz0, yz1, yz2, yz3⟩ := id qZ
      go_wp2
      try rw [hW9]
      try rw [hB9]
      try rw [hWR]
      try rw [hBR]
      obtain ⟨⟨⟨q0, q1, q2, q3⟩, -, -, -, -⟩, P1, P2, hBB⟩ := K.out
      rw [HWz.out]
      exact bodyPost_ret (v := .tuple #[.agg #[.bool false, .slice none 0 0, .bool false, .slice none 0 0], .bool false]) (by simp [results, Tryz.results48, go_sem, q0, q1, q2, q3]) rfl (by rw [show parseRO l = none from (by rw [HW.out, EA.out]; rfl)]; exact ⟨_, _, _, _, _, _, _, _, rfl, P1, P2, by decide, by decide, hBB⟩)
    | some n =>
      cases OB with
      | none =>
        have P1 := zero_num WR
        have P2 := zero_num WR
        obtain ⟨Wz, hWz⟩ : ∃ W, (((WR.setCell ⟨w.heap.size, 0, none⟩ (.bool false)).setCell ⟨w.heap.size, 1, none⟩ (.slice none 0 0)).setCell ⟨w.heap.size, 2, none⟩ (.bool false)).setCell ⟨w.heap.size, 3, none⟩ (.slice none 0 0) = W := ⟨_, rfl⟩
        obtain ⟨hQ, hT⟩ := qC.set _ _ _ _ hWz
        have hBz : Below w.heap.size w Wz := by rw [← hWz]; exact below_set4 hB (by omega) _ _ _ _
        have P1 := P1.quad qC.four hT
        have P2 := P2.quad qC.four hT
        have K := hide (And.intro hQ (And.intro P1 (And.intro P2 hBz)))
        have HWz := hide hWz
        clear hQ hBz hWz hT P1 P2
        obtain ⟨⟨x90, x91, x92, x93⟩, z90, z91, z92, z93⟩ := id qC
        obtain ⟨y90, y91, yz90, yz91⟩ := id bx9
        obtain ⟨g70, g71, -, -⟩ := id H7k
        obtain ⟨g90, g91, -, -⟩ := id H9k
        obtain ⟨⟨y0, y1, y2, y3⟩, yz0, yz1, yz2, yz3⟩ := id qZ
        go_wp2
        try rw [hW9]
        try rw [hB9]
        try rw [hWR]
        try rw [hBR]
        obtain ⟨⟨⟨q0, q1, q2, q3⟩, -, -, -, -⟩, P1, P2, hBB⟩ := K.out
        rw [HWz.out]
        exact bodyPost_ret (v := .tuple #[.agg #[.bool false, .slice none 0 0, .bool false, .slice none 0 0], .bool false]) (by simp [results, Tryz.results48, go_sem, q0, q1, q2, q3]) rfl (by rw [show parseRO l = none from (by rw [HW.out, EA.out, EB.out]; rfl)]; exact ⟨_, _, _, _, _, _, _, _, rfl, P1, P2, by decide, by decide, hBB⟩)
      | some d =>
        obtain ⟨y90, y91, yz90, yz91⟩ := id bx9
        obtain ⟨g70, g71, -, -⟩ := id H7k
        obtain ⟨g90, g91, -, -⟩ := id H9k
        obtain ⟨⟨y0, y1, y2, y3⟩, yz0, yz1, yz2, yz3⟩ := id qZ
        obtain ⟨⟨r0, r1, r2, r3⟩, -, -, -, -⟩ := id qR
        go_wp2_with fail
        try rw [hW9]
        try rw [hB9]
        try rw [hWR]
        try rw [hBR]
        clear hW9 hB9 hWR hBR
        clear y90 y91 yz90 yz91 g70 g71 g90 g91 y0 y1 y2 y3 yz0 yz1 yz2 yz3 r0 r1 r2 r3
        have h7 : IsN WR s7 a7 n7 n := H7.num
        have h9 : IsN WR s9 a9 n9 d := H9.num
        refine (ratRight_any s7 s9 a7 a9 n7 n9 c7 c9 (some n) (some d) WR ⟨h7, k7⟩ ⟨h9, k9⟩).mono ?_
        rintro e v1 ⟨rfl, hk⟩
        have hB := hB.trans (hk.mono hB.size)
        have hsy := hsy.below hk
        have qC := qC.below hk
        have H7 := H7.below hk
        have H9 := H9.below hk
        have qR := qR.below hk
        have h7 := h7.below hk
        have h9 := h9.below hk
        clear hk
        by_cases hr : rightO (some n) (some d) = true
        case neg =>
         have HR := hide hr
         rw [show rightO (some n) (some d) = false by simpa using hr]
         clear hr
         have P1 := zero_num v1
         have P2 := zero_num v1
         obtain ⟨Wz, hWz⟩ : ∃ W, (((v1.setCell ⟨w.heap.size, 0, none⟩ (.bool false)).setCell ⟨w.heap.size, 1, none⟩ (.slice none 0 0)).setCell ⟨w.heap.size, 2, none⟩ (.bool false)).setCell ⟨w.heap.size, 3, none⟩ (.slice none 0 0) = W := ⟨_, rfl⟩
         obtain ⟨hQ, hT⟩ := qC.set _ _ _ _ hWz
         have hBz : Below w.heap.size w Wz := by rw [← hWz]; exact below_set4 hB (by omega) _ _ _ _
         have P1 := P1.quad qC.four hT
         have P2 := P2.quad qC.four hT
         have K := hide (And.intro hQ (And.intro P1 (And.intro P2 hBz)))
         have HWz := hide hWz
         clear hQ hBz hWz hT P1 P2
         obtain ⟨⟨x90, x91, x92, x93⟩, z90, z91, z92, z93⟩ := id qC
         go_wp2
         obtain ⟨⟨⟨q0, q1, q2, q3⟩, -, -, -, -⟩, P1, P2, hBB⟩ := K.out
         rw [HWz.out]
         exact bodyPost_ret (v := .tuple #[.agg #[.bool false, .slice none 0 0, .bool false, .slice none 0 0], .bool false]) (by simp [results, Tryz.results48, go_sem, q0, q1, q2, q3]) rfl (by rw [show parseRO l = none from (by rw [HW.out, EA.out, EB.out]; exact if_neg HR.out)]; exact ⟨_, _, _, _, _, _, _, _, rfl, P1, P2, by decide, by decide, hBB⟩)
        case pos =>
         have HR := hide hr
         rw [hr]
         clear hr
         have P1 := h7
         have P2 := h9
         obtain ⟨Wz, hWz⟩ : ∃ W, (((v1.setCell ⟨w.heap.size, 0, none⟩ (.bool s7)).setCell ⟨w.heap.size, 1, none⟩ (.slice a7 n7 c7)).setCell ⟨w.heap.size, 2, none⟩ (.bool s9)).setCell ⟨w.heap.size, 3, none⟩ (.slice a9 n9 c9) = W := ⟨_, rfl⟩
         obtain ⟨hQ, hT⟩ := qC.set _ _ _ _ hWz
         have hBz : Below w.heap.size w Wz := by rw [← hWz]; exact below_set4 hB (by omega) _ _ _ _
         have P1 := P1.quad qC.four hT
         have P2 := P2.quad qC.four hT
         have K := hide (And.intro hQ (And.intro P1 (And.intro P2 hBz)))
         have HWz := hide hWz
         clear hQ hBz hWz hT P1 P2
         obtain ⟨⟨x90, x91, x92, x93⟩, z90, z91, z92, z93⟩ := id qC
         obtain ⟨⟨r0, r1, r2, r3⟩, -, -, -, -⟩ := id qR
         go_wp2
         obtain ⟨⟨⟨q0, q1, q2, q3⟩, -, -, -, -⟩, P1, P2, hBB⟩ := K.out
         rw [HWz.out]
         exact bodyPost_ret (v := .tuple #[.agg #[.bool s7, .slice a7 n7 c7, .bool s9, .slice a9 n9 c9], .bool true]) (by simp [results, Tryz.results48, go_sem, q0, q1, q2, q3]) rfl (by rw [show parseRO l = some (Rat.divInt n d) from (by rw [HW.out, EA.out, EB.out]; exact if_pos HR.out)]; exact ⟨_, _, _, _, _, _, _, _, rfl, by rw [show numO (some (Rat.divInt n d)) = n from (divInt_right HR.out).1]; exact P1, by rw [show denO (some (Rat.divInt n d)) = d from (divInt_right HR.out).2]; exact P2, k7, k9, hBB⟩)
end Go.Proofs.YtgenaicmjddjcaaGreatDoor
