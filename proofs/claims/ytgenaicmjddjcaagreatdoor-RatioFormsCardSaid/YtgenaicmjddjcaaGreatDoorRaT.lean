/- Several texts in one. -/
import Derived.Test.YtgenaicmjddjcaaGreatDoorPTxB
import Derived.Test.YtgenaicmjddjcaaGreatDoorPRg
import Derived.Test.YtgenaicmjddjcaaGreatDoorPRef
import Derived.Test.YtgenaicmjddjcaaGreatDoorPRf
import Derived.Test.YtgenaicmjddjcaaGreatDoorRaH
namespace Go.Proofs.YtgenaicmjddjcaaGreatDoor
open Go.RowKit Go.Shelf

end Go.Proofs.YtgenaicmjddjcaaGreatDoor

namespace Go.Proofs.YtgenaicmjddjcaaGreatDoor
open Go.RowKit Go.Shelf

structure WideD (w : World) (a : Option Addr) (n x : Nat) : Prop where
 len : dlen x ≤ n
 dig : Dig w a n (dgt x)
theorem WideD.below {w w' : World} {a : Option Addr} {n x : Nat} (h : WideD w a n x) (t : Below w.heap.size w w') : WideD w' a n x := ⟨h.len, h.dig.below t⟩
end Go.Proofs.YtgenaicmjddjcaaGreatDoor

namespace Go.Proofs.YtgenaicmjddjcaaGreatDoor
open Go.RowKit Go.Shelf

end Go.Proofs.YtgenaicmjddjcaaGreatDoor


namespace Go.Proofs.YtgenaicmjddjcaaGreatDoor
open Go.RowKit Go.Shelf

def txtR (x : Rat) : List UInt8 := if (x.den : Int) = 1 then txtZ x.num else txtZ x.num ++ (47 :: txtZ x.den)
def txtRO : Option Rat → List UInt8
 | some x => txtR x
 | none => []
theorem txtZ_len {w : World} {s : Bool} {a : Option Addr} {n : Nat} {z : Int} (h : IsN w s a n z) (hn : n ≤ 64) : (txtZ z).length ≤ 641 := by
 have := nd_fit (show dlen z.natAbs ≤ 64 by rw [← h.dig.len]; exact hn)
 unfold txtZ
 split
 · rw [List.length_cons, Lib.decDigits_length]; omega
 · rw [Lib.decDigits_length]; omega
theorem mk_appR (a b : List UInt8) : ((⟨a.toArray⟩ : ByteArray) ++ ⟨b.toArray⟩) = ⟨(a ++ b).toArray⟩ := by
 apply ByteArray.ext
 simp
theorem bytes_sizeR (a : List UInt8) : (⟨a.toArray⟩ : ByteArray).size = a.length := by
 show a.toArray.size = a.length
 simp
set_option maxRecDepth 100000 in
set_option maxHeartbeats 4000000 in
theorem ratText_r (s1 s2 : Bool) (a1 a2 : Option Addr) (n1 n2 c1 c2 : Nat) (ox : Option Rat) (w : World) (ht : Pow10 w) (hx : RArg w s1 a1 n1 s2 a2 n2 ox) :
 Calls Tryz.prog 47 #[.agg #[.bool s1, .slice a1 n1 c1, .bool s2, .slice a2 n2 c2]] w fun e w' => e = .returned (.string ⟨(txtRO ox).toArray⟩) ∧ Below w.heap.size w w' := by
 go_enter Tryz.func47, Tryz.ntmps47
 go_wp2_with fail
 obtain ⟨W1, hW1⟩ : ∃ W1, w.alloc (Obj.cells #[.bool s1, .slice a1 n1 c1, .bool s2, .slice a2 n2 c2] 37) = W1 := ⟨_, rfl⟩
 have qA : Quad W1 w.heap.size (.bool s1) (.slice a1 n1 c1) (.bool s2) (.slice a2 n2 c2) := by rw [← hW1]; exact Quad.new _ _ _ _ _ _
 have hB : Below w.heap.size w W1 := by rw [← hW1]; exact below_alloc _ _
 have hx := hx.below hB
 have ht := ht.below hB
 try rw [hW1]
 clear hW1
 refine (right_r s1 s2 a1 a2 n1 n2 c1 c2 ox W1 hx).mono ?_
 rintro e w1 ⟨rfl, hk⟩
 have hB := hB.trans (hk.mono hB.size)
 have hx := hx.below hk
 have ht := ht.below hk
 have qA := qA.below hk
 clear hk
 cases ox with
 | none =>
   go_wp2
   go_ret
   exact ⟨rfl, hB⟩
 | some x =>
   obtain ⟨⟨x10, x11, x12, x13⟩, -, -, -, -⟩ := id qA
   go_wp2_with fail
   clear x10 x11 x12 x13
   refine (isOne_any s2 a2 n2 c2 x.den hx.l2 w1 hx.den).mono ?_
   rintro e w2 ⟨rfl, hk⟩
   have hB := hB.trans (hk.mono hB.size)
   have hx := hx.below hk
   have ht := ht.below hk
   have qA := qA.below hk
   clear hk
   by_cases hd : (x.den : Int) = 1
   case pos =>
    have HD := hide hd
    rw [decide_eq_true hd]
    clear hd
    obtain ⟨⟨x10, x11, x12, x13⟩, -, -, -, -⟩ := id qA
    go_wp2_with fail
    clear x10 x11 x12 x13
    refine (text_num s1 a1 n1 c1 x.num hx.l1 w2 ht hx.num).mono ?_
    rintro e w3 ⟨rfl, hk⟩
    have hB := hB.trans (hk.mono hB.size)
    go_wp2
    go_ret
    exact ⟨by rw [show txtRO (some x) = txtZ x.num from if_pos HD.out]; rfl, hB⟩
   case neg =>
    have HD := hide hd
    rw [decide_eq_false hd]
    clear hd
    have hl1 := txtZ_len hx.num hx.l1
    have hl2 := txtZ_len hx.den hx.l2
    obtain ⟨X, hX⟩ : ∃ X : ByteArray, (⟨(txtZ x.num).toArray⟩ : ByteArray) = X := ⟨_, rfl⟩
    obtain ⟨Y, hY⟩ : ∃ Y : ByteArray, (⟨(txtZ (x.den : Int)).toArray⟩ : ByteArray) = Y := ⟨_, rfl⟩
    have sX : X.size ≤ 641 := by rw [← hX, bytes_sizeR]; exact hl1
    have sY : Y.size ≤ 641 := by rw [← hY, bytes_sizeR]; exact hl2
    have s1' : (⟨#[47]⟩ : ByteArray).size = 1 := rfl
    have A1 : Hid (∀ W : World, (Op.stringOp .add X ⟨#[47]⟩).run Tryz.prog W = .ok (.string (X ++ ⟨#[47]⟩)) W) := hide fun W => run_string_add_sum W X ⟨#[47]⟩ (by omega)
    obtain ⟨V, hV⟩ : ∃ V : ByteArray, X ++ ⟨#[47]⟩ = V := ⟨_, rfl⟩
    have sV : V.size ≤ 642 := by rw [← hV, ByteArray.size_append]; omega
    rw [hV] at A1
    have A2 : Hid (∀ W : World, (Op.stringOp .add V Y).run Tryz.prog W = .ok (.string (V ++ Y)) W) := hide fun W => run_string_add_sum W V Y (by omega)
    obtain ⟨U, hU⟩ : ∃ U : ByteArray, V ++ Y = U := ⟨_, rfl⟩
    rw [hU] at A2
    have HU : Hid (U = ⟨(txtRO (some x)).toArray⟩) := hide (by
     rw [← hU, ← hV, ← hX, ← hY, show txtRO (some x) = txtZ x.num ++ (47 :: txtZ (x.den : Int)) from if_neg HD.out, show (⟨#[47]⟩ : ByteArray) = ⟨([47] : List UInt8).toArray⟩ from rfl, mk_appR, mk_appR, List.append_assoc]; rfl)
    have TX : Hid (∀ W, Pow10 W → IsN W s1 a1 n1 x.num → Calls Tryz.prog 12 #[.agg #[.bool s1, .slice a1 n1 c1]] W fun e w' => e = .returned (.string X) ∧ Below W.heap.size W w') := hide fun W t h => by rw [← hX]; exact text_num s1 a1 n1 c1 x.num hx.l1 W t h
    have TY : Hid (∀ W, Pow10 W → IsN W s2 a2 n2 (x.den : Int) → Calls Tryz.prog 12 #[.agg #[.bool s2, .slice a2 n2 c2]] W fun e w' => e = .returned (.string Y) ∧ Below W.heap.size W w') := hide fun W t h => by rw [← hY]; exact text_num s2 a2 n2 c2 x.den hx.l2 W t h
    clear hl1 hl2 hX hY sX sY s1' hV sV hU
    go_wp2_with fail
    have hB := hB.drew
    have hx := hx.below (Below.drew (Below.refl w2.heap.size w2))
    have ht := ht.below (Below.drew (Below.refl w2.heap.size w2))
    have qA := qA.below (Below.drew (Below.refl w2.heap.size w2))
    refine wp_region_held_drew (S := fun w' => Below (w2.drew.heap.size) w2.drew w') (by kernel_rfl) (Below.refl _ _) (fun hHeld => ?_)
    obtain ⟨WE, hWE⟩ : ∃ W, w2.drew = W := ⟨_, rfl⟩
    rw [hWE] at hB hx ht qA hHeld ⊢
    clear hWE
    have hE := Below.refl WE.heap.size WE
    have lA := qA.lt
    obtain ⟨⟨x10, x11, x12, x13⟩, -, -, -, -⟩ := id qA
    refine tk 0 (.pointer (some ⟨w.heap.size, 0, none⟩)) 12 rfl rfl ?_
    simp only [Act.put, pA, pB, pC]
    refine tk 1 (.agg #[.bool s1, .slice a1 n1 c1]) 13 rfl rfl ?_ (Or.inl ⟨by rfl, fun w' hSw => by have q0 := (hSw.cell (p := ⟨w.heap.size, 0, none⟩) lA).trans x10; have q1 := (hSw.cell (p := ⟨w.heap.size, 1, none⟩) lA).trans x11; go_simp⟩)
    simp only [Act.put, pA, pB, pC]
    refine tk 4 (.pointer (some ⟨w.heap.size, 2, none⟩)) 16 rfl rfl ?_
    simp only [Act.put, pA, pB, pC]
    refine tk 5 (.agg #[.bool s2, .slice a2 n2 c2]) 17 rfl rfl ?_ (Or.inl ⟨by rfl, fun w' hSw => by have q2 := (hSw.cell (p := ⟨w.heap.size, 2, none⟩) lA).trans x12; have q3 := (hSw.cell (p := ⟨w.heap.size, 3, none⟩) lA).trans x13; go_simp⟩)
    simp only [Act.put, pA, pB, pC]
    refine wpAnyH_one 2 (by kernel_rfl) ?_
    refine wpOp_call (i := 2) (f := 12) (args := #[.agg #[.bool s1, .slice a1 n1 c1]]) 14 rfl rfl (by rfl) (by go_simp) ?_
    refine (TX.out WE ht hx.num).mono ?_
    rintro e r1 ⟨rfl, hk⟩
    have hE := hE.trans (hk.mono hE.size)
    have hx := hx.below hk
    have ht := ht.below hk
    refine ⟨_, rfl, hE, ?_⟩
    simp only [Act.put, pA, pB, pC]
    refine tk 3 (.string V) 15 rfl rfl ?_ (Or.inl ⟨by rfl, fun w' hSw => by have q0 := A1.out w'; go_simp⟩)
    simp only [Act.put, pA, pB, pC]
    refine wpAnyH_one 6 (by kernel_rfl) ?_
    refine wpOp_call (i := 6) (f := 12) (args := #[.agg #[.bool s2, .slice a2 n2 c2]]) 18 rfl rfl (by rfl) (by go_simp) ?_
    refine (TY.out r1 ht hx.den).mono ?_
    rintro e r2 ⟨rfl, hk⟩
    have hE := hE.trans (hk.mono hE.size)
    have hx := hx.below hk
    have ht := ht.below hk
    refine ⟨_, rfl, hE, ?_⟩
    simp only [Act.put, pA, pB, pC]
    refine tk 7 (.string U) 19 rfl rfl ?_ (Or.inl ⟨by rfl, fun w' hSw => by have q0 := A2.out w'; go_simp⟩)
    simp only [Act.put, pA, pB, pC]
    refine tk 8 (.string U) 2 rfl rfl ?_
    simp only [Act.put, pA, pB, pC]
    refine wpAnyH_done (by kernel_rfl) ?_ _
    have hB := hB.trans (hE.mono hB.size)
    go_wp2
    go_ret
    exact ⟨by rw [← HU.out]; rfl, hB⟩
end Go.Proofs.YtgenaicmjddjcaaGreatDoor

