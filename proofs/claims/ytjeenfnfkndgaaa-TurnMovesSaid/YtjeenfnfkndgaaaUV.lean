/- TurnValids: made frames are valid. -/
import Derived.Test.YtjeenfnfkndgaaaZZ
import Derived.Test.YtjeenfnfkndgaaaUN
import Derived.Test.YtjeenfnfkndgaaaUD
import Derived.Test.YtjeenfnfkndgaaaRows
namespace Go.Proofs.Ytjeenfnfkndgaaa
open Go Go.Sz Go.RowKit

/-- the two draws that make a frame's rotation, under other names -/
noncomputable def frL : List (Nat × X) := [(100, .o2 .get (.fn 22 (.o2 .cons (.var 0) (.lit (.cons (.i 0) (.cons (.i 8) .nil))))) (.lit (.i 0))), (101, .o2 .get (.fn 22 (.o2 .cons (.var 0) (.o2 .cons (.o2 .get (.fn 22 (.o2 .cons (.var 0) (.lit (.cons (.i 0) (.cons (.i 8) .nil))))) (.lit (.i 2))) (.lit (.cons (.i 24) .nil))))) (.lit (.i 0)))]
/-- these expressions by other names -/
noncomputable def unputX (l : List (Nat × X)) : X → X
  | .lit d => .lit d
  | .var j => .var j
  | .o1 o a => .o1 o (unputX l a)
  | .o2 o a b => match l.find? fun q => X.bq q.2 (.o2 o a b) with
    | some q => .var q.1
    | none => .o2 o (unputX l a) (unputX l b)
  | .o3 o a b c => .o3 o (unputX l a) (unputX l b) (unputX l c)
  | .fn f a => .fn f (unputX l a)
noncomputable def frY_q0 : X := .o3 .ite (.o2 .eq (.var 100) (.lit (.i 2))) (.lit (.i 3)) (.lit (.i 0))
noncomputable def frY_q1 : X := .o3 .ite (.o2 .eq (.var 100) (.lit (.i 0))) (.lit (.i 0)) (.o3 .ite (.o2 .eq (.var 100) (.lit (.i 1))) (.lit (.i 2)) (.o3 .ite (.o2 .eq (.var 100) (.lit (.i 2))) (.lit (.i 6)) (.lit (.i 0))))
noncomputable def frY_q2 : X := .o3 .ite (.o2 .eq (.var 100) (.lit (.i 2))) (.lit (.i 2)) (.lit (.i 0))
noncomputable def frY_q3 : X := .fn 11 (.o2 .cons (.o3 .ite (.o2 .eq (.var 100) (.lit (.i 0))) (.lit (.i 3)) (.o3 .ite (.o2 .eq (.var 100) (.lit (.i 1))) (.lit (.i 1)) (.o3 .ite (.o2 .eq (.var 100) (.lit (.i 2))) (.lit (.i 2)) (.lit (.i 1))))) (.o2 .cons (.o3 .ite (.o2 .eq (.var 100) (.lit (.i 0))) (.lit (.i (-4))) (.o3 .ite (.o2 .eq (.var 100) (.lit (.i 1))) (.lit (.i (-2))) frY_q0)) (.o2 .cons frY_q1 (.o2 .cons (.o3 .ite (.o2 .eq (.var 100) (.lit (.i 0))) (.lit (.i 4)) (.o3 .ite (.o2 .eq (.var 100) (.lit (.i 1))) (.lit (.i 2)) frY_q0)) (.o2 .cons (.o3 .ite (.o2 .eq (.var 100) (.lit (.i 0))) (.lit (.i 3)) (.o3 .ite (.o2 .eq (.var 100) (.lit (.i 1))) (.lit (.i (-1))) (.o3 .ite (.o2 .eq (.var 100) (.lit (.i 2))) (.lit (.i (-6))) (.lit (.i 1))))) (.o2 .cons (.o3 .ite (.o2 .eq (.var 100) (.lit (.i 0))) (.lit (.i 0)) (.o3 .ite (.o2 .eq (.var 100) (.lit (.i 1))) (.lit (.i (-2))) frY_q2)) (.o2 .cons frY_q1 (.o2 .cons (.o3 .ite (.o2 .eq (.var 100) (.lit (.i 0))) (.lit (.i 0)) (.o3 .ite (.o2 .eq (.var 100) (.lit (.i 1))) (.lit (.i 2)) frY_q2)) (.o2 .cons (.o3 .ite (.o2 .eq (.var 100) (.lit (.i 0))) (.lit (.i 5)) (.o3 .ite (.o2 .eq (.var 100) (.lit (.i 1))) (.lit (.i 1)) (.o3 .ite (.o2 .eq (.var 100) (.lit (.i 2))) (.lit (.i (-3))) (.lit (.i 1))))) (.o2 .cons (.o3 .ite (.o2 .eq (.var 100) (.lit (.i 0))) (.lit (.i 5)) (.o3 .ite (.o2 .eq (.var 100) (.lit (.i 1))) (.lit (.i 3)) (.o3 .ite (.o2 .eq (.var 100) (.lit (.i 2))) (.lit (.i 7)) (.lit (.i 1))))) (.o2 .cons (.lit (.i 0)) (.o2 .cons (.lit (.i 0)) (.o2 .cons (.lit (.i 0)) (.o2 .app (.o1 (.seg 10) (.o2 .get (.lit (.cons (.cons (.i (-1)) (.cons (.i 0) (.cons (.i 0) (.cons (.i 0) (.cons (.i (-1)) (.cons (.i 0) (.cons (.i 0) (.cons (.i 0) (.cons (.i 1) (.cons (.i 1) .nil)))))))))) (.cons (.cons (.i (-1)) (.cons (.i 0) (.cons (.i 0) (.cons (.i 0) (.cons (.i 0) (.cons (.i (-1)) (.cons (.i 0) (.cons (.i (-1)) (.cons (.i 0) (.cons (.i 1) .nil)))))))))) (.cons (.cons (.i (-1)) (.cons (.i 0) (.cons (.i 0) (.cons (.i 0) (.cons (.i 0) (.cons (.i 1) (.cons (.i 0) (.cons (.i 1) (.cons (.i 0) (.cons (.i 1) .nil)))))))))) (.cons (.cons (.i (-1)) (.cons (.i 0) (.cons (.i 0) (.cons (.i 0) (.cons (.i 1) (.cons (.i 0) (.cons (.i 0) (.cons (.i 0) (.cons (.i (-1)) (.cons (.i 1) .nil)))))))))) (.cons (.cons (.i 0) (.cons (.i (-1)) (.cons (.i 0) (.cons (.i (-1)) (.cons (.i 0) (.cons (.i 0) (.cons (.i 0) (.cons (.i 0) (.cons (.i (-1)) (.cons (.i 1) .nil)))))))))) (.cons (.cons (.i 0) (.cons (.i (-1)) (.cons (.i 0) (.cons (.i 0) (.cons (.i 0) (.cons (.i (-1)) (.cons (.i 1) (.cons (.i 0) (.cons (.i 0) (.cons (.i 1) .nil)))))))))) (.cons (.cons (.i 0) (.cons (.i (-1)) (.cons (.i 0) (.cons (.i 0) (.cons (.i 0) (.cons (.i 1) (.cons (.i (-1)) (.cons (.i 0) (.cons (.i 0) (.cons (.i 1) .nil)))))))))) (.cons (.cons (.i 0) (.cons (.i (-1)) (.cons (.i 0) (.cons (.i 1) (.cons (.i 0) (.cons (.i 0) (.cons (.i 0) (.cons (.i 0) (.cons (.i 1) (.cons (.i 1) .nil)))))))))) (.cons (.cons (.i 0) (.cons (.i 0) (.cons (.i (-1)) (.cons (.i (-1)) (.cons (.i 0) (.cons (.i 0) (.cons (.i 0) (.cons (.i 1) (.cons (.i 0) (.cons (.i 1) .nil)))))))))) (.cons (.cons (.i 0) (.cons (.i 0) (.cons (.i (-1)) (.cons (.i 0) (.cons (.i (-1)) (.cons (.i 0) (.cons (.i (-1)) (.cons (.i 0) (.cons (.i 0) (.cons (.i 1) .nil)))))))))) (.cons (.cons (.i 0) (.cons (.i 0) (.cons (.i (-1)) (.cons (.i 0) (.cons (.i 1) (.cons (.i 0) (.cons (.i 1) (.cons (.i 0) (.cons (.i 0) (.cons (.i 1) .nil)))))))))) (.cons (.cons (.i 0) (.cons (.i 0) (.cons (.i (-1)) (.cons (.i 1) (.cons (.i 0) (.cons (.i 0) (.cons (.i 0) (.cons (.i (-1)) (.cons (.i 0) (.cons (.i 1) .nil)))))))))) (.cons (.cons (.i 0) (.cons (.i 0) (.cons (.i 1) (.cons (.i (-1)) (.cons (.i 0) (.cons (.i 0) (.cons (.i 0) (.cons (.i (-1)) (.cons (.i 0) (.cons (.i 1) .nil)))))))))) (.cons (.cons (.i 0) (.cons (.i 0) (.cons (.i 1) (.cons (.i 0) (.cons (.i (-1)) (.cons (.i 0) (.cons (.i 1) (.cons (.i 0) (.cons (.i 0) (.cons (.i 1) .nil)))))))))) (.cons (.cons (.i 0) (.cons (.i 0) (.cons (.i 1) (.cons (.i 0) (.cons (.i 1) (.cons (.i 0) (.cons (.i (-1)) (.cons (.i 0) (.cons (.i 0) (.cons (.i 1) .nil)))))))))) (.cons (.cons (.i 0) (.cons (.i 0) (.cons (.i 1) (.cons (.i 1) (.cons (.i 0) (.cons (.i 0) (.cons (.i 0) (.cons (.i 1) (.cons (.i 0) (.cons (.i 1) .nil)))))))))) (.cons (.cons (.i 0) (.cons (.i 1) (.cons (.i 0) (.cons (.i (-1)) (.cons (.i 0) (.cons (.i 0) (.cons (.i 0) (.cons (.i 0) (.cons (.i 1) (.cons (.i 1) .nil)))))))))) (.cons (.cons (.i 0) (.cons (.i 1) (.cons (.i 0) (.cons (.i 0) (.cons (.i 0) (.cons (.i (-1)) (.cons (.i (-1)) (.cons (.i 0) (.cons (.i 0) (.cons (.i 1) .nil)))))))))) (.cons (.cons (.i 0) (.cons (.i 1) (.cons (.i 0) (.cons (.i 0) (.cons (.i 0) (.cons (.i 1) (.cons (.i 1) (.cons (.i 0) (.cons (.i 0) (.cons (.i 1) .nil)))))))))) (.cons (.cons (.i 0) (.cons (.i 1) (.cons (.i 0) (.cons (.i 1) (.cons (.i 0) (.cons (.i 0) (.cons (.i 0) (.cons (.i 0) (.cons (.i (-1)) (.cons (.i 1) .nil)))))))))) (.cons (.cons (.i 1) (.cons (.i 0) (.cons (.i 0) (.cons (.i 0) (.cons (.i (-1)) (.cons (.i 0) (.cons (.i 0) (.cons (.i 0) (.cons (.i (-1)) (.cons (.i 1) .nil)))))))))) (.cons (.cons (.i 1) (.cons (.i 0) (.cons (.i 0) (.cons (.i 0) (.cons (.i 0) (.cons (.i (-1)) (.cons (.i 0) (.cons (.i 1) (.cons (.i 0) (.cons (.i 1) .nil)))))))))) (.cons (.cons (.i 1) (.cons (.i 0) (.cons (.i 0) (.cons (.i 0) (.cons (.i 0) (.cons (.i 1) (.cons (.i 0) (.cons (.i (-1)) (.cons (.i 0) (.cons (.i 1) .nil)))))))))) (.cons (.cons (.i 1) (.cons (.i 0) (.cons (.i 0) (.cons (.i 0) (.cons (.i 1) (.cons (.i 0) (.cons (.i 0) (.cons (.i 0) (.cons (.i 1) (.cons (.i 1) .nil)))))))))) .nil))))))))))))))))))))))))) (.var 101))) (.lit (.cons (.i 0) (.cons (.i 0) (.cons (.i 0) .nil))))))))))))))))))
noncomputable def frY : List X := [.o2 .get frY_q3 (.lit (.i 0)), .o2 .get frY_q3 (.lit (.i 1)), .o2 .get frY_q3 (.lit (.i 2)), .o2 .get frY_q3 (.lit (.i 3)), .o2 .get frY_q3 (.lit (.i 4)), .o2 .get frY_q3 (.lit (.i 5)), .o2 .get frY_q3 (.lit (.i 6)), .o2 .get frY_q3 (.lit (.i 7)), .o2 .get frY_q3 (.lit (.i 8)), .o2 .get frY_q3 (.lit (.i 9))]
def envT (a b : Nat) : Env := ⟨fun j => if j = 100 then .i (a : Int) else if j = 101 then .i (b : Int) else .nil, fun _ => ⟨.bool true, rfl⟩⟩
noncomputable def frChk (a b : Nat) : Bool := D.bq ((tabF F16 5 (ofR frY fun y => y.dR (tabF F16) (envT a b).d)).getR 0) (.b true)
set_option maxRecDepth 100000 in
theorem frAll : ((List.range 8).all fun a => (List.range 24).all fun b => frChk a b) = true := by kernel_rfl
theorem frY_put : r11_Frames_w_x.take 10 = frY.map (X.put frL) := by kernel_rfl
theorem frY_only : (frY.all fun y => y.only F16 fun j => j == 100 || j == 101) = true := by kernel_rfl
theorem next_i {T : Tab} (h22 : T 22 = fnOf F13 r01_Draw_Next_w_x) (L a n : D) : (T 22 (.cons L (.cons a (.cons n .nil)))).get 0 = .i ((T 22 (.cons L (.cons a (.cons n .nil)))).get 0).int := by
  rw [h22, fnOf_eq]
  simp only [r01_Draw_Next_w_x, List.map_cons, List.map_nil, D.of, X.d, den1, den3, den_add, den_sub, den_rem, den_lt, den_le, den_get, int_i, bool_b, D.get, Int.toNat_zero, envD]
  show (if leB (L.len : Int) a.int = true then D.i 0 else if ltB n.int 1 = true then .i 0 else .i ((IntKind.i64.wrap (Int.tmod ((L.get (IntKind.i64.wrap (IntKind.i64.wrap (a.int + 1) - 1)).toNat).get 0).int n.int + n.int)).tmod n.int)) = .i (D.int (if leB (L.len : Int) a.int = true then .i 0 else if ltB n.int 1 = true then .i 0 else .i ((IntKind.i64.wrap (Int.tmod ((L.get (IntKind.i64.wrap (IntKind.i64.wrap (a.int + 1) - 1)).toNat).get 0).int n.int + n.int)).tmod n.int)))
  split
  · rfl
  · split <;> rfl
/-- a made frame's rotation is valid -/
theorem frames_v {T : Tab} (hF : Fs.ok F17 T) (L : D) : (T 5 (D.seg 10 (T 24 (.cons L .nil)) 0)).get 0 = .b true := by
  have h24 : T 24 = fnOf F16 r11_Frames_w_x := hF.top
  have h22 : T 22 = fnOf F13 r01_Draw_Next_w_x := hF.tail.tail.tail.top
  have e5 : T 5 = tabF F16 5 := tabF_eq hF.tail (by kernel_rfl)
  have e22 : tabF F16 22 = T 22 := (tabF_eq hF.tail (by kernel_rfl)).symm
  have hs : ∀ g : X → D, D.seg 10 (D.of (r11_Frames_w_x.map g)) 0 = D.of ((r11_Frames_w_x.take 10).map g) := fun g => rfl
  have b0 := next_v h22 L (.i 0) (.i 8) (by decide) (by decide)
  have b1 := next_v h22 L ((T 22 (.cons L (.cons (.i 0) (.cons (.i 8) .nil)))).get 2) (.i 24) (by decide) (by decide)
  have i0 := next_i h22 L (.i 0) (.i 8)
  have i1 := next_i h22 L ((T 22 (.cons L (.cons (.i 0) (.cons (.i 8) .nil)))).get 2) (.i 24)
  generalize ha : ((T 22 (.cons L (.cons (.i 0) (.cons (.i 8) .nil)))).get 0).int = a at b0 i0
  generalize hb : ((T 22 (.cons L (.cons ((T 22 (.cons L (.cons (.i 0) (.cons (.i 8) .nil)))).get 2) (.cons (.i 24) .nil)))).get 0).int = b at b1 i1
  have b0' : 0 ≤ a ∧ a < 8 := b0
  have b1' : 0 ≤ b ∧ b < 24 := b1
  rw [h24, fnOf_eq, hs, frY_put, List.map_map]
  have key : frY.map ((X.d (tabF F16) (envD (.cons L .nil))) ∘ X.put frL) = frY.map fun y => y.dR (tabF F16) (envT a.toNat b.toNat).d := by
    refine List.map_congr_left fun y hy => ?_
    show ((X.put frL y).d _ _) = _
    rw [put_d, dR_eq]
    refine (only_d (T := tabF F16) (F := F16) (p := fun j => j == 100 || j == 101) ?_ (fun j hj => ?_) (List.all_eq_true.1 frY_only y hy)).symm
    · exact tabF_ok (by kernel_rfl)
    · have : j = 100 ∨ j = 101 := by simpa using hj
      rcases this with rfl | rfl
      · show D.i (a.toNat : Int) = (tabF F16 22 (.cons L (.cons (.i 0) (.cons (.i 8) .nil)))).get 0
        rw [e22, i0]; congr 1; omega
      · show D.i (b.toNat : Int) = (tabF F16 22 (.cons L (.cons ((tabF F16 22 (.cons L (.cons (.i 0) (.cons (.i 8) .nil)))).get 2) (.cons (.i 24) .nil)))).get 0
        rw [e22, i1]; congr 1; omega
  rw [key, e5]
  have h := List.all_eq_true.1 (List.all_eq_true.1 frAll a.toNat (List.mem_range.2 (by omega))) b.toNat (List.mem_range.2 (by omega))
  have h := D.bq_iff.1 h
  rw [getR_eq, ofR_eq] at h
  exact h
end Go.Proofs.Ytjeenfnfkndgaaa
