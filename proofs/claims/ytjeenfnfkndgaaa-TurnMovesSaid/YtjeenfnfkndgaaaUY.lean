/- Made rotations with the denominator 1. -/
import Derived.Test.YtjeenfnfkndgaaaZZ
import Derived.Test.YtjeenfnfkndgaaaUV
import Derived.Test.YtjeenfnfkndgaaaRows
namespace Go.Proofs.Ytjeenfnfkndgaaa
open Go Go.Sz Go.RowKit

/-- the rotation that two draws make -/
noncomputable def frT (a b : Nat) : D := ofR frY fun y => y.dR (tabF F16) (envT a b).d
def trD (t : D) : D := .cons (t.get 0) (.cons (t.get 3) (.cons (t.get 6) (.cons (t.get 1) (.cons (t.get 4) (.cons (t.get 7) (.cons (t.get 2) (.cons (t.get 5) (.cons (t.get 8) (.cons (t.get 9) .nil)))))))))
noncomputable def eqI (a b : D) : Nat → Bool
  | 0 => true
  | n + 1 => eqI a b n && ieqR (a.getR n).int (b.getR n).int
/-- with the denominator 1 it is one of the cube's, and so is what leads back -/
noncomputable def cubeChk (a b : Nat) : Bool := cond (ieqR ((frT a b).getR 9).int 1) (((tabF F16 5 (trD (frT a b))).getR 0).bool && (List.range 24).any fun k => eqI (frT a b) (allD.getR k) 10) true
noncomputable def prD (g f : D) : D :=
  let p (i j : Nat) : D := .i ((g.getR (3 * i)).int * (f.getR j).int + (g.getR (3 * i + 1)).int * (f.getR (3 + j)).int + (g.getR (3 * i + 2)).int * (f.getR (6 + j)).int)
  .cons (p 0 0) (.cons (p 0 1) (.cons (p 0 2) (.cons (p 1 0) (.cons (p 1 1) (.cons (p 1 2) (.cons (p 2 0) (.cons (p 2 1) (.cons (p 2 2) (.cons (.i 1) .nil)))))))))
set_option maxRecDepth 100000 in
theorem cubeAll : ((List.range 8).all fun a => (List.range 24).all fun b => cubeChk a b) = true := by kernel_rfl
set_option maxRecDepth 100000 in
theorem pairAll : ((List.range 24).all fun a => (List.range 24).all fun b => ((tabF F16 5 (prD (allD.getR a) (allD.getR b))).getR 0).bool) = true := by kernel_rfl
theorem frames_t {T : Tab} (hF : Fs.ok F17 T) (L : D) : ∃ a b, a < 8 ∧ b < 24 ∧ D.seg 10 (T 24 (.cons L .nil)) 0 = frT a b := by
  have h24 : T 24 = fnOf F16 r11_Frames_w_x := hF.top
  have h22 : T 22 = fnOf F13 r01_Draw_Next_w_x := hF.tail.tail.tail.top
  have e22 : tabF F16 22 = T 22 := (tabF_eq hF.tail (by kernel_rfl)).symm
  have hs : ∀ g : X → D, D.seg 10 (D.of (r11_Frames_w_x.map g)) 0 = D.of ((r11_Frames_w_x.take 10).map g) := fun g => rfl
  have b0 := next_v h22 L (.i 0) (.i 8) (by decide) (by decide)
  have b1 := next_v h22 L ((T 22 (.cons L (.cons (.i 0) (.cons (.i 8) .nil)))).get 2) (.i 24) (by decide) (by decide)
  have i0 := next_i h22 L (.i 0) (.i 8)
  have i1 := next_i h22 L ((T 22 (.cons L (.cons (.i 0) (.cons (.i 8) .nil)))).get 2) (.i 24)
  generalize ha : ((T 22 (.cons L (.cons (.i 0) (.cons (.i 8) .nil)))).get 0).int = a at b0 i0
  generalize hb : ((T 22 (.cons L (.cons ((T 22 (.cons L (.cons (.i 0) (.cons (.i 8) .nil)))).get 2) (.cons (.i 24) .nil)))).get 0).int = b at b1 i1
  have b0' : 0 ≤ a ∧ a < 8 := b0
  have b1' : 0 ≤ b ∧ b < 24 := b1
  refine ⟨a.toNat, b.toNat, by omega, by omega, ?_⟩
  rw [h24, fnOf_eq, hs, frY_put, List.map_map]
  have key : frY.map ((X.d (tabF F16) (envD (.cons L .nil))) ∘ X.put frL) = frY.map fun y => y.dR (tabF F16) (envT a.toNat b.toNat).d := by
    refine List.map_congr_left fun y hy => ?_
    show ((X.put frL y).d _ _) = _
    rw [put_d, dR_eq]
    refine (only_d (T := tabF F16) (F := F16) (p := fun j => j == 100 || j == 101) ?_ (fun j hj => ?_) (List.all_eq_true.1 frY_only y hy)).symm
    · exact tabF_ok (by kernel_rfl)
    · have : j = 100 ∨ j = 101 := by simpa using hj
      rcases this with rfl | rfl
      · show D.i (a.toNat : Int) = (tabF F16 22 (.cons L (.cons (.i 0) (.cons (.i 8) .nil)))).get 0
        rw [e22, i0]; congr 1; omega
      · show D.i (b.toNat : Int) = (tabF F16 22 (.cons L (.cons ((tabF F16 22 (.cons L (.cons (.i 0) (.cons (.i 8) .nil)))).get 2) (.cons (.i 24) .nil)))).get 0
        rw [e22, i1]; congr 1; omega
  rw [key]
  unfold frT
  rw [ofR_eq]

end Go.Proofs.Ytjeenfnfkndgaaa
