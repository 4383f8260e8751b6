/- plane's functions with drawn regions. -/
import Derived.Test.YtblnpelbklfloaaVPl
namespace Go.Proofs.Ytblnpelbklfloaa
open Go.RowKit

/-- the reach of a box -/
def rch (a b c x y z : Int) : Int := wrap64 (wrap64 (wrap64 (absW a * x) + wrap64 (absW b * y)) + wrap64 (absW c * z))
theorem Gives.to {P : Program} {f : FuncId} {args : Array Value} {w : World} {v u : Value} (e : v = u) (h : Calls P f args w (Gives w v)) : Calls P f args w (Gives w u) := e ▸ h
set_option maxRecDepth 100000 in
set_option maxHeartbeats 2000000 in
theorem flip_p (x y z b : Int) (w : World) : Calls Try.prog 31 #[Pl x y z b] w (Gives w (Pl (wrap64 (0 - x)) (wrap64 (0 - y)) (wrap64 (0 - z)) (wrap64 (-b)))) := by
  unfold Pl
  go_enter Try.func31, Try.ntmps31
  have hB := Below.refl w.heap.size w
  go_wp2_with fail
  refine wp_region_dag (by kernel_rfl) ?_
  intro W1 hk
  have hs : Below w.heap.size w W1 := Below.trans (by repeat (first | exact Below.refl _ _ | refine Below.alloc ?_ (by simp; try omega) _ | refine Below.setCell ?_ (by simp; try omega) _)) (hk.mono (by simp; try omega))
  have v0 : Var W1 (w.heap.size) [.int .i64 x, .int .i64 y, .int .i64 z, .int .i64 b] := Var.low ⟨by simp; try omega, by simp [Cel, go_sem]⟩ hk (by simp; try omega)
  have v1 : Var W1 (w.heap.size + 1) [.int .i64 0, .int .i64 0, .int .i64 0, .int .i64 0] := Var.low ⟨by simp; try omega, by simp [Cel, go_sem]⟩ hk (by simp; try omega)
  obtain ⟨b1, hb1⟩ : ∃ b, w.heap.size + 1 = b := ⟨_, rfl⟩
  have lob1 : w.heap.size ≤ b1 := by have := hB.size; omega
  obtain ⟨b0, hb0⟩ : ∃ b, w.heap.size = b := ⟨_, rfl⟩
  have lob0 : w.heap.size ≤ b0 := by have := hB.size; omega
  have db0_b1 : b0 ≠ b1 := by omega
  rw [hb1] at v1
  try rw [hb1]
  rw [hb0] at v0
  try rw [hb0]
  have hB := hB.trans (hs.mono hB.size)
  clear hb0 hb1 hs hk
  refine dagV (fun _ => trivial) 9 ?hn (fun X => ⟨#[.agg #[.int .i64 x, .int .i64 y, .int .i64 z, .int .i64 b], .pointer (some ⟨b0, 0, none⟩), .pointer (some ⟨b1, 0, none⟩), X 0, X 1, X 2, X 3, X 4, X 5, X 6, X 7], []⟩) [(0, 0, 0), (0, 0, 0), (0, 0, 0), (0, 0, 0), (0, 0, 0), (0, 0, 0), (0, 0, 0), (0, 0, 0), (4, b1, 7)] (fun i => ([[], [], [], [], [], [], [], [], [.int .i64 0, .int .i64 0, .int .i64 0, .int .i64 0]] : List (List Value)).getD i []) [.val (.agg #[.int .i64 0, .int .i64 0, .int .i64 0]), .val (.pointer (some ⟨b0, 0, none⟩)), .val (.agg #[.int .i64 x, .int .i64 y, .int .i64 z]), .val (.agg #[.int .i64 (wrap64 (0 - x)), .int .i64 (wrap64 (0 - y)), .int .i64 (wrap64 (0 - z))]), .val (.pointer (some ⟨b0, 3, none⟩)), .val (.int .i64 b), .val (.int .i64 (wrap64 (-b))), .val (.agg #[.int .i64 (wrap64 (0 - x)), .int .i64 (wrap64 (0 - y)), .int .i64 (wrap64 (0 - z)), .int .i64 (wrap64 (-b))]), .none] [[], [], [1], [0, 2], [], [4], [5], [3, 6], [7]] [0, 1, 2, 3, 4, 5, 6, 7] [] [] [8] (fun _ => 0) W1 (by kernel_rfl) (by kernel_rfl) (by kernel_rfl) (by kernel_rfl) (by kernel_rfl) ?dist ?olds ?op ?al ?st ?into ?fin (fun _ => undef) _ _ (by kernel_rfl) (of_decide_eq_true (by kernel_rfl)) (of_decide_eq_true (by kernel_rfl))
  case hn => rfl
  case dist => intro i hi j hj; simp at hi hj; try omega
  case olds => intro i hi; obtain rfl := List.mem_singleton.1 hi; exact v1
  case op =>
    repeat' first | exact Each.nil | refine Each.cons ?_ ?_
    all_goals intro X w7 H hb hD h
    · refine tv rfl (by rfl) ?_ (by exact h _ w7 rfl (Below.refl _ _))
      go_simp <;> first | rfl | (simp only [IntWalk.i64_left]; rfl)
    · refine tv rfl (by rfl) ?_ (by exact h _ w7 rfl (Below.refl _ _))
      go_simp <;> first | rfl | (simp only [IntWalk.i64_left]; rfl)
    · have e1_ : X 1 = _ := hD 1 (by decide) rfl
      have hv := (show Keep [b1] _ _ from hb).var v0 (by simp; first | omega | (intro h; exact absurd h (by first | assumption | (apply Ne.symm; assumption))))
      have c0_ := hv.at 0 rfl
      have c1_ := hv.at 1 rfl
      have c2_ := hv.at 2 rfl
      refine tv rfl (by simp only [e1_]; rfl) ?_ (by exact h _ w7 rfl (Below.refl _ _))
      simp only [e1_]; go_simp <;> first | rfl | (simp only [IntWalk.i64_left]; rfl)
    · have e0_ : X 0 = _ := hD 0 (by decide) rfl
      have e2_ : X 2 = _ := hD 2 (by decide) rfl
      refine wpOp_call (i := 3) (f := 17) (args := #[.agg #[.int .i64 0, .int .i64 0, .int .i64 0], .agg #[.int .i64 x, .int .i64 y, .int .i64 z]]) 6 rfl rfl (by simp only [e0_, e2_]; rfl) (by simp only [e0_, e2_]; go_simp) ?_
      refine (sub_p 0 0 0 x y z _).mono ?_
      rintro e w8 ⟨rfl, hk⟩
      exact ⟨_, rfl, h _ w8 rfl hk⟩
    · refine tv rfl (by rfl) ?_ (by exact h _ w7 rfl (Below.refl _ _))
      go_simp <;> first | rfl | (simp only [IntWalk.i64_left]; rfl)
    · have e4_ : X 4 = _ := hD 4 (by decide) rfl
      have hv := (show Keep [b1] _ _ from hb).var v0 (by simp; first | omega | (intro h; exact absurd h (by first | assumption | (apply Ne.symm; assumption))))
      have c0_ := hv.at 3 rfl
      refine tv rfl (by simp only [e4_]; rfl) ?_ (by exact h _ w7 rfl (Below.refl _ _))
      simp only [e4_]; go_simp <;> first | rfl | (simp only [IntWalk.i64_left]; rfl)
    · have e5_ : X 5 = _ := hD 5 (by decide) rfl
      refine tv rfl (by simp only [e5_]; rfl) ?_ (by exact h _ w7 rfl (Below.refl _ _))
      simp only [e5_]; go_simp <;> first | rfl | (simp only [IntWalk.i64_left]; rfl)
    · have e3_ : X 3 = _ := hD 3 (by decide) rfl
      have e6_ : X 6 = _ := hD 6 (by decide) rfl
      refine tv rfl (by simp only [e3_, e6_]; rfl) ?_ (by exact h _ w7 rfl (Below.refl _ _))
      simp only [e3_, e6_]; go_simp <;> first | rfl | (simp only [IntWalk.i64_left]; rfl)
  case al => exact Each.nil
  case st => exact Each.nil
  case into =>
    repeat' first | exact Each.nil | refine Each.cons ?_ ?_
    all_goals intro X w7 H hC hG h
    · have e : X 7 = _ := hG
      replace hC : Var w7 b1 [.int .i64 0, .int .i64 0, .int .i64 0, .int .i64 0] := hC
      have c0_ := hC.at 0 rfl
      have z0_ := hC.fr 0 (by simp)
      have c1_ := hC.at 1 rfl
      have z1_ := hC.fr 1 (by simp)
      have c2_ := hC.at 2 rfl
      have z2_ := hC.fr 2 (by simp)
      have c3_ := hC.at 3 rfl
      have z3_ := hC.fr 3 (by simp)
      refine wpOp_run rfl ?_
      have h := h (by show _ = (vc (X 7)).length; rw [e]; rfl)
      replace h : H _ (putC b1 w7 0 (vc (X 7))) := h
      generalize wrap64 (0 - x) = u0_ at e
      generalize wrap64 (0 - y) = u1_ at e
      generalize wrap64 (0 - z) = u2_ at e
      generalize wrap64 (-b) = u3_ at e
      simp only [e] at h ⊢
      go_simp
      exact h
  case fin =>
    intro X1_ W2 hI
    have hE : Keep [b1] W1 W2 := hI.keep
    have e7_ : X1_ 7 = _ := hI.fact 7 (by decide) rfl rfl
    have v0 := hE.var v0 (by simp; first | omega | (intro h; exact absurd h (by first | assumption | (apply Ne.symm; assumption))))
    replace v1 : Var W2 b1 (vc (X1_ 7)) := (hI.old 8 (by decide) rfl).2
    rw [e7_] at v1
    replace v1 : Var W2 b1 [.int .i64 (wrap64 (0 - x)), .int .i64 (wrap64 (0 - y)), .int .i64 (wrap64 (0 - z)), .int .i64 (wrap64 (-b))] := v1
    have hB := hB.trans (hE.low (B := w.heap.size) hB.size (by intro b hb; simp at hb; subst hb; assumption))
    simp only [e7_]
    clear e7_ hI hE
    have cb1_0 := v1.at 0 rfl
    have cb1_1 := v1.at 1 rfl
    have cb1_2 := v1.at 2 rfl
    have cb1_3 := v1.at 3 rfl
    go_wp2_with fail
    exact bodyPost_ret (v := .agg #[.int .i64 (wrap64 (0 - x)), .int .i64 (wrap64 (0 - y)), .int .i64 (wrap64 (0 - z)), .int .i64 (wrap64 (-b))]) (by simp [results, Try.results31, go_sem, cb1_0, cb1_1, cb1_2, cb1_3]) rfl ⟨rfl, by repeat (first | exact hB | refine Below.alloc ?_ (by simp; try omega) _ | refine Below.setCell ?_ (by simp; try omega) _)⟩


set_option maxRecDepth 100000 in
set_option maxHeartbeats 2000000 in
theorem flip_r (x y z b : Int) (w : World) : Calls Try.prog 32 #[Pl x y z b] w (Gives w (Pl (wrap64 (0 - x)) (wrap64 (0 - y)) (wrap64 (0 - z)) (wrap64 (-b)))) := by
  unfold Pl
  go_enter Try.func32, Try.ntmps32
  have hB := Below.refl w.heap.size w
  go_wp2_with fail
  refine wp_region_dag (by kernel_rfl) ?_
  intro W1 hk
  have hs : Below w.heap.size w W1 := Below.trans (by repeat (first | exact Below.refl _ _ | refine Below.alloc ?_ (by simp; try omega) _ | refine Below.setCell ?_ (by simp; try omega) _)) (hk.mono (by simp; try omega))
  have v0 : Var W1 (w.heap.size) [.int .i64 x, .int .i64 y, .int .i64 z, .int .i64 b] := Var.low ⟨by simp; try omega, by simp [Cel, go_sem]⟩ hk (by simp; try omega)
  have v1 : Var W1 (w.heap.size + 1) [.int .i64 0, .int .i64 0, .int .i64 0, .int .i64 0] := Var.low ⟨by simp; try omega, by simp [Cel, go_sem]⟩ hk (by simp; try omega)
  obtain ⟨b1, hb1⟩ : ∃ b, w.heap.size + 1 = b := ⟨_, rfl⟩
  have lob1 : w.heap.size ≤ b1 := by have := hB.size; omega
  obtain ⟨b0, hb0⟩ : ∃ b, w.heap.size = b := ⟨_, rfl⟩
  have lob0 : w.heap.size ≤ b0 := by have := hB.size; omega
  have db0_b1 : b0 ≠ b1 := by omega
  rw [hb1] at v1
  try rw [hb1]
  rw [hb0] at v0
  try rw [hb0]
  have hB := hB.trans (hs.mono hB.size)
  clear hb0 hb1 hs hk
  refine dagV (fun _ => trivial) 9 ?hn (fun X => ⟨#[.agg #[.int .i64 x, .int .i64 y, .int .i64 z, .int .i64 b], .pointer (some ⟨b0, 0, none⟩), .pointer (some ⟨b1, 0, none⟩), X 0, X 1, X 2, X 3, X 4, X 5, X 6, X 7], []⟩) [(0, 0, 0), (0, 0, 0), (0, 0, 0), (0, 0, 0), (0, 0, 0), (0, 0, 0), (0, 0, 0), (0, 0, 0), (4, b1, 7)] (fun i => ([[], [], [], [], [], [], [], [], [.int .i64 0, .int .i64 0, .int .i64 0, .int .i64 0]] : List (List Value)).getD i []) [.val (.agg #[.int .i64 0, .int .i64 0, .int .i64 0]), .val (.pointer (some ⟨b0, 0, none⟩)), .val (.agg #[.int .i64 x, .int .i64 y, .int .i64 z]), .val (.agg #[.int .i64 (wrap64 (0 - x)), .int .i64 (wrap64 (0 - y)), .int .i64 (wrap64 (0 - z))]), .val (.pointer (some ⟨b0, 3, none⟩)), .val (.int .i64 b), .val (.int .i64 (wrap64 (-b))), .val (.agg #[.int .i64 (wrap64 (0 - x)), .int .i64 (wrap64 (0 - y)), .int .i64 (wrap64 (0 - z)), .int .i64 (wrap64 (-b))]), .none] [[], [], [1], [0, 2], [], [4], [5], [3, 6], [7]] [0, 1, 2, 3, 4, 5, 6, 7] [] [] [8] (fun _ => 0) W1 (by kernel_rfl) (by kernel_rfl) (by kernel_rfl) (by kernel_rfl) (by kernel_rfl) ?dist ?olds ?op ?al ?st ?into ?fin (fun _ => undef) _ _ (by kernel_rfl) (of_decide_eq_true (by kernel_rfl)) (of_decide_eq_true (by kernel_rfl))
  case hn => rfl
  case dist => intro i hi j hj; simp at hi hj; try omega
  case olds => intro i hi; obtain rfl := List.mem_singleton.1 hi; exact v1
  case op =>
    repeat' first | exact Each.nil | refine Each.cons ?_ ?_
    all_goals intro X w7 H hb hD h
    · refine tv rfl (by rfl) ?_ (by exact h _ w7 rfl (Below.refl _ _))
      go_simp <;> first | rfl | (simp only [IntWalk.i64_left]; rfl)
    · refine tv rfl (by rfl) ?_ (by exact h _ w7 rfl (Below.refl _ _))
      go_simp <;> first | rfl | (simp only [IntWalk.i64_left]; rfl)
    · have e1_ : X 1 = _ := hD 1 (by decide) rfl
      have hv := (show Keep [b1] _ _ from hb).var v0 (by simp; first | omega | (intro h; exact absurd h (by first | assumption | (apply Ne.symm; assumption))))
      have c0_ := hv.at 0 rfl
      have c1_ := hv.at 1 rfl
      have c2_ := hv.at 2 rfl
      refine tv rfl (by simp only [e1_]; rfl) ?_ (by exact h _ w7 rfl (Below.refl _ _))
      simp only [e1_]; go_simp <;> first | rfl | (simp only [IntWalk.i64_left]; rfl)
    · have e0_ : X 0 = _ := hD 0 (by decide) rfl
      have e2_ : X 2 = _ := hD 2 (by decide) rfl
      refine wpOp_call (i := 3) (f := 18) (args := #[.agg #[.int .i64 0, .int .i64 0, .int .i64 0], .agg #[.int .i64 x, .int .i64 y, .int .i64 z]]) 6 rfl rfl (by simp only [e0_, e2_]; rfl) (by simp only [e0_, e2_]; go_simp) ?_
      refine (sub_r 0 0 0 x y z _).mono ?_
      rintro e w8 ⟨rfl, hk⟩
      exact ⟨_, rfl, h _ w8 rfl hk⟩
    · refine tv rfl (by rfl) ?_ (by exact h _ w7 rfl (Below.refl _ _))
      go_simp <;> first | rfl | (simp only [IntWalk.i64_left]; rfl)
    · have e4_ : X 4 = _ := hD 4 (by decide) rfl
      have hv := (show Keep [b1] _ _ from hb).var v0 (by simp; first | omega | (intro h; exact absurd h (by first | assumption | (apply Ne.symm; assumption))))
      have c0_ := hv.at 3 rfl
      refine tv rfl (by simp only [e4_]; rfl) ?_ (by exact h _ w7 rfl (Below.refl _ _))
      simp only [e4_]; go_simp <;> first | rfl | (simp only [IntWalk.i64_left]; rfl)
    · have e5_ : X 5 = _ := hD 5 (by decide) rfl
      refine tv rfl (by simp only [e5_]; rfl) ?_ (by exact h _ w7 rfl (Below.refl _ _))
      simp only [e5_]; go_simp <;> first | rfl | (simp only [IntWalk.i64_left]; rfl)
    · have e3_ : X 3 = _ := hD 3 (by decide) rfl
      have e6_ : X 6 = _ := hD 6 (by decide) rfl
      refine tv rfl (by simp only [e3_, e6_]; rfl) ?_ (by exact h _ w7 rfl (Below.refl _ _))
      simp only [e3_, e6_]; go_simp <;> first | rfl | (simp only [IntWalk.i64_left]; rfl)
  case al => exact Each.nil
  case st => exact Each.nil
  case into =>
    repeat' first | exact Each.nil | refine Each.cons ?_ ?_
    all_goals intro X w7 H hC hG h
    · have e : X 7 = _ := hG
      replace hC : Var w7 b1 [.int .i64 0, .int .i64 0, .int .i64 0, .int .i64 0] := hC
      have c0_ := hC.at 0 rfl
      have z0_ := hC.fr 0 (by simp)
      have c1_ := hC.at 1 rfl
      have z1_ := hC.fr 1 (by simp)
      have c2_ := hC.at 2 rfl
      have z2_ := hC.fr 2 (by simp)
      have c3_ := hC.at 3 rfl
      have z3_ := hC.fr 3 (by simp)
      refine wpOp_run rfl ?_
      have h := h (by show _ = (vc (X 7)).length; rw [e]; rfl)
      replace h : H _ (putC b1 w7 0 (vc (X 7))) := h
      generalize wrap64 (0 - x) = u0_ at e
      generalize wrap64 (0 - y) = u1_ at e
      generalize wrap64 (0 - z) = u2_ at e
      generalize wrap64 (-b) = u3_ at e
      simp only [e] at h ⊢
      go_simp
      exact h
  case fin =>
    intro X1_ W2 hI
    have hE : Keep [b1] W1 W2 := hI.keep
    have e7_ : X1_ 7 = _ := hI.fact 7 (by decide) rfl rfl
    have v0 := hE.var v0 (by simp; first | omega | (intro h; exact absurd h (by first | assumption | (apply Ne.symm; assumption))))
    replace v1 : Var W2 b1 (vc (X1_ 7)) := (hI.old 8 (by decide) rfl).2
    rw [e7_] at v1
    replace v1 : Var W2 b1 [.int .i64 (wrap64 (0 - x)), .int .i64 (wrap64 (0 - y)), .int .i64 (wrap64 (0 - z)), .int .i64 (wrap64 (-b))] := v1
    have hB := hB.trans (hE.low (B := w.heap.size) hB.size (by intro b hb; simp at hb; subst hb; assumption))
    simp only [e7_]
    clear e7_ hI hE
    have cb1_0 := v1.at 0 rfl
    have cb1_1 := v1.at 1 rfl
    have cb1_2 := v1.at 2 rfl
    have cb1_3 := v1.at 3 rfl
    go_wp2_with fail
    exact bodyPost_ret (v := .agg #[.int .i64 (wrap64 (0 - x)), .int .i64 (wrap64 (0 - y)), .int .i64 (wrap64 (0 - z)), .int .i64 (wrap64 (-b))]) (by simp [results, Try.results32, go_sem, cb1_0, cb1_1, cb1_2, cb1_3]) rfl ⟨rfl, by repeat (first | exact hB | refine Below.alloc ?_ (by simp; try omega) _ | refine Below.setCell ?_ (by simp; try omega) _)⟩


set_option maxRecDepth 100000 in
set_option maxHeartbeats 2000000 in
theorem reach_p (a b c x y z : Int) (w : World) : Calls Try.prog 23 #[V a b c, V x y z] w (Gives w (.int .i64 (rch a b c x y z))) := by
  unfold V
  go_enter Try.func23, Try.ntmps23
  have hB := Below.refl w.heap.size w
  go_wp2_with fail
  refine wp_region_dag (by kernel_rfl) ?_
  intro W1 hk
  have hs : Below w.heap.size w W1 := Below.trans (by repeat (first | exact Below.refl _ _ | refine Below.alloc ?_ (by simp; try omega) _ | refine Below.setCell ?_ (by simp; try omega) _)) (hk.mono (by simp; try omega))
  have v0 : Var W1 (w.heap.size) [.int .i64 a, .int .i64 b, .int .i64 c] := Var.low ⟨by simp; try omega, by simp [Cel, go_sem]⟩ hk (by simp; try omega)
  have v1 : Var W1 (w.heap.size + 1) [.int .i64 x, .int .i64 y, .int .i64 z] := Var.low ⟨by simp; try omega, by simp [Cel, go_sem]⟩ hk (by simp; try omega)
  obtain ⟨b1, hb1⟩ : ∃ b, w.heap.size + 1 = b := ⟨_, rfl⟩
  have lob1 : w.heap.size ≤ b1 := by have := hB.size; omega
  obtain ⟨b0, hb0⟩ : ∃ b, w.heap.size = b := ⟨_, rfl⟩
  have lob0 : w.heap.size ≤ b0 := by have := hB.size; omega
  rw [hb1] at v1
  try rw [hb1]
  rw [hb0] at v0
  try rw [hb0]
  have hB := hB.trans (hs.mono hB.size)
  clear hb0 hb1 hs hk
  refine dagV (fun _ => trivial) 21 ?hn (fun X => ⟨#[.agg #[.int .i64 a, .int .i64 b, .int .i64 c], .agg #[.int .i64 x, .int .i64 y, .int .i64 z], .pointer (some ⟨b0, 0, none⟩), .pointer (some ⟨b1, 0, none⟩), X 20, X 0, X 1, X 2, X 3, X 4, X 5, X 6, X 7, X 8, X 9, X 10, X 11, X 12, X 13, X 14, X 15, X 16, X 17, X 18, X 19], []⟩) [(0, 0, 0), (0, 0, 0), (0, 0, 0), (0, 0, 0), (0, 0, 0), (0, 0, 0), (0, 0, 0), (0, 0, 0), (0, 0, 0), (0, 0, 0), (0, 0, 0), (0, 0, 0), (0, 0, 0), (0, 0, 0), (0, 0, 0), (0, 0, 0), (0, 0, 0), (0, 0, 0), (0, 0, 0), (0, 0, 0), (0, 0, 0)] (fun _ => []) [.val (.pointer (some ⟨b0, 0, none⟩)), .val (.int .i64 a), .val (.int .i64 (absW a)), .val (.pointer (some ⟨b1, 0, none⟩)), .val (.int .i64 x), .val (.int .i64 (wrap64 ((absW a) * x))), .val (.pointer (some ⟨b0, 1, none⟩)), .val (.int .i64 b), .val (.int .i64 (absW b)), .val (.pointer (some ⟨b1, 1, none⟩)), .val (.int .i64 y), .val (.int .i64 (wrap64 ((absW b) * y))), .val (.int .i64 (wrap64 ((wrap64 ((absW a) * x)) + (wrap64 ((absW b) * y))))), .val (.pointer (some ⟨b0, 2, none⟩)), .val (.int .i64 c), .val (.int .i64 (absW c)), .val (.pointer (some ⟨b1, 2, none⟩)), .val (.int .i64 z), .val (.int .i64 (wrap64 ((absW c) * z))), .val (.int .i64 (wrap64 ((wrap64 ((wrap64 ((absW a) * x)) + (wrap64 ((absW b) * y)))) + (wrap64 ((absW c) * z))))), .val (.int .i64 (wrap64 ((wrap64 ((wrap64 ((absW a) * x)) + (wrap64 ((absW b) * y)))) + (wrap64 ((absW c) * z)))))] [[], [0], [1], [], [3], [2, 4], [], [6], [7], [], [9], [8, 10], [5, 11], [], [13], [14], [], [16], [15, 17], [12, 18], [19]] [0, 1, 2, 3, 4, 5, 6, 7, 8, 9, 10, 11, 12, 13, 14, 15, 16, 17, 18, 19, 20] [] [] [] (fun _ => 0) W1 (by kernel_rfl) (by kernel_rfl) (by kernel_rfl) (by kernel_rfl) (by kernel_rfl) ?dist ?olds ?op ?al ?st ?into ?fin (upd (fun _ => undef) 20 (.int .i64 0)) _ _ (by kernel_rfl) (of_decide_eq_true (by kernel_rfl)) (of_decide_eq_true (by kernel_rfl))
  case hn => rfl
  case dist => intro i hi j hj; simp at hi hj; try omega
  case olds => exact nofun
  case op =>
    repeat' first | exact Each.nil | refine Each.cons ?_ ?_
    all_goals intro X w7 H hb hD h
    · refine tv rfl (by rfl) ?_ (by exact h _ w7 rfl (Below.refl _ _))
      go_simp <;> first | rfl | (simp only [IntWalk.i64_left]; rfl)
    · have e0_ : X 0 = _ := hD 0 (by decide) rfl
      have hv := v0.below (show Keep [] _ _ from hb).nil
      have c0_ := hv.at 0 rfl
      refine tv rfl (by simp only [e0_]; rfl) ?_ (by exact h _ w7 rfl (Below.refl _ _))
      simp only [e0_]; go_simp <;> first | rfl | (simp only [IntWalk.i64_left]; rfl)
    · have e1_ : X 1 = _ := hD 1 (by decide) rfl
      refine wpOp_call (i := 2) (f := 47) (args := #[.int .i64 a]) 7 rfl rfl (by simp only [e1_]; rfl) (by simp only [e1_]; go_simp) ?_
      refine (abs_p a _).mono ?_
      rintro e w8 ⟨rfl, rfl⟩
      exact ⟨_, rfl, h _ _ rfl (Below.refl _ _)⟩
    · refine tv rfl (by rfl) ?_ (by exact h _ w7 rfl (Below.refl _ _))
      go_simp <;> first | rfl | (simp only [IntWalk.i64_left]; rfl)
    · have e3_ : X 3 = _ := hD 3 (by decide) rfl
      have hv := v1.below (show Keep [] _ _ from hb).nil
      have c0_ := hv.at 0 rfl
      refine tv rfl (by simp only [e3_]; rfl) ?_ (by exact h _ w7 rfl (Below.refl _ _))
      simp only [e3_]; go_simp <;> first | rfl | (simp only [IntWalk.i64_left]; rfl)
    · have e2_ : X 2 = _ := hD 2 (by decide) rfl
      have e4_ : X 4 = _ := hD 4 (by decide) rfl
      refine tv rfl (by simp only [e2_, e4_]; rfl) ?_ (by exact h _ w7 rfl (Below.refl _ _))
      simp only [e2_, e4_]; go_simp <;> first | rfl | (simp only [IntWalk.i64_left]; rfl)
    · refine tv rfl (by rfl) ?_ (by exact h _ w7 rfl (Below.refl _ _))
      go_simp <;> first | rfl | (simp only [IntWalk.i64_left]; rfl)
    · have e6_ : X 6 = _ := hD 6 (by decide) rfl
      have hv := v0.below (show Keep [] _ _ from hb).nil
      have c0_ := hv.at 1 rfl
      refine tv rfl (by simp only [e6_]; rfl) ?_ (by exact h _ w7 rfl (Below.refl _ _))
      simp only [e6_]; go_simp <;> first | rfl | (simp only [IntWalk.i64_left]; rfl)
    · have e7_ : X 7 = _ := hD 7 (by decide) rfl
      refine wpOp_call (i := 8) (f := 47) (args := #[.int .i64 b]) 13 rfl rfl (by simp only [e7_]; rfl) (by simp only [e7_]; go_simp) ?_
      refine (abs_p b _).mono ?_
      rintro e w8 ⟨rfl, rfl⟩
      exact ⟨_, rfl, h _ _ rfl (Below.refl _ _)⟩
    · refine tv rfl (by rfl) ?_ (by exact h _ w7 rfl (Below.refl _ _))
      go_simp <;> first | rfl | (simp only [IntWalk.i64_left]; rfl)
    · have e9_ : X 9 = _ := hD 9 (by decide) rfl
      have hv := v1.below (show Keep [] _ _ from hb).nil
      have c0_ := hv.at 1 rfl
      refine tv rfl (by simp only [e9_]; rfl) ?_ (by exact h _ w7 rfl (Below.refl _ _))
      simp only [e9_]; go_simp <;> first | rfl | (simp only [IntWalk.i64_left]; rfl)
    · have e8_ : X 8 = _ := hD 8 (by decide) rfl
      have e10_ : X 10 = _ := hD 10 (by decide) rfl
      refine tv rfl (by simp only [e8_, e10_]; rfl) ?_ (by exact h _ w7 rfl (Below.refl _ _))
      simp only [e8_, e10_]; go_simp <;> first | rfl | (simp only [IntWalk.i64_left]; rfl)
    · have e5_ : X 5 = _ := hD 5 (by decide) rfl
      have e11_ : X 11 = _ := hD 11 (by decide) rfl
      refine tv rfl (by simp only [e5_, e11_]; rfl) ?_ (by exact h _ w7 rfl (Below.refl _ _))
      simp only [e5_, e11_]; go_simp <;> first | rfl | (simp only [IntWalk.i64_left]; rfl)
    · refine tv rfl (by rfl) ?_ (by exact h _ w7 rfl (Below.refl _ _))
      go_simp <;> first | rfl | (simp only [IntWalk.i64_left]; rfl)
    · have e13_ : X 13 = _ := hD 13 (by decide) rfl
      have hv := v0.below (show Keep [] _ _ from hb).nil
      have c0_ := hv.at 2 rfl
      refine tv rfl (by simp only [e13_]; rfl) ?_ (by exact h _ w7 rfl (Below.refl _ _))
      simp only [e13_]; go_simp <;> first | rfl | (simp only [IntWalk.i64_left]; rfl)
    · have e14_ : X 14 = _ := hD 14 (by decide) rfl
      refine wpOp_call (i := 15) (f := 47) (args := #[.int .i64 c]) 20 rfl rfl (by simp only [e14_]; rfl) (by simp only [e14_]; go_simp) ?_
      refine (abs_p c _).mono ?_
      rintro e w8 ⟨rfl, rfl⟩
      exact ⟨_, rfl, h _ _ rfl (Below.refl _ _)⟩
    · refine tv rfl (by rfl) ?_ (by exact h _ w7 rfl (Below.refl _ _))
      go_simp <;> first | rfl | (simp only [IntWalk.i64_left]; rfl)
    · have e16_ : X 16 = _ := hD 16 (by decide) rfl
      have hv := v1.below (show Keep [] _ _ from hb).nil
      have c0_ := hv.at 2 rfl
      refine tv rfl (by simp only [e16_]; rfl) ?_ (by exact h _ w7 rfl (Below.refl _ _))
      simp only [e16_]; go_simp <;> first | rfl | (simp only [IntWalk.i64_left]; rfl)
    · have e15_ : X 15 = _ := hD 15 (by decide) rfl
      have e17_ : X 17 = _ := hD 17 (by decide) rfl
      refine tv rfl (by simp only [e15_, e17_]; rfl) ?_ (by exact h _ w7 rfl (Below.refl _ _))
      simp only [e15_, e17_]; go_simp <;> first | rfl | (simp only [IntWalk.i64_left]; rfl)
    · have e12_ : X 12 = _ := hD 12 (by decide) rfl
      have e18_ : X 18 = _ := hD 18 (by decide) rfl
      refine tv rfl (by simp only [e12_, e18_]; rfl) ?_ (by exact h _ w7 rfl (Below.refl _ _))
      simp only [e12_, e18_]; go_simp <;> first | rfl | (simp only [IntWalk.i64_left]; rfl)
    · have e19_ : X 19 = _ := hD 19 (by decide) rfl
      refine tv rfl (by simp only [e19_]; rfl) ?_ (by exact h _ w7 rfl (Below.refl _ _))
      simp only [e19_]; go_simp <;> first | rfl | (simp only [IntWalk.i64_left]; rfl)
  case al => exact Each.nil
  case st => exact Each.nil
  case into => exact Each.nil
  case fin =>
    intro X1_ W2 hI
    have hE : Keep [] W1 W2 := hI.keep
    have e20_ : X1_ 20 = _ := hI.fact 20 (by decide) rfl rfl
    have v0 := v0.below hE.nil
    have v1 := v1.below hE.nil
    have hB := hB.trans (hE.nil.mono hB.size)
    simp only [e20_]
    clear e20_ hI hE
    go_wp2_with fail
    go_ret
    exact ⟨rfl, by repeat (first | exact hB | refine Below.alloc ?_ (by simp; try omega) _ | refine Below.setCell ?_ (by simp; try omega) _)⟩


set_option maxRecDepth 100000 in
set_option maxHeartbeats 2000000 in
theorem reach_r (a b c x y z : Int) (w : World) : Calls Try.prog 24 #[V a b c, V x y z] w (Gives w (.int .i64 (rch a b c x y z))) := by
  unfold V
  go_enter Try.func24, Try.ntmps24
  have hB := Below.refl w.heap.size w
  go_wp2_with fail
  refine wp_region_dag (by kernel_rfl) ?_
  intro W1 hk
  have hs : Below w.heap.size w W1 := Below.trans (by repeat (first | exact Below.refl _ _ | refine Below.alloc ?_ (by simp; try omega) _ | refine Below.setCell ?_ (by simp; try omega) _)) (hk.mono (by simp; try omega))
  have v0 : Var W1 (w.heap.size) [.int .i64 a, .int .i64 b, .int .i64 c] := Var.low ⟨by simp; try omega, by simp [Cel, go_sem]⟩ hk (by simp; try omega)
  have v1 : Var W1 (w.heap.size + 1) [.int .i64 x, .int .i64 y, .int .i64 z] := Var.low ⟨by simp; try omega, by simp [Cel, go_sem]⟩ hk (by simp; try omega)
  obtain ⟨b1, hb1⟩ : ∃ b, w.heap.size + 1 = b := ⟨_, rfl⟩
  have lob1 : w.heap.size ≤ b1 := by have := hB.size; omega
  obtain ⟨b0, hb0⟩ : ∃ b, w.heap.size = b := ⟨_, rfl⟩
  have lob0 : w.heap.size ≤ b0 := by have := hB.size; omega
  rw [hb1] at v1
  try rw [hb1]
  rw [hb0] at v0
  try rw [hb0]
  have hB := hB.trans (hs.mono hB.size)
  clear hb0 hb1 hs hk
  refine dagV (fun _ => trivial) 21 ?hn (fun X => ⟨#[.agg #[.int .i64 a, .int .i64 b, .int .i64 c], .agg #[.int .i64 x, .int .i64 y, .int .i64 z], .pointer (some ⟨b0, 0, none⟩), .pointer (some ⟨b1, 0, none⟩), X 20, X 0, X 1, X 2, X 3, X 4, X 5, X 6, X 7, X 8, X 9, X 10, X 11, X 12, X 13, X 14, X 15, X 16, X 17, X 18, X 19], []⟩) [(0, 0, 0), (0, 0, 0), (0, 0, 0), (0, 0, 0), (0, 0, 0), (0, 0, 0), (0, 0, 0), (0, 0, 0), (0, 0, 0), (0, 0, 0), (0, 0, 0), (0, 0, 0), (0, 0, 0), (0, 0, 0), (0, 0, 0), (0, 0, 0), (0, 0, 0), (0, 0, 0), (0, 0, 0), (0, 0, 0), (0, 0, 0)] (fun _ => []) [.val (.pointer (some ⟨b0, 0, none⟩)), .val (.int .i64 a), .val (.int .i64 (absW a)), .val (.pointer (some ⟨b1, 0, none⟩)), .val (.int .i64 x), .val (.int .i64 (wrap64 ((absW a) * x))), .val (.pointer (some ⟨b0, 1, none⟩)), .val (.int .i64 b), .val (.int .i64 (absW b)), .val (.pointer (some ⟨b1, 1, none⟩)), .val (.int .i64 y), .val (.int .i64 (wrap64 ((absW b) * y))), .val (.int .i64 (wrap64 ((wrap64 ((absW a) * x)) + (wrap64 ((absW b) * y))))), .val (.pointer (some ⟨b0, 2, none⟩)), .val (.int .i64 c), .val (.int .i64 (absW c)), .val (.pointer (some ⟨b1, 2, none⟩)), .val (.int .i64 z), .val (.int .i64 (wrap64 ((absW c) * z))), .val (.int .i64 (wrap64 ((wrap64 ((wrap64 ((absW a) * x)) + (wrap64 ((absW b) * y)))) + (wrap64 ((absW c) * z))))), .val (.int .i64 (wrap64 ((wrap64 ((wrap64 ((absW a) * x)) + (wrap64 ((absW b) * y)))) + (wrap64 ((absW c) * z)))))] [[], [0], [1], [], [3], [2, 4], [], [6], [7], [], [9], [8, 10], [5, 11], [], [13], [14], [], [16], [15, 17], [12, 18], [19]] [0, 1, 2, 3, 4, 5, 6, 7, 8, 9, 10, 11, 12, 13, 14, 15, 16, 17, 18, 19, 20] [] [] [] (fun _ => 0) W1 (by kernel_rfl) (by kernel_rfl) (by kernel_rfl) (by kernel_rfl) (by kernel_rfl) ?dist ?olds ?op ?al ?st ?into ?fin (upd (fun _ => undef) 20 (.int .i64 0)) _ _ (by kernel_rfl) (of_decide_eq_true (by kernel_rfl)) (of_decide_eq_true (by kernel_rfl))
  case hn => rfl
  case dist => intro i hi j hj; simp at hi hj; try omega
  case olds => exact nofun
  case op =>
    repeat' first | exact Each.nil | refine Each.cons ?_ ?_
    all_goals intro X w7 H hb hD h
    · refine tv rfl (by rfl) ?_ (by exact h _ w7 rfl (Below.refl _ _))
      go_simp <;> first | rfl | (simp only [IntWalk.i64_left]; rfl)
    · have e0_ : X 0 = _ := hD 0 (by decide) rfl
      have hv := v0.below (show Keep [] _ _ from hb).nil
      have c0_ := hv.at 0 rfl
      refine tv rfl (by simp only [e0_]; rfl) ?_ (by exact h _ w7 rfl (Below.refl _ _))
      simp only [e0_]; go_simp <;> first | rfl | (simp only [IntWalk.i64_left]; rfl)
    · have e1_ : X 1 = _ := hD 1 (by decide) rfl
      refine wpOp_call (i := 2) (f := 48) (args := #[.int .i64 a]) 7 rfl rfl (by simp only [e1_]; rfl) (by simp only [e1_]; go_simp) ?_
      refine (abs_r a _).mono ?_
      rintro e w8 ⟨rfl, rfl⟩
      exact ⟨_, rfl, h _ _ rfl (Below.refl _ _)⟩
    · refine tv rfl (by rfl) ?_ (by exact h _ w7 rfl (Below.refl _ _))
      go_simp <;> first | rfl | (simp only [IntWalk.i64_left]; rfl)
    · have e3_ : X 3 = _ := hD 3 (by decide) rfl
      have hv := v1.below (show Keep [] _ _ from hb).nil
      have c0_ := hv.at 0 rfl
      refine tv rfl (by simp only [e3_]; rfl) ?_ (by exact h _ w7 rfl (Below.refl _ _))
      simp only [e3_]; go_simp <;> first | rfl | (simp only [IntWalk.i64_left]; rfl)
    · have e2_ : X 2 = _ := hD 2 (by decide) rfl
      have e4_ : X 4 = _ := hD 4 (by decide) rfl
      refine tv rfl (by simp only [e2_, e4_]; rfl) ?_ (by exact h _ w7 rfl (Below.refl _ _))
      simp only [e2_, e4_]; go_simp <;> first | rfl | (simp only [IntWalk.i64_left]; rfl)
    · refine tv rfl (by rfl) ?_ (by exact h _ w7 rfl (Below.refl _ _))
      go_simp <;> first | rfl | (simp only [IntWalk.i64_left]; rfl)
    · have e6_ : X 6 = _ := hD 6 (by decide) rfl
      have hv := v0.below (show Keep [] _ _ from hb).nil
      have c0_ := hv.at 1 rfl
      refine tv rfl (by simp only [e6_]; rfl) ?_ (by exact h _ w7 rfl (Below.refl _ _))
      simp only [e6_]; go_simp <;> first | rfl | (simp only [IntWalk.i64_left]; rfl)
    · have e7_ : X 7 = _ := hD 7 (by decide) rfl
      refine wpOp_call (i := 8) (f := 48) (args := #[.int .i64 b]) 13 rfl rfl (by simp only [e7_]; rfl) (by simp only [e7_]; go_simp) ?_
      refine (abs_r b _).mono ?_
      rintro e w8 ⟨rfl, rfl⟩
      exact ⟨_, rfl, h _ _ rfl (Below.refl _ _)⟩
    · refine tv rfl (by rfl) ?_ (by exact h _ w7 rfl (Below.refl _ _))
      go_simp <;> first | rfl | (simp only [IntWalk.i64_left]; rfl)
    · have e9_ : X 9 = _ := hD 9 (by decide) rfl
      have hv := v1.below (show Keep [] _ _ from hb).nil
      have c0_ := hv.at 1 rfl
      refine tv rfl (by simp only [e9_]; rfl) ?_ (by exact h _ w7 rfl (Below.refl _ _))
      simp only [e9_]; go_simp <;> first | rfl | (simp only [IntWalk.i64_left]; rfl)
    · have e8_ : X 8 = _ := hD 8 (by decide) rfl
      have e10_ : X 10 = _ := hD 10 (by decide) rfl
      refine tv rfl (by simp only [e8_, e10_]; rfl) ?_ (by exact h _ w7 rfl (Below.refl _ _))
      simp only [e8_, e10_]; go_simp <;> first | rfl | (simp only [IntWalk.i64_left]; rfl)
    · have e5_ : X 5 = _ := hD 5 (by decide) rfl
      have e11_ : X 11 = _ := hD 11 (by decide) rfl
      refine tv rfl (by simp only [e5_, e11_]; rfl) ?_ (by exact h _ w7 rfl (Below.refl _ _))
      simp only [e5_, e11_]; go_simp <;> first | rfl | (simp only [IntWalk.i64_left]; rfl)
    · refine tv rfl (by rfl) ?_ (by exact h _ w7 rfl (Below.refl _ _))
      go_simp <;> first | rfl | (simp only [IntWalk.i64_left]; rfl)
    · have e13_ : X 13 = _ := hD 13 (by decide) rfl
      have hv := v0.below (show Keep [] _ _ from hb).nil
      have c0_ := hv.at 2 rfl
      refine tv rfl (by simp only [e13_]; rfl) ?_ (by exact h _ w7 rfl (Below.refl _ _))
      simp only [e13_]; go_simp <;> first | rfl | (simp only [IntWalk.i64_left]; rfl)
    · have e14_ : X 14 = _ := hD 14 (by decide) rfl
      refine wpOp_call (i := 15) (f := 48) (args := #[.int .i64 c]) 20 rfl rfl (by simp only [e14_]; rfl) (by simp only [e14_]; go_simp) ?_
      refine (abs_r c _).mono ?_
      rintro e w8 ⟨rfl, rfl⟩
      exact ⟨_, rfl, h _ _ rfl (Below.refl _ _)⟩
    · refine tv rfl (by rfl) ?_ (by exact h _ w7 rfl (Below.refl _ _))
      go_simp <;> first | rfl | (simp only [IntWalk.i64_left]; rfl)
    · have e16_ : X 16 = _ := hD 16 (by decide) rfl
      have hv := v1.below (show Keep [] _ _ from hb).nil
      have c0_ := hv.at 2 rfl
      refine tv rfl (by simp only [e16_]; rfl) ?_ (by exact h _ w7 rfl (Below.refl _ _))
      simp only [e16_]; go_simp <;> first | rfl | (simp only [IntWalk.i64_left]; rfl)
    · have e15_ : X 15 = _ := hD 15 (by decide) rfl
      have e17_ : X 17 = _ := hD 17 (by decide) rfl
      refine tv rfl (by simp only [e15_, e17_]; rfl) ?_ (by exact h _ w7 rfl (Below.refl _ _))
      simp only [e15_, e17_]; go_simp <;> first | rfl | (simp only [IntWalk.i64_left]; rfl)
    · have e12_ : X 12 = _ := hD 12 (by decide) rfl
      have e18_ : X 18 = _ := hD 18 (by decide) rfl
      refine tv rfl (by simp only [e12_, e18_]; rfl) ?_ (by exact h _ w7 rfl (Below.refl _ _))
      simp only [e12_, e18_]; go_simp <;> first | rfl | (simp only [IntWalk.i64_left]; rfl)
    · have e19_ : X 19 = _ := hD 19 (by decide) rfl
      refine tv rfl (by simp only [e19_]; rfl) ?_ (by exact h _ w7 rfl (Below.refl _ _))
      simp only [e19_]; go_simp <;> first | rfl | (simp only [IntWalk.i64_left]; rfl)
  case al => exact Each.nil
  case st => exact Each.nil
  case into => exact Each.nil
  case fin =>
    intro X1_ W2 hI
    have hE : Keep [] W1 W2 := hI.keep
    have e20_ : X1_ 20 = _ := hI.fact 20 (by decide) rfl rfl
    have v0 := v0.below hE.nil
    have v1 := v1.below hE.nil
    have hB := hB.trans (hE.nil.mono hB.size)
    simp only [e20_]
    clear e20_ hI hE
    go_wp2_with fail
    go_ret
    exact ⟨rfl, by repeat (first | exact hB | refine Below.alloc ?_ (by simp; try omega) _ | refine Below.setCell ?_ (by simp; try omega) _)⟩


set_option maxRecDepth 100000 in
set_option maxHeartbeats 2000000 in
theorem push_no1 (x y z b n : Int) (hx : I64 x) (hy : I64 y) (hz : I64 z) (h1 : Hid (valid x y z b = false)) (w : World) : Calls Try.prog 35 #[Pl x y z b, .int .i64 n] w (Gives w (.tuple #[Pl 0 0 0 0, .bool false])) := by
  unfold Pl
  go_enter Try.func35, Try.ntmps35
  have hB := Below.refl w.heap.size w
  go_wp2_with fail
  refine (valid_p x y z b hx hy hz _).mono ?_
  rintro e W1 ⟨rfl, hk⟩
  rw [h1.out]
  have hs : Below w.heap.size w W1 := Below.trans (by repeat (first | exact Below.refl _ _ | refine Below.alloc ?_ (by simp; try omega) _ | refine Below.setCell ?_ (by simp; try omega) _)) (hk.mono (by simp; try omega))
  have v0 : Var W1 (w.heap.size) [.int .i64 x, .int .i64 y, .int .i64 z, .int .i64 b] := Var.low ⟨by simp; try omega, by simp [Cel, go_sem]⟩ hk (by simp; try omega)
  have v1 : Var W1 (w.heap.size + 1) [.int .i64 0, .int .i64 0, .int .i64 0, .int .i64 0] := Var.low ⟨by simp; try omega, by simp [Cel, go_sem]⟩ hk (by simp; try omega)
  have v2 : Var W1 (w.heap.size + 1 + 1) [.int .i64 x, .int .i64 y, .int .i64 z, .int .i64 (wrap64 (b + n))] := Var.low ⟨by simp; try omega, by simp [Cel, go_sem]⟩ hk (by simp; try omega)
  obtain ⟨b2, hb2⟩ : ∃ b, w.heap.size + 1 + 1 = b := ⟨_, rfl⟩
  have lob2 : w.heap.size ≤ b2 := by have := hB.size; omega
  obtain ⟨b1, hb1⟩ : ∃ b, w.heap.size + 1 = b := ⟨_, rfl⟩
  have lob1 : w.heap.size ≤ b1 := by have := hB.size; omega
  obtain ⟨b0, hb0⟩ : ∃ b, w.heap.size = b := ⟨_, rfl⟩
  have lob0 : w.heap.size ≤ b0 := by have := hB.size; omega
  rw [hb2] at v2
  try rw [hb2]
  rw [hb1] at v1
  try rw [hb1]
  rw [hb0] at v0
  try rw [hb0]
  have hB := hB.trans (hs.mono hB.size)
  clear hb0 hb1 hb2 hs hk
  have cb1_0 := v1.at 0 rfl
  have zb1_0 := v1.fr 0 (by simp)
  have cb1_1 := v1.at 1 rfl
  have zb1_1 := v1.fr 1 (by simp)
  have cb1_2 := v1.at 2 rfl
  have zb1_2 := v1.fr 2 (by simp)
  have cb1_3 := v1.at 3 rfl
  have zb1_3 := v1.fr 3 (by simp)
  go_wp2_with fail
  exact bodyPost_ret (v := .tuple #[.agg #[.int .i64 0, .int .i64 0, .int .i64 0, .int .i64 0], .bool false]) (by simp [results, Try.results35, go_sem, cb1_0, cb1_1, cb1_2, cb1_3]) rfl ⟨rfl, by repeat (first | exact hB | refine Below.alloc ?_ (by simp; try omega) _ | refine Below.setCell ?_ (by simp; try omega) _)⟩


set_option maxRecDepth 100000 in
set_option maxHeartbeats 2000000 in
theorem push_no2 (x y z b n : Int) (hx : I64 x) (hy : I64 y) (hz : I64 z) (h1 : Hid (valid x y z b = true)) (h2 : Hid (valid x y z (wrap64 (b + n)) = false)) (w : World) : Calls Try.prog 35 #[Pl x y z b, .int .i64 n] w (Gives w (.tuple #[Pl 0 0 0 0, .bool false])) := by
  unfold Pl
  go_enter Try.func35, Try.ntmps35
  have hB := Below.refl w.heap.size w
  go_wp2_with fail
  refine (valid_p x y z b hx hy hz _).mono ?_
  rintro e W1 ⟨rfl, hk⟩
  rw [h1.out]
  have hs : Below w.heap.size w W1 := Below.trans (by repeat (first | exact Below.refl _ _ | refine Below.alloc ?_ (by simp; try omega) _ | refine Below.setCell ?_ (by simp; try omega) _)) (hk.mono (by simp; try omega))
  have v0 : Var W1 (w.heap.size) [.int .i64 x, .int .i64 y, .int .i64 z, .int .i64 b] := Var.low ⟨by simp; try omega, by simp [Cel, go_sem]⟩ hk (by simp; try omega)
  have v1 : Var W1 (w.heap.size + 1) [.int .i64 0, .int .i64 0, .int .i64 0, .int .i64 0] := Var.low ⟨by simp; try omega, by simp [Cel, go_sem]⟩ hk (by simp; try omega)
  have v2 : Var W1 (w.heap.size + 1 + 1) [.int .i64 x, .int .i64 y, .int .i64 z, .int .i64 (wrap64 (b + n))] := Var.low ⟨by simp; try omega, by simp [Cel, go_sem]⟩ hk (by simp; try omega)
  obtain ⟨b2, hb2⟩ : ∃ b, w.heap.size + 1 + 1 = b := ⟨_, rfl⟩
  have lob2 : w.heap.size ≤ b2 := by have := hB.size; omega
  obtain ⟨b1, hb1⟩ : ∃ b, w.heap.size + 1 = b := ⟨_, rfl⟩
  have lob1 : w.heap.size ≤ b1 := by have := hB.size; omega
  obtain ⟨b0, hb0⟩ : ∃ b, w.heap.size = b := ⟨_, rfl⟩
  have lob0 : w.heap.size ≤ b0 := by have := hB.size; omega
  rw [hb2] at v2
  try rw [hb2]
  rw [hb1] at v1
  try rw [hb1]
  rw [hb0] at v0
  try rw [hb0]
  have hB := hB.trans (hs.mono hB.size)
  clear hb0 hb1 hb2 hs hk
  have cb2_0 := v2.at 0 rfl
  have cb2_1 := v2.at 1 rfl
  have cb2_2 := v2.at 2 rfl
  have cb2_3 := v2.at 3 rfl
  go_wp2_with fail
  refine (valid_p x y z (wrap64 (b + n)) hx hy hz _).mono ?_
  rintro e W2 ⟨rfl, hk⟩
  rw [h2.out]
  have hs := hk
  have v0 := v0.below hs
  have v1 := v1.below hs
  have v2 := v2.below hs
  have hB := hB.trans (hs.mono hB.size)
  clear cb2_0 cb2_1 cb2_2 cb2_3 hs hk
  have cb1_0 := v1.at 0 rfl
  have zb1_0 := v1.fr 0 (by simp)
  have cb1_1 := v1.at 1 rfl
  have zb1_1 := v1.fr 1 (by simp)
  have cb1_2 := v1.at 2 rfl
  have zb1_2 := v1.fr 2 (by simp)
  have cb1_3 := v1.at 3 rfl
  have zb1_3 := v1.fr 3 (by simp)
  go_wp2_with fail
  exact bodyPost_ret (v := .tuple #[.agg #[.int .i64 0, .int .i64 0, .int .i64 0, .int .i64 0], .bool false]) (by simp [results, Try.results35, go_sem, cb1_0, cb1_1, cb1_2, cb1_3]) rfl ⟨rfl, by repeat (first | exact hB | refine Below.alloc ?_ (by simp; try omega) _ | refine Below.setCell ?_ (by simp; try omega) _)⟩


set_option maxRecDepth 100000 in
set_option maxHeartbeats 2000000 in
theorem push_yes (x y z b n : Int) (hx : I64 x) (hy : I64 y) (hz : I64 z) (h1 : Hid (valid x y z b = true)) (h2 : Hid (valid x y z (wrap64 (b + n)) = true)) (w : World) : Calls Try.prog 35 #[Pl x y z b, .int .i64 n] w (Gives w (.tuple #[Pl x y z (wrap64 (b + n)), .bool true])) := by
  unfold Pl
  go_enter Try.func35, Try.ntmps35
  have hB := Below.refl w.heap.size w
  go_wp2_with fail
  refine (valid_p x y z b hx hy hz _).mono ?_
  rintro e W1 ⟨rfl, hk⟩
  rw [h1.out]
  have hs : Below w.heap.size w W1 := Below.trans (by repeat (first | exact Below.refl _ _ | refine Below.alloc ?_ (by simp; try omega) _ | refine Below.setCell ?_ (by simp; try omega) _)) (hk.mono (by simp; try omega))
  have v0 : Var W1 (w.heap.size) [.int .i64 x, .int .i64 y, .int .i64 z, .int .i64 b] := Var.low ⟨by simp; try omega, by simp [Cel, go_sem]⟩ hk (by simp; try omega)
  have v1 : Var W1 (w.heap.size + 1) [.int .i64 0, .int .i64 0, .int .i64 0, .int .i64 0] := Var.low ⟨by simp; try omega, by simp [Cel, go_sem]⟩ hk (by simp; try omega)
  have v2 : Var W1 (w.heap.size + 1 + 1) [.int .i64 x, .int .i64 y, .int .i64 z, .int .i64 (wrap64 (b + n))] := Var.low ⟨by simp; try omega, by simp [Cel, go_sem]⟩ hk (by simp; try omega)
  obtain ⟨b2, hb2⟩ : ∃ b, w.heap.size + 1 + 1 = b := ⟨_, rfl⟩
  have lob2 : w.heap.size ≤ b2 := by have := hB.size; omega
  obtain ⟨b1, hb1⟩ : ∃ b, w.heap.size + 1 = b := ⟨_, rfl⟩
  have lob1 : w.heap.size ≤ b1 := by have := hB.size; omega
  obtain ⟨b0, hb0⟩ : ∃ b, w.heap.size = b := ⟨_, rfl⟩
  have lob0 : w.heap.size ≤ b0 := by have := hB.size; omega
  rw [hb2] at v2
  try rw [hb2]
  rw [hb1] at v1
  try rw [hb1]
  rw [hb0] at v0
  try rw [hb0]
  have hB := hB.trans (hs.mono hB.size)
  clear hb0 hb1 hb2 hs hk
  have cb2_0 := v2.at 0 rfl
  have cb2_1 := v2.at 1 rfl
  have cb2_2 := v2.at 2 rfl
  have cb2_3 := v2.at 3 rfl
  go_wp2_with fail
  refine (valid_p x y z (wrap64 (b + n)) hx hy hz _).mono ?_
  rintro e W2 ⟨rfl, hk⟩
  rw [h2.out]
  have hs := hk
  have v0 := v0.below hs
  have v1 := v1.below hs
  have v2 := v2.below hs
  have hB := hB.trans (hs.mono hB.size)
  clear cb2_0 cb2_1 cb2_2 cb2_3 hs hk
  have cb2_0 := v2.at 0 rfl
  have cb2_1 := v2.at 1 rfl
  have cb2_2 := v2.at 2 rfl
  have cb2_3 := v2.at 3 rfl
  have cb1_0 := v1.at 0 rfl
  have zb1_0 := v1.fr 0 (by simp)
  have cb1_1 := v1.at 1 rfl
  have zb1_1 := v1.fr 1 (by simp)
  have cb1_2 := v1.at 2 rfl
  have zb1_2 := v1.fr 2 (by simp)
  have cb1_3 := v1.at 3 rfl
  have zb1_3 := v1.fr 3 (by simp)
  go_wp2_with fail
  exact bodyPost_ret (v := .tuple #[.agg #[.int .i64 x, .int .i64 y, .int .i64 z, .int .i64 (wrap64 (b + n))], .bool true]) (by simp [results, Try.results35, go_sem, cb1_0, cb1_1, cb1_2, cb1_3]) rfl ⟨rfl, by repeat (first | exact hB | refine Below.alloc ?_ (by simp; try omega) _ | refine Below.setCell ?_ (by simp; try omega) _)⟩


set_option maxRecDepth 100000 in
set_option maxHeartbeats 2000000 in
theorem prim_0 (x y z : Int) (hx : I64 x) (hy : I64 y) (hz : I64 z) (hd : Hid (dv3 x y z = 0)) (w : World) : Calls Try.prog 41 #[V x y z] w (Gives w (.tuple #[V 0 0 0, .int .i64 0])) := by
  unfold V
  go_enter Try.func41, Try.ntmps41
  have hB := Below.refl w.heap.size w
  go_wp2_with fail
  refine (divisor3 x y z hx hy hz _ _ (by simp) _).mono ?_
  rintro e W1 ⟨rfl, hk⟩
  rw [hd.out]
  rw [show ((0 : Nat) : Int) = 0 from rfl]
  have hs : Below w.heap.size w W1 := Below.trans (by repeat (first | exact Below.refl _ _ | refine Below.alloc ?_ (by simp; try omega) _ | refine Below.setCell ?_ (by simp; try omega) _)) (hk.mono (by simp; try omega))
  have v0 : Var W1 (w.heap.size) [.int .i64 x, .int .i64 y, .int .i64 z] := Var.low ⟨by simp; try omega, by simp [Cel, go_sem]⟩ hk (by simp; try omega)
  have v1 : Var W1 (w.heap.size + 1) [.int .i64 0, .int .i64 0, .int .i64 0] := Var.low ⟨by simp; try omega, by simp [Cel, go_sem]⟩ hk (by simp; try omega)
  have v2 : Var W1 (w.heap.size + 1 + 1) [.int .i64 x, .int .i64 y, .int .i64 z] := Var.low ⟨by simp; try omega, by simp [Cel, go_sem]⟩ hk (by simp; try omega)
  obtain ⟨b2, hb2⟩ : ∃ b, w.heap.size + 1 + 1 = b := ⟨_, rfl⟩
  have lob2 : w.heap.size ≤ b2 := by have := hB.size; omega
  obtain ⟨b1, hb1⟩ : ∃ b, w.heap.size + 1 = b := ⟨_, rfl⟩
  have lob1 : w.heap.size ≤ b1 := by have := hB.size; omega
  obtain ⟨b0, hb0⟩ : ∃ b, w.heap.size = b := ⟨_, rfl⟩
  have lob0 : w.heap.size ≤ b0 := by have := hB.size; omega
  rw [hb2] at v2
  try rw [hb2]
  rw [hb1] at v1
  try rw [hb1]
  rw [hb0] at v0
  try rw [hb0]
  have hB := hB.trans (hs.mono hB.size)
  clear hb0 hb1 hb2 hs hk
  have cb1_0 := v1.at 0 rfl
  have zb1_0 := v1.fr 0 (by simp)
  have cb1_1 := v1.at 1 rfl
  have zb1_1 := v1.fr 1 (by simp)
  have cb1_2 := v1.at 2 rfl
  have zb1_2 := v1.fr 2 (by simp)
  go_wp2_with fail
  exact bodyPost_ret (v := .tuple #[.agg #[.int .i64 0, .int .i64 0, .int .i64 0], .int .i64 0]) (by simp [results, Try.results41, go_sem, cb1_0, cb1_1, cb1_2]) rfl ⟨rfl, by repeat (first | exact hB | refine Below.alloc ?_ (by simp; try omega) _ | refine Below.setCell ?_ (by simp; try omega) _)⟩


set_option maxRecDepth 100000 in
set_option maxHeartbeats 2000000 in
theorem prim_d (x y z : Int) (hx : I64 x) (hy : I64 y) (hz : I64 z) (d : Nat) (i j k : Int) (hd : Hid (dv3 x y z = d)) (h0 : ¬ d = 0) (h1 : ((d : Int) == 0) = false) (hi : IntKind.i64.wrap (x.tdiv (d : Int)) = i) (hj : IntKind.i64.wrap (y.tdiv (d : Int)) = j) (hk : IntKind.i64.wrap (z.tdiv (d : Int)) = k) (w : World) : Calls Try.prog 41 #[V x y z] w (Gives w (.tuple #[V i j k, .int .i64 (d : Int)])) := by
  unfold V
  go_enter Try.func41, Try.ntmps41
  have hB := Below.refl w.heap.size w
  go_wp2_with fail
  refine (divisor3 x y z hx hy hz _ _ (by simp) _).mono ?_
  rintro e W1 ⟨rfl, hk⟩
  rw [hd.out]
  have hs : Below w.heap.size w W1 := Below.trans (by repeat (first | exact Below.refl _ _ | refine Below.alloc ?_ (by simp; try omega) _ | refine Below.setCell ?_ (by simp; try omega) _)) (hk.mono (by simp; try omega))
  have v0 : Var W1 (w.heap.size) [.int .i64 x, .int .i64 y, .int .i64 z] := Var.low ⟨by simp; try omega, by simp [Cel, go_sem]⟩ hk (by simp; try omega)
  have v1 : Var W1 (w.heap.size + 1) [.int .i64 0, .int .i64 0, .int .i64 0] := Var.low ⟨by simp; try omega, by simp [Cel, go_sem]⟩ hk (by simp; try omega)
  have v2 : Var W1 (w.heap.size + 1 + 1) [.int .i64 x, .int .i64 y, .int .i64 z] := Var.low ⟨by simp; try omega, by simp [Cel, go_sem]⟩ hk (by simp; try omega)
  obtain ⟨b2, hb2⟩ : ∃ b, w.heap.size + 1 + 1 = b := ⟨_, rfl⟩
  have lob2 : w.heap.size ≤ b2 := by have := hB.size; omega
  obtain ⟨b1, hb1⟩ : ∃ b, w.heap.size + 1 = b := ⟨_, rfl⟩
  have lob1 : w.heap.size ≤ b1 := by have := hB.size; omega
  obtain ⟨b0, hb0⟩ : ∃ b, w.heap.size = b := ⟨_, rfl⟩
  have lob0 : w.heap.size ≤ b0 := by have := hB.size; omega
  have db0_b1 : b0 ≠ b1 := by omega
  have db1_b2 : b1 ≠ b2 := by omega
  rw [hb2] at v2
  try rw [hb2]
  rw [hb1] at v1
  try rw [hb1]
  rw [hb0] at v0
  try rw [hb0]
  have hB := hB.trans (hs.mono hB.size)
  clear hb0 hb1 hb2 hs hk
  go_wp2_with fail
  refine wp_region_dag (by kernel_rfl) ?_
  intro W2 hk
  have hs := hk
  have v0 := v0.below hs
  have v1 := v1.below hs
  have v2 := v2.below hs
  have hB := hB.trans (hs.mono hB.size)
  clear hs hk
  refine dagV (fun _ => trivial) 16 ?hn (fun X => ⟨#[.agg #[.int .i64 x, .int .i64 y, .int .i64 z], .pointer (some ⟨b0, 0, none⟩), .pointer (some ⟨b1, 0, none⟩), X 15, .int .i64 (d : Int), .pointer (some ⟨b0, 0, none⟩), .int .i64 x, .pointer (some ⟨b0, 1, none⟩), .int .i64 y, .pointer (some ⟨b0, 2, none⟩), .int .i64 z, .slice (some ⟨b2, 0, none⟩) 3 3, .int .i64 (d : Int), .int .i64 (d : Int), .bool false, undef, X 0, X 1, X 2, X 3, X 4, X 5, X 6, X 7, X 8, X 9, X 10, X 11, X 12, X 13], []⟩) [(0, 0, 0), (0, 0, 0), (0, 0, 0), (0, 0, 0), (0, 0, 0), (0, 0, 0), (0, 0, 0), (0, 0, 0), (0, 0, 0), (0, 0, 0), (0, 0, 0), (0, 0, 0), (0, 0, 0), (0, 0, 0), (4, b1, 12), (0, 0, 0)] (fun i => ([[], [], [], [], [], [], [], [], [], [], [], [], [], [], [.int .i64 0, .int .i64 0, .int .i64 0], []] : List (List Value)).getD i []) [.val (.pointer (some ⟨b0, 0, none⟩)), .val (.int .i64 x), .val (.int .i64 (d : Int)), .val (.int .i64 i), .val (.pointer (some ⟨b0, 1, none⟩)), .val (.int .i64 y), .val (.int .i64 (d : Int)), .val (.int .i64 j), .val (.pointer (some ⟨b0, 2, none⟩)), .val (.int .i64 z), .val (.int .i64 (d : Int)), .val (.int .i64 k), .val (.agg #[.int .i64 i, .int .i64 j, .int .i64 k]), .val (.int .i64 (d : Int)), .none, .val (.int .i64 (d : Int))] [[], [0], [], [1, 2], [], [4], [], [5, 6], [], [8], [], [9, 10], [3, 7, 11], [], [12], [13]] [0, 1, 2, 3, 4, 5, 6, 7, 8, 9, 10, 11, 12, 13, 15] [] [] [14] (fun _ => 0) W2 (by kernel_rfl) (by kernel_rfl) (by kernel_rfl) (by kernel_rfl) (by kernel_rfl) ?dist ?olds ?op ?al ?st ?into ?fin (upd (fun _ => undef) 15 (.int .i64 0)) _ _ (by kernel_rfl) (of_decide_eq_true (by kernel_rfl)) (of_decide_eq_true (by kernel_rfl))
  case hn => rfl
  case dist => intro i hi j hj; simp at hi hj; try omega
  case olds => intro i hi; obtain rfl := List.mem_singleton.1 hi; exact v1
  case op =>
    repeat' first | exact Each.nil | refine Each.cons ?_ ?_
    all_goals intro X w7 H hb hD h
    · refine tv rfl (by rfl) ?_ (by exact h _ w7 rfl (Below.refl _ _))
      go_simp <;> first | rfl | (simp only [IntWalk.i64_left]; rfl)
    · have e0_ : X 0 = _ := hD 0 (by decide) rfl
      have hv := (show Keep [b1] _ _ from hb).var v0 (by simp; first | omega | (intro h; exact absurd h (by first | assumption | (apply Ne.symm; assumption))))
      have c0_ := hv.at 0 rfl
      refine tv rfl (by simp only [e0_]; rfl) ?_ (by exact h _ w7 rfl (Below.refl _ _))
      simp only [e0_]; go_simp <;> first | rfl | (simp only [IntWalk.i64_left]; rfl)
    · refine tv rfl (by rfl) ?_ (by exact h _ w7 rfl (Below.refl _ _))
      go_simp <;> first | rfl | (simp only [IntWalk.i64_left]; rfl)
    · have e1_ : X 1 = _ := hD 1 (by decide) rfl
      have e2_ : X 2 = _ := hD 2 (by decide) rfl
      refine tv rfl (by simp only [e1_, e2_]; rfl) ?_ (by exact h _ w7 rfl (Below.refl _ _))
      simp only [e1_, e2_]; go_simp <;> first | rfl | (simp only [IntWalk.i64_left]; rfl)
    · refine tv rfl (by rfl) ?_ (by exact h _ w7 rfl (Below.refl _ _))
      go_simp <;> first | rfl | (simp only [IntWalk.i64_left]; rfl)
    · have e4_ : X 4 = _ := hD 4 (by decide) rfl
      have hv := (show Keep [b1] _ _ from hb).var v0 (by simp; first | omega | (intro h; exact absurd h (by first | assumption | (apply Ne.symm; assumption))))
      have c0_ := hv.at 1 rfl
      refine tv rfl (by simp only [e4_]; rfl) ?_ (by exact h _ w7 rfl (Below.refl _ _))
      simp only [e4_]; go_simp <;> first | rfl | (simp only [IntWalk.i64_left]; rfl)
    · refine tv rfl (by rfl) ?_ (by exact h _ w7 rfl (Below.refl _ _))
      go_simp <;> first | rfl | (simp only [IntWalk.i64_left]; rfl)
    · have e5_ : X 5 = _ := hD 5 (by decide) rfl
      have e6_ : X 6 = _ := hD 6 (by decide) rfl
      refine tv rfl (by simp only [e5_, e6_]; rfl) ?_ (by exact h _ w7 rfl (Below.refl _ _))
      simp only [e5_, e6_]; go_simp <;> first | rfl | (simp only [IntWalk.i64_left]; rfl)
    · refine tv rfl (by rfl) ?_ (by exact h _ w7 rfl (Below.refl _ _))
      go_simp <;> first | rfl | (simp only [IntWalk.i64_left]; rfl)
    · have e8_ : X 8 = _ := hD 8 (by decide) rfl
      have hv := (show Keep [b1] _ _ from hb).var v0 (by simp; first | omega | (intro h; exact absurd h (by first | assumption | (apply Ne.symm; assumption))))
      have c0_ := hv.at 2 rfl
      refine tv rfl (by simp only [e8_]; rfl) ?_ (by exact h _ w7 rfl (Below.refl _ _))
      simp only [e8_]; go_simp <;> first | rfl | (simp only [IntWalk.i64_left]; rfl)
    · refine tv rfl (by rfl) ?_ (by exact h _ w7 rfl (Below.refl _ _))
      go_simp <;> first | rfl | (simp only [IntWalk.i64_left]; rfl)
    · have e9_ : X 9 = _ := hD 9 (by decide) rfl
      have e10_ : X 10 = _ := hD 10 (by decide) rfl
      refine tv rfl (by simp only [e9_, e10_]; rfl) ?_ (by exact h _ w7 rfl (Below.refl _ _))
      simp only [e9_, e10_]; go_simp <;> first | rfl | (simp only [IntWalk.i64_left]; rfl)
    · have e3_ : X 3 = _ := hD 3 (by decide) rfl
      have e7_ : X 7 = _ := hD 7 (by decide) rfl
      have e11_ : X 11 = _ := hD 11 (by decide) rfl
      refine tv rfl (by simp only [e3_, e7_, e11_]; rfl) ?_ (by exact h _ w7 rfl (Below.refl _ _))
      simp only [e3_, e7_, e11_]; go_simp <;> first | rfl | (simp only [IntWalk.i64_left]; rfl)
    · refine tv rfl (by rfl) ?_ (by exact h _ w7 rfl (Below.refl _ _))
      go_simp <;> first | rfl | (simp only [IntWalk.i64_left]; rfl)
    · have e13_ : X 13 = _ := hD 13 (by decide) rfl
      refine tv rfl (by simp only [e13_]; rfl) ?_ (by exact h _ w7 rfl (Below.refl _ _))
      simp only [e13_]; go_simp <;> first | rfl | (simp only [IntWalk.i64_left]; rfl)
  case al => exact Each.nil
  case st => exact Each.nil
  case into =>
    repeat' first | exact Each.nil | refine Each.cons ?_ ?_
    all_goals intro X w7 H hC hG h
    · have e : X 12 = _ := hG
      replace hC : Var w7 b1 [.int .i64 0, .int .i64 0, .int .i64 0] := hC
      have c0_ := hC.at 0 rfl
      have z0_ := hC.fr 0 (by simp)
      have c1_ := hC.at 1 rfl
      have z1_ := hC.fr 1 (by simp)
      have c2_ := hC.at 2 rfl
      have z2_ := hC.fr 2 (by simp)
      refine wpOp_run rfl ?_
      have h := h (by show _ = (vc (X 12)).length; rw [e]; rfl)
      replace h : H _ (putC b1 w7 0 (vc (X 12))) := h
      simp only [e] at h ⊢
      go_simp
      exact h
  case fin =>
    intro X4_ W3 hI
    have hE : Keep [b1] W2 W3 := hI.keep
    have e12_ : X4_ 12 = _ := hI.fact 12 (by decide) rfl rfl
    have e15_ : X4_ 15 = _ := hI.fact 15 (by decide) rfl rfl
    have v0 := hE.var v0 (by simp; first | omega | (intro h; exact absurd h (by first | assumption | (apply Ne.symm; assumption))))
    replace v1 : Var W3 b1 (vc (X4_ 12)) := (hI.old 14 (by decide) rfl).2
    rw [e12_] at v1
    replace v1 : Var W3 b1 [.int .i64 i, .int .i64 j, .int .i64 k] := v1
    have v2 := hE.var v2 (by simp; first | omega | (intro h; exact absurd h (by first | assumption | (apply Ne.symm; assumption))))
    have hB := hB.trans (hE.low (B := w.heap.size) hB.size (by intro b hb; simp at hb; subst hb; assumption))
    simp only [e12_, e15_]
    clear e12_ e15_ hI hE
    have cb1_0 := v1.at 0 rfl
    have cb1_1 := v1.at 1 rfl
    have cb1_2 := v1.at 2 rfl
    go_wp2_with fail
    exact bodyPost_ret (v := .tuple #[.agg #[.int .i64 i, .int .i64 j, .int .i64 k], .int .i64 (d : Int)]) (by simp [results, Try.results41, go_sem, cb1_0, cb1_1, cb1_2]) rfl ⟨rfl, by repeat (first | exact hB | refine Below.alloc ?_ (by simp; try omega) _ | refine Below.setCell ?_ (by simp; try omega) _)⟩

end Go.Proofs.Ytblnpelbklfloaa
