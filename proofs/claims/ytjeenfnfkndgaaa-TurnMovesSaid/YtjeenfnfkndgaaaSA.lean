/- The reference's Prim and Valid give what plane's give. -/
import Derived.Test.YtjeenfnfkndgaaaZZ
import Derived.Test.YtjeenfnfkndgaaaUZ
import Derived.Test.YtjeenfnfkndgaaaRows
namespace Go.Proofs.Ytjeenfnfkndgaaa
open Go Go.Sz Go.RowKit

/-- the greatest common divisor as plane reckons it -/
def ab (x : Int) : Int := if x < 0 then IntKind.i64.wrap (0 - x) else x
def pg (a b c : Int) : Int := if a = -9223372036854775808 then 0 else if b = -9223372036854775808 then 0 else if c = -9223372036854775808 then 0 else geuc (geuc (geuc 0 (ab a)) (ab b)) (ab c)
def primD (a b c : Int) : D := .cons (.i (if pg a b c = 0 then 0 else IntKind.i64.wrap (a.tdiv (pg a b c)))) (.cons (.i (if pg a b c = 0 then 0 else IntKind.i64.wrap (b.tdiv (pg a b c)))) (.cons (.i (if pg a b c = 0 then 0 else IntKind.i64.wrap (c.tdiv (pg a b c)))) (.cons (.i (pg a b c)) .nil)))
theorem ite_di {p : Prop} [Decidable p] {a b : Int} : (if p then D.i a else D.i b) = D.i (if p then a else b) := by split <;> rfl
theorem ab_d {a : D} : (if a.int < 0 then D.i (IntKind.i64.wrap (0 - a.int)) else a).int = ab a.int := by unfold ab; split <;> rfl
theorem eqB_i {a b : Int} : (eqB a b = true) ↔ a = b := by rw [eq_t]
theorem prim_d {T : Tab} (h1 : T 1 = geucD) (h3 : T 3 = fnOf F2 plane_Prim_x) (e1 : tabF F2 1 = T 1) (a b c : D) : T 3 (.cons a (.cons b (.cons c .nil))) = primD a.int b.int c.int := by
  rw [h3, fnOf_eq]
  simp only [plane_Prim_x, plane_Prim_n_q0, List.map_cons, List.map_nil, D.of, X.d, den3, den_sub, den_quo, den_lt, den_eq, den_cons, int_i, bool_b, hd_c, tl_c, D.get, envD, e1, h1, geucD, eq_t, lt_t, ite_di]
  simp only [ab_d]
  by_cases ha : a.int = -9223372036854775808
  · simp only [ha, if_true, primD, pg]
  · by_cases hb : b.int = -9223372036854775808
    · simp only [ha, hb, if_true, if_false, primD, pg]
    · by_cases hc : c.int = -9223372036854775808
      · simp only [ha, hb, hc, if_true, if_false, primD, pg]
      · simp only [ha, hb, hc, if_false, primD, pg]
        by_cases hg : geuc (geuc (geuc 0 (ab a.int)) (ab b.int)) (ab c.int) = 0
        · simp only [hg, if_true]
        · simp only [hg, if_false]
theorem x_eq_t {T : Tab} {η : Env} {j : Nat} {n : Int} (h : ((X.o2 .eq (.var j) (.lit (.i n))).d T η).bool = true) : (η.d j).int = n := beq_iff_eq.1 (show ((η.d j).int == n) = true from h)
theorem x_eq_f {T : Tab} {η : Env} {j : Nat} {n : Int} (h : ((X.o2 .eq (.var j) (.lit (.i n))).d T η).bool = false) : ¬ (η.d j).int = n := beq_eq_false_iff_ne.1 (show ((η.d j).int == n) = false from h)
theorem x_ab {T : Tab} {η : Env} {j : Nat} : ((X.o3 .ite (.o2 .lt (.var j) (.lit (.i 0))) (.o2 (.sub .i64) (.lit (.i 0)) (.var j)) (.var j)).d T η).int = ab (η.d j).int := by
  show D.int (if decide ((η.d j).int < 0) = true then D.i (IntKind.i64.wrap (0 - (η.d j).int)) else η.d j) = _
  unfold ab
  by_cases h : (η.d j).int < 0
  · rw [if_pos (decide_eq_true h), if_pos h]; rfl
  · rw [if_neg (by simpa using h), if_neg h]

noncomputable def r07_absolute_k : Con := { f := 81, pat := [.v (.one (.int .i64 (.var 0)))], res := .v (.one (.int .i64 (.o3 .ite (.o2 .lt (.var 0) (.lit (.i 0))) (.o2 (.sub .i64) (.lit (.i 0)) (.var 0)) (.var 0)))) }
theorem r07_absolute_c {T : Tab} (hF : Fs.ok F17 T) : r07_absolute_k.Ok Try.prog T :=
  con_auto (K := []) (nb := 1) (fuel := 110) (sym := []) mixed_ hF conNil (by kernel_rfl)
noncomputable def r07_Prim_q0 : X := .fn 3 (.o2 .cons (.var 0) (.o2 .cons (.var 1) (.o2 .cons (.var 2) (.lit .nil))))
noncomputable def r07_Prim_k : Con := { f := 64, pat := [.v (.agg [.int .i64 (.var 0), .int .i64 (.var 1), .int .i64 (.var 2)])], res := .tup [.agg [.int .i64 (.o2 .get r07_Prim_q0 (.lit (.i 0))), .int .i64 (.o2 .get r07_Prim_q0 (.lit (.i 1))), .int .i64 (.o2 .get r07_Prim_q0 (.lit (.i 2)))], .one (.int .i64 (.o2 .get r07_Prim_q0 (.lit (.i 3))))] }
noncomputable def r07_Prim_t0 : X := .fn 3 (.o2 .cons (.var 0) (.o2 .cons (.var 1) (.o2 .cons (.var 2) (.lit .nil))))
theorem r07_Prim_c {T : Tab} (hF : Fs.ok F17 T) : r07_Prim_k.Ok Try.prog T :=
  con_tree (K := [r07_components_k, r07_absolute_k]) (nb := 3) (fuel := 110) (sym := [2]) (.br (.o2 .eq (.var 0) (.lit (.i (-9223372036854775808)))) (.fin [(0, .lit (.i 0), .o2 .get r07_Prim_t0 (.lit (.i 0))), (0, .lit (.i 0), .o2 .get r07_Prim_t0 (.lit (.i 1))), (0, .lit (.i 0), .o2 .get r07_Prim_t0 (.lit (.i 2))), (0, .lit (.i 0), .o2 .get r07_Prim_t0 (.lit (.i 3)))]) (.loop 0 3 { n := 3, x := [(0, .var 0), (1, .var 1), (2, .var 2), (3, .lit (.i 0)), (4, .o3 .ite (.o2 .lt (.var 0) (.lit (.i 0))) (.o2 (.sub .i64) (.lit (.i 0)) (.var 0)) (.var 0)), (0, .var 0), (1, .var 1), (2, .var 2), (0, .var 0), (1, .var 1), (2, .var 2), (0, .var 0), (0, .var 0), (0, .var 0), (1, .var 1), (2, .var 2), (0, .var 0), (1, .var 1), (2, .var 2)], id := [(0, 0), (1, 1), (2, 2), (2, 2), (2, 2)] } (.br (.o2 .lt (.lit (.i 0)) (.var 4)) (.need [.o1 .not (.o2 .eq (.var 4) (.lit (.i 0)))] (.back 0 { n := 3, x := [(0, .var 0), (1, .var 1), (2, .var 2), (3, .var 4), (4, .o2 .rem (.var 3) (.var 4)), (0, .var 0), (1, .var 1), (2, .var 2), (0, .var 0), (1, .var 1), (2, .var 2), (0, .var 0), (0, .var 0), (0, .var 0), (1, .var 1), (2, .var 2), (0, .var 0), (1, .var 1), (2, .var 2)], id := [(0, 0), (1, 1), (2, 2), (2, 2), (2, 2)] })) (.br (.o2 .eq (.var 1) (.lit (.i (-9223372036854775808)))) (.fin [(0, .lit (.i 0), .o2 .get r07_Prim_t0 (.lit (.i 0))), (0, .lit (.i 0), .o2 .get r07_Prim_t0 (.lit (.i 1))), (0, .lit (.i 0), .o2 .get r07_Prim_t0 (.lit (.i 2))), (0, .lit (.i 0), .o2 .get r07_Prim_t0 (.lit (.i 3)))]) (.loop 0 5 { n := 5, x := [(0, .var 0), (1, .var 1), (2, .var 2), (5, .var 3), (6, .o3 .ite (.o2 .lt (.var 1) (.lit (.i 0))) (.o2 (.sub .i64) (.lit (.i 0)) (.var 1)) (.var 1)), (0, .var 0), (1, .var 1), (2, .var 2), (0, .var 0), (1, .var 1), (2, .var 2), (1, .var 1), (1, .var 1), (7, .var 4), (8, .o2 .lt (.lit (.i 0)) (.var 4)), (0, .var 0), (1, .var 1), (2, .var 2), (0, .var 0), (1, .var 1), (2, .var 2)], id := [(0, 0), (1, 1), (2, 2), (2, 2), (2, 2)] } (.br (.o2 .lt (.lit (.i 0)) (.var 6)) (.need [.o1 .not (.o2 .eq (.var 6) (.lit (.i 0)))] (.back 0 { n := 5, x := [(0, .var 0), (1, .var 1), (2, .var 2), (5, .var 6), (6, .o2 .rem (.var 5) (.var 6)), (0, .var 0), (1, .var 1), (2, .var 2), (0, .var 0), (1, .var 1), (2, .var 2), (1, .var 1), (1, .var 1), (7, .var 6), (8, .o2 .lt (.lit (.i 0)) (.var 6)), (0, .var 0), (1, .var 1), (2, .var 2), (0, .var 0), (1, .var 1), (2, .var 2)], id := [(0, 0), (1, 1), (2, 2), (2, 2), (2, 2)] })) (.br (.o2 .eq (.var 2) (.lit (.i (-9223372036854775808)))) (.fin [(0, .lit (.i 0), .o2 .get r07_Prim_t0 (.lit (.i 0))), (0, .lit (.i 0), .o2 .get r07_Prim_t0 (.lit (.i 1))), (0, .lit (.i 0), .o2 .get r07_Prim_t0 (.lit (.i 2))), (0, .lit (.i 0), .o2 .get r07_Prim_t0 (.lit (.i 3)))]) (.loop 0 9 { n := 9, x := [(0, .var 0), (1, .var 1), (2, .var 2), (9, .var 5), (10, .o3 .ite (.o2 .lt (.var 2) (.lit (.i 0))) (.o2 (.sub .i64) (.lit (.i 0)) (.var 2)) (.var 2)), (0, .var 0), (1, .var 1), (2, .var 2), (0, .var 0), (1, .var 1), (2, .var 2), (2, .var 2), (2, .var 2), (11, .var 6), (12, .o2 .lt (.lit (.i 0)) (.var 6)), (0, .var 0), (1, .var 1), (2, .var 2), (0, .var 0), (1, .var 1), (2, .var 2)], id := [(0, 0), (1, 1), (2, 2), (2, 2), (2, 2)] } (.br (.o2 .lt (.lit (.i 0)) (.var 10)) (.need [.o1 .not (.o2 .eq (.var 10) (.lit (.i 0)))] (.back 0 { n := 9, x := [(0, .var 0), (1, .var 1), (2, .var 2), (9, .var 10), (10, .o2 .rem (.var 9) (.var 10)), (0, .var 0), (1, .var 1), (2, .var 2), (0, .var 0), (1, .var 1), (2, .var 2), (2, .var 2), (2, .var 2), (11, .var 10), (12, .o2 .lt (.lit (.i 0)) (.var 10)), (0, .var 0), (1, .var 1), (2, .var 2), (0, .var 0), (1, .var 1), (2, .var 2)], id := [(0, 0), (1, 1), (2, 2), (2, 2), (2, 2)] })) (.br (.o2 .eq (.var 9) (.lit (.i 0))) (.fin [(0, .lit (.i 0), .o2 .get r07_Prim_t0 (.lit (.i 0))), (0, .lit (.i 0), .o2 .get r07_Prim_t0 (.lit (.i 1))), (0, .lit (.i 0), .o2 .get r07_Prim_t0 (.lit (.i 2))), (0, .lit (.i 0), .o2 .get r07_Prim_t0 (.lit (.i 3)))]) (.need [.o1 .not (.o2 .eq (.var 9) (.lit (.i 0))), .o1 .not (.o2 .eq (.var 9) (.lit (.i 0))), .o1 .not (.o2 .eq (.var 9) (.lit (.i 0)))] (.fin [(0, .o2 (.quo .i64) (.var 0) (.var 9), .o2 .get r07_Prim_t0 (.lit (.i 0))), (0, .o2 (.quo .i64) (.var 1) (.var 9), .o2 .get r07_Prim_t0 (.lit (.i 1))), (0, .o2 (.quo .i64) (.var 2) (.var 9), .o2 .get r07_Prim_t0 (.lit (.i 2))), (0, .var 9, .o2 .get r07_Prim_t0 (.lit (.i 3)))])))))))))))) mixed_ hF (conCons (r07_components_c hF.tail.tail.tail.tail.tail.tail) (conCons (r07_absolute_c hF) conNil)) (by kernel_rfl) (by kernel_rfl) fun η hneed => by
    have h1 : T 1 = geucD := hF.tail.tail.tail.tail.tail.tail.tail.tail.tail.tail.tail.tail.tail.tail.tail.tail.top
    have h3 : T 3 = fnOf F2 plane_Prim_x := hF.tail.tail.tail.tail.tail.tail.tail.tail.tail.tail.tail.tail.tail.tail.top
    have e1 : tabF F2 1 = T 1 := (tabF_eq hF.tail.tail.tail.tail.tail.tail.tail.tail.tail.tail.tail.tail.tail.tail.tail (by kernel_rfl)).symm
    refine ⟨fun c0 => ?_, fun c0 => ?_⟩
    · have c0 := x_eq_t c0
      have hp0 : pg (η.d 0).int (η.d 1).int (η.d 2).int = 0 := by unfold pg; rw [if_pos c0]
      intro p hp
      have k := prim_d h1 h3 e1 (η.d 0) (η.d 1) (η.d 2)
      simp only [List.mem_cons, List.not_mem_nil, or_false] at hp
      rcases hp with rfl | rfl | rfl | rfl
      · show (0 : Int) = ((T 3 (.cons (η.d 0) (.cons (η.d 1) (.cons (η.d 2) .nil)))).get 0).int
        rw [k]
        show (0 : Int) = if pg (η.d 0).int (η.d 1).int (η.d 2).int = 0 then 0 else _
        rw [if_pos hp0]
      · show (0 : Int) = ((T 3 (.cons (η.d 0) (.cons (η.d 1) (.cons (η.d 2) .nil)))).get 1).int
        rw [k]
        show (0 : Int) = if pg (η.d 0).int (η.d 1).int (η.d 2).int = 0 then 0 else _
        rw [if_pos hp0]
      · show (0 : Int) = ((T 3 (.cons (η.d 0) (.cons (η.d 1) (.cons (η.d 2) .nil)))).get 2).int
        rw [k]
        show (0 : Int) = if pg (η.d 0).int (η.d 1).int (η.d 2).int = 0 then 0 else _
        rw [if_pos hp0]
      · show (0 : Int) = ((T 3 (.cons (η.d 0) (.cons (η.d 1) (.cons (η.d 2) .nil)))).get 3).int
        rw [k]
        exact hp0.symm
    · have c0 := x_eq_f c0
      refine geuc_loop rfl rfl (by decide) (by decide) rfl rfl rfl fun B0 η0 ag0 g0 z0 => ?_
      have g0 : (η0.d 3).int = geuc 0 (ab (η.d 0).int) := g0.trans (congrArg (geuc 0) (x_ab (T := T) (η := η) (j := 0)))
      have c0 : ¬ (η0.d 0).int = -9223372036854775808 := by rw [ag0.d 0 (by omega)]; exact c0
      rw [← ag0.d 0 (by omega)] at g0
      refine ⟨fun c1 => ?_, fun c1 => ?_⟩
      · have c1 := x_eq_t c1
        have hp0 : pg (η0.d 0).int (η0.d 1).int (η0.d 2).int = 0 := by unfold pg; rw [if_neg c0, if_pos c1]
        intro p hp
        have k := prim_d h1 h3 e1 (η0.d 0) (η0.d 1) (η0.d 2)
        simp only [List.mem_cons, List.not_mem_nil, or_false] at hp
        rcases hp with rfl | rfl | rfl | rfl
        · show (0 : Int) = ((T 3 (.cons (η0.d 0) (.cons (η0.d 1) (.cons (η0.d 2) .nil)))).get 0).int
          rw [k]
          show (0 : Int) = if pg (η0.d 0).int (η0.d 1).int (η0.d 2).int = 0 then 0 else _
          rw [if_pos hp0]
        · show (0 : Int) = ((T 3 (.cons (η0.d 0) (.cons (η0.d 1) (.cons (η0.d 2) .nil)))).get 1).int
          rw [k]
          show (0 : Int) = if pg (η0.d 0).int (η0.d 1).int (η0.d 2).int = 0 then 0 else _
          rw [if_pos hp0]
        · show (0 : Int) = ((T 3 (.cons (η0.d 0) (.cons (η0.d 1) (.cons (η0.d 2) .nil)))).get 2).int
          rw [k]
          show (0 : Int) = if pg (η0.d 0).int (η0.d 1).int (η0.d 2).int = 0 then 0 else _
          rw [if_pos hp0]
        · show (0 : Int) = ((T 3 (.cons (η0.d 0) (.cons (η0.d 1) (.cons (η0.d 2) .nil)))).get 3).int
          rw [k]
          exact hp0.symm
      · have c1 := x_eq_f c1
        refine geuc_loop rfl rfl (by decide) (by decide) rfl rfl rfl fun B1 η1 ag1 g1' z1 => ?_
        have g1' : (η1.d 5).int = geuc (η0.d 3).int (ab (η0.d 1).int) := g1'.trans (congrArg (geuc (η0.d 3).int) (x_ab (T := T) (η := η0) (j := 1)))
        rw [g0, ← ag1.d 0 (by omega), ← ag1.d 1 (by omega)] at g1'
        have c0 : ¬ (η1.d 0).int = -9223372036854775808 := by rw [ag1.d 0 (by omega)]; exact c0
        have c1 : ¬ (η1.d 1).int = -9223372036854775808 := by rw [ag1.d 1 (by omega)]; exact c1
        refine ⟨fun c2 => ?_, fun c2 => ?_⟩
        · have c2 := x_eq_t c2
          have hp0 : pg (η1.d 0).int (η1.d 1).int (η1.d 2).int = 0 := by unfold pg; rw [if_neg c0, if_neg c1, if_pos c2]
          intro p hp
          have k := prim_d h1 h3 e1 (η1.d 0) (η1.d 1) (η1.d 2)
          simp only [List.mem_cons, List.not_mem_nil, or_false] at hp
          rcases hp with rfl | rfl | rfl | rfl
          · show (0 : Int) = ((T 3 (.cons (η1.d 0) (.cons (η1.d 1) (.cons (η1.d 2) .nil)))).get 0).int
            rw [k]
            show (0 : Int) = if pg (η1.d 0).int (η1.d 1).int (η1.d 2).int = 0 then 0 else _
            rw [if_pos hp0]
          · show (0 : Int) = ((T 3 (.cons (η1.d 0) (.cons (η1.d 1) (.cons (η1.d 2) .nil)))).get 1).int
            rw [k]
            show (0 : Int) = if pg (η1.d 0).int (η1.d 1).int (η1.d 2).int = 0 then 0 else _
            rw [if_pos hp0]
          · show (0 : Int) = ((T 3 (.cons (η1.d 0) (.cons (η1.d 1) (.cons (η1.d 2) .nil)))).get 2).int
            rw [k]
            show (0 : Int) = if pg (η1.d 0).int (η1.d 1).int (η1.d 2).int = 0 then 0 else _
            rw [if_pos hp0]
          · show (0 : Int) = ((T 3 (.cons (η1.d 0) (.cons (η1.d 1) (.cons (η1.d 2) .nil)))).get 3).int
            rw [k]
            exact hp0.symm
        · have c2 := x_eq_f c2
          refine geuc_loop rfl rfl (by decide) (by decide) rfl rfl rfl fun B2 η2 ag2 g2 z2 => ?_
          have g2 : (η2.d 9).int = geuc (η1.d 5).int (ab (η1.d 2).int) := g2.trans (congrArg (geuc (η1.d 5).int) (x_ab (T := T) (η := η1) (j := 2)))
          rw [g1', ← ag2.d 0 (by omega), ← ag2.d 1 (by omega), ← ag2.d 2 (by omega)] at g2
          have c0 : ¬ (η2.d 0).int = -9223372036854775808 := by rw [ag2.d 0 (by omega)]; exact c0
          have c1 : ¬ (η2.d 1).int = -9223372036854775808 := by rw [ag2.d 1 (by omega)]; exact c1
          have c2 : ¬ (η2.d 2).int = -9223372036854775808 := by rw [ag2.d 2 (by omega)]; exact c2
          have hpg : pg (η2.d 0).int (η2.d 1).int (η2.d 2).int = (η2.d 9).int := by unfold pg; rw [if_neg c0, if_neg c1, if_neg c2, g2]
          refine ⟨fun c3 => ?_, fun c3 => ?_⟩
          · have c3 := x_eq_t c3
            have hp0 : pg (η2.d 0).int (η2.d 1).int (η2.d 2).int = 0 := by rw [hpg]; exact c3
            intro p hp
            have k := prim_d h1 h3 e1 (η2.d 0) (η2.d 1) (η2.d 2)
            simp only [List.mem_cons, List.not_mem_nil, or_false] at hp
            rcases hp with rfl | rfl | rfl | rfl
            · show (0 : Int) = ((T 3 (.cons (η2.d 0) (.cons (η2.d 1) (.cons (η2.d 2) .nil)))).get 0).int
              rw [k]
              show (0 : Int) = if pg (η2.d 0).int (η2.d 1).int (η2.d 2).int = 0 then 0 else _
              rw [if_pos hp0]
            · show (0 : Int) = ((T 3 (.cons (η2.d 0) (.cons (η2.d 1) (.cons (η2.d 2) .nil)))).get 1).int
              rw [k]
              show (0 : Int) = if pg (η2.d 0).int (η2.d 1).int (η2.d 2).int = 0 then 0 else _
              rw [if_pos hp0]
            · show (0 : Int) = ((T 3 (.cons (η2.d 0) (.cons (η2.d 1) (.cons (η2.d 2) .nil)))).get 2).int
              rw [k]
              show (0 : Int) = if pg (η2.d 0).int (η2.d 1).int (η2.d 2).int = 0 then 0 else _
              rw [if_pos hp0]
            · show (0 : Int) = ((T 3 (.cons (η2.d 0) (.cons (η2.d 1) (.cons (η2.d 2) .nil)))).get 3).int
              rw [k]
              exact hp0.symm
          · have c3' := x_eq_f c3
            refine ⟨fun x hx => ?_, ?_⟩
            · simp only [List.mem_cons, List.not_mem_nil, or_false, or_self] at hx
              subst hx
              show (!((η2.d 9).int == (0 : Int))) = true
              rw [show ((η2.d 9).int == (0 : Int)) = false from c3]; rfl
            · have k := prim_d h1 h3 e1 (η2.d 0) (η2.d 1) (η2.d 2)
              intro p hp
              simp only [List.mem_cons, List.not_mem_nil, or_false] at hp
              rcases hp with rfl | rfl | rfl | rfl
              · show IntKind.i64.wrap ((η2.d 0).int.tdiv (η2.d 9).int) = ((T 3 (.cons (η2.d 0) (.cons (η2.d 1) (.cons (η2.d 2) .nil)))).get 0).int
                rw [k]
                show _ = if pg (η2.d 0).int (η2.d 1).int (η2.d 2).int = 0 then 0 else IntKind.i64.wrap ((η2.d 0).int.tdiv (pg (η2.d 0).int (η2.d 1).int (η2.d 2).int))
                rw [hpg, if_neg c3']
              · show IntKind.i64.wrap ((η2.d 1).int.tdiv (η2.d 9).int) = ((T 3 (.cons (η2.d 0) (.cons (η2.d 1) (.cons (η2.d 2) .nil)))).get 1).int
                rw [k]
                show _ = if pg (η2.d 0).int (η2.d 1).int (η2.d 2).int = 0 then 0 else IntKind.i64.wrap ((η2.d 1).int.tdiv (pg (η2.d 0).int (η2.d 1).int (η2.d 2).int))
                rw [hpg, if_neg c3']
              · show IntKind.i64.wrap ((η2.d 2).int.tdiv (η2.d 9).int) = ((T 3 (.cons (η2.d 0) (.cons (η2.d 1) (.cons (η2.d 2) .nil)))).get 2).int
                rw [k]
                show _ = if pg (η2.d 0).int (η2.d 1).int (η2.d 2).int = 0 then 0 else IntKind.i64.wrap ((η2.d 2).int.tdiv (pg (η2.d 0).int (η2.d 1).int (η2.d 2).int))
                rw [hpg, if_neg c3']
              · show (η2.d 9).int = ((T 3 (.cons (η2.d 0) (.cons (η2.d 1) (.cons (η2.d 2) .nil)))).get 3).int
                rw [k]; exact hpg.symm
noncomputable def r07_Valid_k : Con := { f := 63, pat := [.v (.agg [.int .i64 (.var 0), .int .i64 (.var 1), .int .i64 (.var 2), .int .i64 (.var 3)])], res := .v (.one (.bool (.o2 .and (.o1 .not (.o2 .or (.o2 .lt (.var 0) (.lit (.i (-4608)))) (.o2 .lt (.lit (.i 4608)) (.var 0)))) (.o2 .and (.o1 .not (.o2 .or (.o2 .lt (.var 1) (.lit (.i (-4608)))) (.o2 .lt (.lit (.i 4608)) (.var 1)))) (.o2 .and (.o1 .not (.o2 .or (.o2 .lt (.var 2) (.lit (.i (-4608)))) (.o2 .lt (.lit (.i 4608)) (.var 2)))) (.o2 .and (.o2 .eq (.o2 .get (.fn 3 (.o2 .cons (.var 0) (.o2 .cons (.var 1) (.o2 .cons (.var 2) (.lit .nil))))) (.lit (.i 3))) (.lit (.i 1))) (.o2 .and (.o2 .le (.lit (.i (-2097152))) (.var 3)) (.o2 .le (.var 3) (.lit (.i 2097152)))))))))) }
theorem r07_Valid_c {T : Tab} (hF : Fs.ok F17 T) : r07_Valid_k.Ok Try.prog T :=
  con_auto (K := [r07_components_k, r07_Prim_k]) (nb := 4) (fuel := 110) (sym := []) mixed_ hF (conCons (r07_components_c hF.tail.tail.tail.tail.tail.tail) (conCons (r07_Prim_c hF) conNil)) (by kernel_rfl)
noncomputable def r07_Valid_y : List X := [.o2 .and (.o1 .not (.o2 .or (.o2 .lt (.var 0) (.lit (.i (-4608)))) (.o2 .lt (.lit (.i 4608)) (.var 0)))) (.o2 .and (.o1 .not (.o2 .or (.o2 .lt (.var 1) (.lit (.i (-4608)))) (.o2 .lt (.lit (.i 4608)) (.var 1)))) (.o2 .and (.o1 .not (.o2 .or (.o2 .lt (.var 2) (.lit (.i (-4608)))) (.o2 .lt (.lit (.i 4608)) (.var 2)))) (.o2 .and (.o2 .eq (.o2 .get (.fn 3 (.o2 .cons (.var 0) (.o2 .cons (.var 1) (.o2 .cons (.var 2) (.lit .nil))))) (.lit (.i 3))) (.lit (.i 1))) (.o2 .and (.o2 .le (.lit (.i (-2097152))) (.var 3)) (.o2 .le (.var 3) (.lit (.i 2097152)))))))]
noncomputable def r07_Valid_s_k : Con := { f := 63, pat := [.v (.agg [.int .i64 (.var 0), .int .i64 (.var 1), .int .i64 (.var 2), .int .i64 (.var 3)])], res := .v (.one (.bool (.o2 .get (.fn 4 (.o2 .cons (.var 0) (.o2 .cons (.var 1) (.o2 .cons (.var 2) (.o2 .cons (.var 3) (.lit .nil)))))) (.lit (.i 0))))) }
set_option maxRecDepth 100000 in
theorem r07_Valid_s_c {T : Tab} (hF : Fs.ok F17 T) : r07_Valid_s_k.Ok Try.prog T :=
  con_same (nv := 4) (ys := r07_Valid_y) (xs := plane_Valid_x) hF.tail.tail.tail.tail.tail.tail.tail.tail.tail.tail.tail.tail.tail.tail (r07_Valid_c hF) hF.tail.tail.tail.tail.tail.tail.tail.tail.tail.tail.tail.tail.tail.top (by kernel_rfl) (by kernel_rfl) (by kernel_rfl) fun η hn => ⟨fun x hx => by
      exact absurd hx List.not_mem_nil, by
      have h1 : T 1 = geucD := hF.tail.tail.tail.tail.tail.tail.tail.tail.tail.tail.tail.tail.tail.tail.tail.tail.top
      have h3 : T 3 = fnOf F2 plane_Prim_x := hF.tail.tail.tail.tail.tail.tail.tail.tail.tail.tail.tail.tail.tail.tail.top
      have e1 : tabF F2 1 = T 1 := (tabF_eq hF.tail.tail.tail.tail.tail.tail.tail.tail.tail.tail.tail.tail.tail.tail.tail (by kernel_rfl)).symm
      simp only [r07_Valid_y, plane_Valid_x, List.map_cons, List.map_nil, X.d, den1, den3, den_sub, den_lt, den_le, den_eq, den_and, den_or, den_cons, den_get, int_i, bool_b, hd_c, tl_c, D.get, h1, geucD, prim_d h1 h3 e1, primD, tn_3, gk_3, eq_t, lt_t, ite_di, ab_d, List.cons.injEq, and_true, D.b.injEq]
      rw [Bool.eq_iff_iff]
      simp only [not_t, and_t, or_f, lt_f, le_t, eq_t, and_assoc]
      refine and_congr_right fun _ => and_congr_right fun _ => and_congr_right fun _ => and_congr_right fun _ => and_congr_right fun _ => and_congr_right fun _ => ?_
      have e : pg (η.d 0).int (η.d 1).int (η.d 2).int = (if (η.d 0).int = -9223372036854775808 then 0 else if (η.d 1).int = -9223372036854775808 then 0 else if (η.d 2).int = -9223372036854775808 then 0 else geuc (geuc (geuc 0 (ab (η.d 0).int)) (ab (η.d 1).int)) (ab (η.d 2).int)) := rfl
      rw [← e]
      constructor
      · rintro ⟨a, b, c⟩; exact ⟨b, c, a⟩
      · rintro ⟨b, c, a⟩; exact ⟨a, b, c⟩⟩
end Go.Proofs.Ytjeenfnfkndgaaa
