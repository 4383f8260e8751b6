/- TurnMoves: what is left of its law. -/
import Derived.Test.YtjeenfnfkndgaaaZZ
import Derived.Test.YtjeenfnfkndgaaaSD
import Derived.Test.YtjeenfnfkndgaaaRows
namespace Go.Proofs.Ytjeenfnfkndgaaa
open Go Go.Sz Go.RowKit

/-- the lists of a list are as long as lists may be -/
noncomputable def innD : D → D := fun d => .b (okL (fun x => decide (((x.get 0).len : Int) ≤ 9223372036854775807)) d)
noncomputable def F23 : Fs := (50, innD) :: F22
noncomputable def tm_q0 : X := .fn 41 (.o2 .cons (.o2 .get (.o2 .get (.var 1) (.var 18)) (.lit (.i 0))) (.lit .nil))
noncomputable def tm_q1 : X := .fn 42 (.o2 .app (.o1 (.seg 4) tm_q0) (.o2 .cons (.var 5) (.o2 .cons (.var 6) (.o2 .cons (.var 7) (.lit .nil)))))
noncomputable def tm_q2 : X := .o2 .get (.fn 24 (.o2 .cons (.var 0) (.lit .nil))) (.lit (.i 0))
noncomputable def tm_q3 : X := .o2 .get (.fn 24 (.o2 .cons (.var 0) (.lit .nil))) (.lit (.i 1))
noncomputable def tm_q4 : X := .o2 .get (.fn 24 (.o2 .cons (.var 0) (.lit .nil))) (.lit (.i 2))
noncomputable def tm_q5 : X := .o2 .get (.fn 24 (.o2 .cons (.var 0) (.lit .nil))) (.lit (.i 3))
noncomputable def tm_q6 : X := .o2 .get (.fn 24 (.o2 .cons (.var 0) (.lit .nil))) (.lit (.i 4))
noncomputable def tm_q7 : X := .o2 .get (.fn 24 (.o2 .cons (.var 0) (.lit .nil))) (.lit (.i 5))
noncomputable def tm_q8 : X := .o2 .get (.fn 24 (.o2 .cons (.var 0) (.lit .nil))) (.lit (.i 6))
noncomputable def tm_q9 : X := .o2 .get (.fn 24 (.o2 .cons (.var 0) (.lit .nil))) (.lit (.i 7))
noncomputable def tm_q10 : X := .o2 .get (.fn 24 (.o2 .cons (.var 0) (.lit .nil))) (.lit (.i 8))
noncomputable def tm_q11 : X := .o2 .get (.fn 24 (.o2 .cons (.var 0) (.lit .nil))) (.lit (.i 9))
noncomputable def tm_q12 : X := .o2 .cons (.o2 .get (.fn 24 (.o2 .cons (.var 0) (.lit .nil))) (.lit (.i 10))) (.o2 .cons (.o2 .get (.fn 24 (.o2 .cons (.var 0) (.lit .nil))) (.lit (.i 11))) (.o2 .cons (.o2 .get (.fn 24 (.o2 .cons (.var 0) (.lit .nil))) (.lit (.i 12))) (.lit .nil)))
noncomputable def tm_q13 : X := .fn 25 (.o2 .app (.o1 (.seg 10) (.fn 24 (.o2 .cons (.var 0) (.lit .nil)))) (.o2 .cons (.var 2) (.o2 .cons (.var 3) (.o2 .cons (.var 4) (.lit .nil)))))
noncomputable def tm_q14 : X := .o1 (.seg 13) (.o2 .get (.o2 .cons (.o2 .cons tm_q2 (.o2 .cons tm_q3 (.o2 .cons tm_q4 (.o2 .cons tm_q5 (.o2 .cons tm_q6 (.o2 .cons tm_q7 (.o2 .cons tm_q8 (.o2 .cons tm_q9 (.o2 .cons tm_q10 (.o2 .cons tm_q11 tm_q12)))))))))) (.o2 .cons (.o2 .cons (.o2 .get tm_q13 (.lit (.i 0))) (.o2 .cons (.o2 .get tm_q13 (.lit (.i 1))) (.o2 .cons (.o2 .get tm_q13 (.lit (.i 2))) (.o2 .cons (.o2 .get tm_q13 (.lit (.i 3))) (.o2 .cons (.o2 .get tm_q13 (.lit (.i 4))) (.o2 .cons (.o2 .get tm_q13 (.lit (.i 5))) (.o2 .cons (.o2 .get tm_q13 (.lit (.i 6))) (.o2 .cons (.o2 .get tm_q13 (.lit (.i 7))) (.o2 .cons (.o2 .get tm_q13 (.lit (.i 8))) (.o2 .cons (.o2 .get tm_q13 (.lit (.i 9))) tm_q12)))))))))) (.o2 .cons (.o2 .cons tm_q2 (.o2 .cons tm_q3 (.o2 .cons tm_q4 (.o2 .cons tm_q5 (.o2 .cons tm_q6 (.o2 .cons tm_q7 (.o2 .cons tm_q8 (.o2 .cons tm_q9 (.o2 .cons tm_q10 (.o2 .cons tm_q11 (.o2 .cons (.var 8) (.o2 .cons (.var 9) (.o2 .cons (.var 10) (.lit .nil)))))))))))))) (.lit .nil)))) (.var 20))
noncomputable def tm_q15 : X := .o2 .get (.fn 9 (.o2 .app tm_q14 (.o1 (.seg 4) (.o2 .get (.var 19) (.var 22))))) (.lit (.i 4))
noncomputable def tmTree : Tree := .need [.o2 .le (.o1 .len (.var 0)) (.lit (.i 9223372036854775807))] (.loop 0 18 { n := 18, x := [(0, .var 0), (1, .var 1), (2, .var 2), (3, .var 3), (4, .var 4), (5, .var 5), (6, .var 6), (7, .var 7), (8, .var 8), (9, .var 9), (10, .var 10), (11, .var 11), (12, .var 12), (13, .var 13), (14, .var 14), (15, .var 15), (16, .var 16), (17, .var 17), (18, .lit (.i 0)), (0, .var 0), (2, .var 2), (3, .var 3), (4, .var 4), (8, .var 8), (9, .var 9), (10, .var 10), (11, .var 11), (12, .var 12), (13, .var 13), (14, .var 14), (15, .var 15), (16, .var 16), (17, .var 17), (2, .var 2), (3, .var 3), (4, .var 4), (5, .var 5), (6, .var 6), (7, .var 7), (8, .var 8), (9, .var 9), (10, .var 10), (11, .var 11), (12, .var 12), (13, .var 13), (14, .var 14), (15, .var 15), (16, .var 16), (17, .var 17), (8, .var 8), (9, .var 9), (10, .var 10), (19, .o2 .cons (.o2 .cons (.var 14) (.o2 .cons (.var 15) (.o2 .cons (.var 16) (.o2 .cons (.var 17) (.lit .nil))))) (.lit .nil))], id := [(0, 0), (1, 1), (2, 2), (3, 3), (4, 4), (5, 5), (6, 6), (7, 7), (8, 8), (4, 4), (0, 0), (5, 5), (6, 6), (2, 2), (2, 2), (2, 2), (4, 4), (4, 4), (9, 8)] } (.join (.br (.o2 .lt (.var 18) (.o1 .len (.var 1))) .met .met) (.lit (.b true)) (.br (.o2 .and (.o2 .lt (.var 18) (.o1 .len (.var 1))) (.o2 .lt (.var 18) (.lit (.i 4)))) (.need [.o2 .le (.lit (.i 0)) (.var 18), .o2 .lt (.var 18) (.o1 .len (.var 1))] (.need [.o2 .le (.o1 .len (.o2 .get (.o2 .get (.var 1) (.var 18)) (.lit (.i 0)))) (.lit (.i 9223372036854775807))] (.need [.o2 .le (.o2 .pl (.o1 .len (.var 19)) (.lit (.i 2))) (.lit (.i 4398046511104))] (.back 0 { n := 18, x := [(0, .var 0), (1, .var 1), (2, .var 2), (3, .var 3), (4, .var 4), (5, .var 5), (6, .var 6), (7, .var 7), (8, .var 8), (9, .var 9), (10, .var 10), (11, .var 11), (12, .var 12), (13, .var 13), (14, .var 14), (15, .var 15), (16, .var 16), (17, .var 17), (18, .o2 (.add .i64) (.var 18) (.lit (.i 1))), (0, .var 0), (2, .var 2), (3, .var 3), (4, .var 4), (8, .var 8), (9, .var 9), (10, .var 10), (11, .var 11), (12, .var 12), (13, .var 13), (14, .var 14), (15, .var 15), (16, .var 16), (17, .var 17), (2, .var 2), (3, .var 3), (4, .var 4), (5, .var 5), (6, .var 6), (7, .var 7), (8, .var 8), (9, .var 9), (10, .var 10), (11, .var 11), (12, .var 12), (13, .var 13), (14, .var 14), (15, .var 15), (16, .var 16), (17, .var 17), (8, .var 8), (9, .var 9), (10, .var 10), (19, .o2 .app (.var 19) (.o2 .cons (.o2 .cons (.o2 .get tm_q0 (.lit (.i 0))) (.o2 .cons (.o2 .get tm_q0 (.lit (.i 1))) (.o2 .cons (.o2 .get tm_q0 (.lit (.i 2))) (.o2 .cons (.o2 .get tm_q0 (.lit (.i 3))) (.lit .nil))))) (.o2 .cons (.o2 .cons (.o2 .get tm_q1 (.lit (.i 0))) (.o2 .cons (.o2 .get tm_q1 (.lit (.i 1))) (.o2 .cons (.o2 .get tm_q1 (.lit (.i 2))) (.o2 .cons (.o2 .get tm_q1 (.lit (.i 3))) (.lit .nil))))) (.lit .nil))))], id := [(0, 0), (1, 1), (2, 2), (3, 3), (4, 4), (5, 5), (6, 6), (7, 7), (8, 12), (4, 4), (0, 0), (5, 5), (6, 6), (2, 2), (2, 2), (2, 2), (4, 4), (4, 4), (9, 9)] })))) (.loop 0 20 { n := 20, x := [(0, .var 0), (1, .var 1), (2, .var 2), (3, .var 3), (4, .var 4), (5, .var 5), (6, .var 6), (7, .var 7), (8, .var 8), (9, .var 9), (10, .var 10), (11, .var 11), (12, .var 12), (13, .var 13), (14, .var 14), (15, .var 15), (16, .var 16), (17, .var 17), (18, .var 18), (0, .var 0), (2, .var 2), (3, .var 3), (4, .var 4), (8, .var 8), (9, .var 9), (10, .var 10), (11, .var 11), (12, .var 12), (13, .var 13), (14, .var 14), (15, .var 15), (16, .var 16), (17, .var 17), (18, .var 18), (1, .var 1), (8, .var 8), (9, .var 9), (10, .var 10), (20, .lit (.i 0)), (2, .var 2), (3, .var 3), (4, .var 4), (5, .var 5), (6, .var 6), (7, .var 7), (8, .var 8), (9, .var 9), (10, .var 10), (11, .var 11), (12, .var 12), (13, .var 13), (14, .var 14), (15, .var 15), (16, .var 16), (17, .var 17), (8, .var 8), (9, .var 9), (10, .var 10), (19, .var 19)], id := [(0, 0), (1, 1), (2, 2), (3, 3), (4, 4), (5, 5), (6, 6), (7, 7), (8, 8), (4, 4), (0, 0), (5, 5), (6, 6), (2, 2), (2, 2), (2, 2), (4, 4), (4, 4), (9, 9), (10, 10)] } (.br (.o2 .lt (.var 20) (.lit (.i 3))) (.need [.o2 .le (.lit (.i 0)) (.var 20), .o2 .lt (.var 20) (.lit (.i 3))] (.need [.o2 .le (.lit (.i 0)) (.var 20), .o2 .lt (.var 20) (.lit (.i 3))] (.loop 1 22 { n := 22, x := [(0, .var 0), (1, .var 1), (2, .var 2), (3, .var 3), (4, .var 4), (5, .var 5), (6, .var 6), (7, .var 7), (8, .var 8), (9, .var 9), (10, .var 10), (11, .var 11), (12, .var 12), (13, .var 13), (14, .var 14), (15, .var 15), (16, .var 16), (17, .var 17), (18, .var 18), (0, .var 0), (2, .var 2), (3, .var 3), (4, .var 4), (8, .var 8), (9, .var 9), (10, .var 10), (11, .var 11), (12, .var 12), (13, .var 13), (14, .var 14), (15, .var 15), (16, .var 16), (17, .var 17), (18, .var 18), (1, .var 1), (8, .var 8), (9, .var 9), (10, .var 10), (20, .var 20), (11, .var 11), (12, .var 12), (13, .var 13), (22, .lit (.i 0)), (2, .var 2), (3, .var 3), (4, .var 4), (5, .var 5), (6, .var 6), (7, .var 7), (8, .var 8), (9, .var 9), (10, .var 10), (11, .var 11), (12, .var 12), (13, .var 13), (14, .var 14), (15, .var 15), (16, .var 16), (17, .var 17), (8, .var 8), (9, .var 9), (10, .var 10), (19, .var 19), (23, .lit .nil)], id := [(0, 0), (1, 1), (2, 2), (3, 3), (4, 4), (5, 5), (6, 6), (7, 7), (8, 8), (9, 11), (10, 19), (11, 20), (12, 21), (13, 22), (4, 4), (0, 0), (5, 5), (6, 6), (2, 2), (2, 2), (2, 2), (4, 4), (4, 4), (14, 9), (15, 10), (7, 7), (7, 7), (7, 7), (16, 12), (8, 8)] } (.br (.o2 .lt (.var 22) (.o1 .len (.var 19))) (.need [.o2 .le (.lit (.i 0)) (.var 22), .o2 .lt (.var 22) (.o1 .len (.var 19))] (.join (.br tm_q15 (.need [.o2 .le (.o2 .pl (.o1 .len (.var 23)) (.lit (.i 1))) (.lit (.i 4398046511104))] .met) .met) (.lit (.b true)) (.back 1 { n := 22, x := [(0, .var 0), (1, .var 1), (2, .var 2), (3, .var 3), (4, .var 4), (5, .var 5), (6, .var 6), (7, .var 7), (8, .var 8), (9, .var 9), (10, .var 10), (11, .var 11), (12, .var 12), (13, .var 13), (14, .var 14), (15, .var 15), (16, .var 16), (17, .var 17), (18, .var 18), (0, .var 0), (2, .var 2), (3, .var 3), (4, .var 4), (8, .var 8), (9, .var 9), (10, .var 10), (11, .var 11), (12, .var 12), (13, .var 13), (14, .var 14), (15, .var 15), (16, .var 16), (17, .var 17), (18, .var 18), (1, .var 1), (8, .var 8), (9, .var 9), (10, .var 10), (20, .var 20), (11, .var 11), (12, .var 12), (13, .var 13), (22, .o2 (.add .i64) (.var 22) (.lit (.i 1))), (2, .var 2), (3, .var 3), (4, .var 4), (5, .var 5), (6, .var 6), (7, .var 7), (8, .var 8), (9, .var 9), (10, .var 10), (11, .var 11), (12, .var 12), (13, .var 13), (14, .var 14), (15, .var 15), (16, .var 16), (17, .var 17), (8, .var 8), (9, .var 9), (10, .var 10), (19, .var 19), (23, .o3 .ite tm_q15 (.o2 .app (.var 23) (.o2 .cons (.o2 .cons (.o2 .get (.o2 .get (.var 19) (.var 22)) (.lit (.i 0))) (.o2 .cons (.o2 .get (.o2 .get (.var 19) (.var 22)) (.lit (.i 1))) (.o2 .cons (.o2 .get (.o2 .get (.var 19) (.var 22)) (.lit (.i 2))) (.o2 .cons (.o2 .get (.o2 .get (.var 19) (.var 22)) (.lit (.i 3))) (.lit .nil))))) (.lit .nil))) (.var 23))], id := [(0, 0), (1, 1), (2, 2), (3, 3), (4, 4), (5, 5), (6, 6), (7, 7), (8, 8), (9, 9), (10, 10), (11, 11), (12, 12), (13, 13), (4, 4), (0, 0), (5, 5), (6, 6), (2, 2), (2, 2), (2, 2), (4, 4), (4, 4), (14, 17), (15, 18), (7, 7), (7, 7), (7, 7), (16, 19), (8, 8)] }))) (.need [.o2 .le (.o1 .len (.var 23)) (.lit (.i 2000000))] (.need [.o2 .le (.o1 .len (.var 23)) (.lit (.i 2000000))] (.need [.o2 .le (.o1 .len (.o2 .get (.fn 40 (.o2 .app tm_q14 (.o2 .cons (.var 23) (.lit .nil)))) (.lit (.i 0)))) (.lit (.i 2000000))] (.need [.o2 .le (.o1 .len (.var 19)) (.lit (.i 2000000))] (.need [.o2 .le (.o1 .len (.var 19)) (.lit (.i 2000000))] (.need [.o2 .le (.o1 .len (.o2 .get (.fn 40 (.o2 .app tm_q14 (.o2 .cons (.var 19) (.lit .nil)))) (.lit (.i 0)))) (.lit (.i 2000000))] (.need [.o2 .le (.o1 .len (.o2 .get (.fn 40 (.o2 .app tm_q14 (.lit (.cons .nil .nil)))) (.lit (.i 0)))) (.lit (.i 2000000))] (.back 0 { n := 20, x := [(0, .var 0), (1, .var 1), (2, .var 2), (3, .var 3), (4, .var 4), (5, .var 5), (6, .var 6), (7, .var 7), (8, .var 8), (9, .var 9), (10, .var 10), (11, .var 11), (12, .var 12), (13, .var 13), (14, .var 14), (15, .var 15), (16, .var 16), (17, .var 17), (18, .var 18), (0, .var 0), (2, .var 2), (3, .var 3), (4, .var 4), (8, .var 8), (9, .var 9), (10, .var 10), (11, .var 11), (12, .var 12), (13, .var 13), (14, .var 14), (15, .var 15), (16, .var 16), (17, .var 17), (18, .var 18), (1, .var 1), (8, .var 8), (9, .var 9), (10, .var 10), (20, .o2 (.add .i64) (.var 20) (.lit (.i 1))), (2, .var 2), (3, .var 3), (4, .var 4), (5, .var 5), (6, .var 6), (7, .var 7), (8, .var 8), (9, .var 9), (10, .var 10), (11, .var 11), (12, .var 12), (13, .var 13), (14, .var 14), (15, .var 15), (16, .var 16), (17, .var 17), (8, .var 8), (9, .var 9), (10, .var 10), (19, .var 19)], id := [(0, 0), (1, 1), (2, 2), (3, 3), (4, 4), (5, 5), (6, 6), (7, 7), (8, 8), (4, 4), (0, 0), (5, 5), (6, 6), (2, 2), (2, 2), (2, 2), (4, 4), (4, 4), (9, 14), (10, 15)] })))))))))))) (.fin []))))))
theorem mapL_len' {f : D → D} : ∀ l : D, (mapL f l).len = l.len
  | .cons p t => by show (mapL f t).len + 1 = t.len + 1; rw [mapL_len' t]
  | .nil | .i _ | .b _ => rfl
theorem cell_len {T : Tab} (h40 : T 40 = cellD) (f l : D) : (((T 40 (D.app (D.seg 13 f 0) (.cons l .nil))).get 0).len : Int) ≤ (l.len : Int) := by
  rw [h40]
  show ((D.get (if _ = true then D.cons (mapL _ l) _ else _) 0).len : Int) ≤ _
  split
  · show ((mapL _ l).len : Int) ≤ _
    rw [mapL_len']; exact Int.le_refl _
  · show ((0 : Nat) : Int) ≤ _
    exact Int.natCast_nonneg _
set_option maxRecDepth 100000 in
theorem moves_sat {T : Tab} (hF : Fs.ok F23 T) (η : Env) (h0 : ((η.d 0).len : Int) ≤ 9223372036854775807) (h1 : ((T 50 (η.d 1)).bool) = true) : tmTree.sat T LF (fun _ _ _ => False) η := by
  have h40 : T 40 = cellD := hF.tail.tail.tail.tail.top
  have h50 : T 50 = innD := hF.top
  rw [h50] at h1
  have h1 : okL (fun x => decide (((x.get 0).len : Int) ≤ 9223372036854775807)) (η.d 1) = true := h1
  refine ⟨need_le h0, fun η' => ∃ k : Nat, η'.d 18 = .i (k : Int) ∧ k ≤ 4 ∧ (η'.d 19).len ≤ 1 + 2 * k, fun η' => 4 - (η'.d 18).int.toNat, ⟨0, rfl, by omega, Nat.le_refl 1⟩, fun η0 ag0 ⟨k, hk, k4, hl⟩ => ⟨⟨fun _ => trivial, fun _ => trivial⟩, fun _ => ⟨fun c => ?_, fun c => ?_⟩⟩⟩
  · have c : (decide ((η0.d 18).int < ((η0.d 1).len : Int)) && decide ((η0.d 18).int < (4 : Int))) = true := c
    rw [Bool.and_eq_true, decide_eq_true_eq, decide_eq_true_eq, hk] at c
    have ca : (k : Int) < ((η0.d 1).len : Int) := c.1
    have cb : (k : Int) < 4 := c.2
    have e1 := ag0.d 1 (by omega)
    have in1 : ∀ x ∈ [X.o2 .le (.lit (.i 0)) (.var 18), .o2 .lt (.var 18) (.o1 .len (.var 1))], (x.d T η0).bool = true := fun x hx => by
      simp only [List.mem_cons, List.not_mem_nil, or_false] at hx
      rcases hx with rfl | rfl
      · exact decide_eq_true (show (0 : Int) ≤ (η0.d 18).int by rw [hk]; exact Int.natCast_nonneg k)
      · exact decide_eq_true (show (η0.d 18).int < ((η0.d 1).len : Int) by rw [hk]; exact ca)
    refine ⟨in1, need_le ?_, need_le ?_, ?_⟩
    · show ((((η0.d 1).get (η0.d 18).int.toNat).get 0).len : Int) ≤ 9223372036854775807
      rw [hk, e1]
      rw [e1] at ca
      rcases Bool.eq_false_or_eq_true (decide (((((η.d 1).get k).get 0).len : Int) ≤ 9223372036854775807)) with h | h
      · exact of_decide_eq_true h
      · rw [okL_get (ok := fun x => decide (((x.get 0).len : Int) ≤ 9223372036854775807)) (l := η.d 1) (k := k) (by omega) h] at h1
        cases h1
    · show ((η0.d 19).len : Int) + 2 ≤ 4398046511104
      omega
    · refine ⟨⟨k + 1, ?_, by omega, ?_⟩, ?_⟩
      · show D.i (IntKind.i64.wrap ((η0.d 18).int + 1)) = _
        rw [hk]
        show D.i (IntKind.i64.wrap ((k : Int) + 1)) = _
        rw [w64 (by omega) (by omega)]; rfl
      · show (D.app (η0.d 19) (.cons _ (.cons _ .nil))).len ≤ _
        rw [len_app]
        show (η0.d 19).len + 2 ≤ _
        omega
      · show 4 - (D.i (IntKind.i64.wrap ((η0.d 18).int + 1))).int.toNat < 4 - (η0.d 18).int.toNat
        rw [hk]
        show 4 - (IntKind.i64.wrap ((k : Int) + 1)).toNat < 4 - (k : Int).toNat
        rw [w64 (by omega) (by omega)]; omega
  · refine count_loop 3 (fun _ _ => True) rfl trivial (fun m η1 hm ag1 i1 _ => ?_) (fun η1 b ag1 i1 _ => nofun)
    have l19 : (η1.d 19).len ≤ 9 := by
      rw [ag1.d 19 (by omega)]
      omega
    have nd : ∀ x ∈ [X.o2 .le (.lit (.i 0)) (.var 20), .o2 .lt (.var 20) (.lit (.i 3))], (x.d T η1).bool = true := need_idx (x := .var 20) (by show (0 : Int) ≤ (η1.d 20).int; rw [i1]; exact Int.natCast_nonneg m) (by show (η1.d 20).int < 3; rw [i1]; show (m : Int) < 3; omega)
    refine ⟨nd, nd, len_loop (η1.d 19).len (fun j η2 => (η2.d 23).len ≤ j) rfl (Nat.le_refl 0) (fun η2 ag2 => ?_) (fun j η2 hj ag2 i2 j2 => ?_) (fun η2 b2 ag2 i2 j2 => ?_)⟩
    · show ((η2.d 19).len : Int) = _
      rw [ag2.d 19 (by omega)]
    · have e19 := ag2.d 19 (by omega)
      have in2 : ∀ x ∈ [X.o2 .le (.lit (.i 0)) (.var 22), .o2 .lt (.var 22) (.o1 .len (.var 19))], (x.d T η2).bool = true := fun x hx => by
        simp only [List.mem_cons, List.not_mem_nil, or_false] at hx
        rcases hx with rfl | rfl
        · exact decide_eq_true (show (0 : Int) ≤ (η2.d 22).int by rw [i2]; exact Int.natCast_nonneg j)
        · exact decide_eq_true (show (η2.d 22).int < ((η2.d 19).len : Int) by rw [i2, e19]; exact Int.ofNat_lt.2 hj)
      refine ⟨in2, ⟨fun _ => ⟨need_le ?_, trivial⟩, fun _ => trivial⟩, fun _ => ⟨?_, ?_⟩⟩
      · show ((η2.d 23).len : Int) + 1 ≤ 4398046511104
        omega
      · show D.i (IntKind.i64.wrap ((η2.d 22).int + 1)) = _
        rw [i2]
        show D.i (IntKind.i64.wrap ((j : Int) + 1)) = _
        rw [w64 (by omega) (by omega)]; rfl
      · show (if _ = true then (η2.d 23).app (.cons _ .nil) else η2.d 23).len ≤ _
        split
        · rw [len_app]
          show (η2.d 23).len + 1 ≤ _
          omega
        · omega
    · have e19 := ag2.d 19 (by omega)
      have l23 : ((η2.d 23).len : Int) ≤ 2000000 := by omega
      have l19' : ((η2.d 19).len : Int) ≤ 2000000 := by rw [e19]; omega
      refine ⟨need_le l23, need_le l23, need_le (Int.le_trans (cell_len h40 _ _) l23), need_le l19', need_le l19', need_le (Int.le_trans (cell_len h40 _ _) l19'), need_le (Int.le_trans (cell_len h40 _ .nil) (show ((D.nil.len : Nat) : Int) ≤ 2000000 by decide)), ?_, trivial⟩
      show D.i (IntKind.i64.wrap ((η2.d 20).int + 1)) = _
      rw [ag2.d 20 (by omega), i1]
      show D.i (IntKind.i64.wrap ((m : Int) + 1)) = _
      rw [w64 (by omega) (by omega)]; rfl
end Go.Proofs.Ytjeenfnfkndgaaa
