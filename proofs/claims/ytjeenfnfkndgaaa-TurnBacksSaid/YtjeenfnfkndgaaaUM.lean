/- TurnBacks. -/
import Derived.Test.YtjeenfnfkndgaaaZZ
import Derived.Test.YtjeenfnfkndgaaaUZ
import Derived.Test.YtjeenfnfkndgaaaRows
namespace Go.Proofs.Ytjeenfnfkndgaaa
open Go Go.Sz Go.RowKit

noncomputable def l11_TurnBacks_q0 : X := .o2 .get (.fn 24 (.o2 .cons (.var 0) (.lit .nil))) (.lit (.i 9))
noncomputable def l11_TurnBacks_q1 : X := .o2 (.mul .i64) l11_TurnBacks_q0 (.o2 .get (.fn 24 (.o2 .cons (.var 1) (.lit .nil))) (.lit (.i 9)))
noncomputable def l11_TurnBacks_q2 : X := .o2 (.mul .i64) (.o2 (.quo .i64) (.o2 (.sub .i64) (.o2 .rem (.o2 (.add .i64) (.o2 .rem (.var 2) (.lit (.i 9))) (.lit (.i 9))) (.lit (.i 9))) (.lit (.i 4))) l11_TurnBacks_q1) l11_TurnBacks_q1
noncomputable def l11_TurnBacks_q3 : X := .o2 (.mul .i64) (.o2 (.quo .i64) (.o2 (.sub .i64) (.o2 .rem (.o2 (.add .i64) (.o2 .rem (.var 3) (.lit (.i 9))) (.lit (.i 9))) (.lit (.i 9))) (.lit (.i 4))) l11_TurnBacks_q1) l11_TurnBacks_q1
noncomputable def l11_TurnBacks_q4 : X := .o2 (.mul .i64) (.o2 (.quo .i64) (.o2 (.sub .i64) (.o2 .rem (.o2 (.add .i64) (.o2 .rem (.var 4) (.lit (.i 9))) (.lit (.i 9))) (.lit (.i 9))) (.lit (.i 4))) l11_TurnBacks_q1) l11_TurnBacks_q1
noncomputable def l11_TurnBacks_q5 : X := .o2 .cons l11_TurnBacks_q2 (.o2 .cons l11_TurnBacks_q3 (.o2 .cons l11_TurnBacks_q4 (.lit .nil)))
noncomputable def l11_TurnBacks_q6 : X := .fn 8 (.o2 .app (.o1 (.seg 13) (.fn 24 (.o2 .cons (.var 0) (.lit .nil)))) l11_TurnBacks_q5)
noncomputable def l11_TurnBacks_q7 : X := .fn 10 (.o1 (.seg 13) (.fn 24 (.o2 .cons (.var 0) (.lit .nil))))
noncomputable def l11_TurnBacks_q8 : X := .fn 8 (.o2 .app (.o1 (.seg 13) l11_TurnBacks_q7) (.o1 (.seg 3) l11_TurnBacks_q6))
noncomputable def l11_TurnBacks_q9 : X := .fn 11 (.o2 .app (.o1 (.seg 13) (.fn 24 (.o2 .cons (.var 0) (.lit .nil)))) (.o1 (.seg 13) l11_TurnBacks_q7))
noncomputable def l11_TurnBacks_q10 : X := .fn 8 (.o2 .app (.o1 (.seg 13) l11_TurnBacks_q9) l11_TurnBacks_q5)
noncomputable def l11_TurnBacks_q11 : X := .fn 11 (.o2 .app (.o1 (.seg 13) (.fn 24 (.o2 .cons (.var 0) (.lit .nil)))) (.o1 (.seg 13) (.fn 24 (.o2 .cons (.var 1) (.lit .nil)))))
noncomputable def l11_TurnBacks_q12 : X := .fn 8 (.o2 .app (.o1 (.seg 13) (.fn 24 (.o2 .cons (.var 1) (.lit .nil)))) (.o1 (.seg 3) l11_TurnBacks_q6))
noncomputable def l11_TurnBacks_q13 : X := .o2 .and (.o2 .get l11_TurnBacks_q11 (.lit (.i 13))) (.o2 .get l11_TurnBacks_q12 (.lit (.i 3)))
noncomputable def l11_TurnBacks_q14 : X := .fn 8 (.o2 .app (.o1 (.seg 13) l11_TurnBacks_q11) l11_TurnBacks_q5)
noncomputable def l11_TurnBacks_q15 : X := .o2 .or (.o2 .lt (.lit (.i 1)) l11_TurnBacks_q1) l11_TurnBacks_q13
noncomputable def l11_TurnBacks_k : Con := { f := 6, pat := [.v (.agg [.lst (.cons (.int .i64) .nil) (.var 0), .lst (.cons (.int .i64) .nil) (.var 1)]), .v (.agg [.int .i64 (.var 2), .int .i64 (.var 3), .int .i64 (.var 4)])], need := [.o2 .le (.o1 .len (.var 0)) (.lit (.i 9223372036854775807)), .o2 .le (.o1 .len (.var 1)) (.lit (.i 9223372036854775807)), .o1 .not (.o2 .eq l11_TurnBacks_q1 (.lit (.i 0)))], res := .v (.one (.bool (.o2 .and (.o1 .not (.o1 .not (.o2 .get l11_TurnBacks_q6 (.lit (.i 3))))) (.o2 .and (.o1 .not (.o2 .and (.o2 .get l11_TurnBacks_q7 (.lit (.i 13))) (.o2 .or (.o1 .not (.o2 .get l11_TurnBacks_q8 (.lit (.i 3)))) (.o2 .or (.o1 .not (.o2 .and (.o2 .eq (.o2 .get l11_TurnBacks_q8 (.lit (.i 0))) l11_TurnBacks_q2) (.o2 .and (.o2 .eq (.o2 .get l11_TurnBacks_q8 (.lit (.i 1))) l11_TurnBacks_q3) (.o2 .eq (.o2 .get l11_TurnBacks_q8 (.lit (.i 2))) l11_TurnBacks_q4)))) (.o2 .or (.o1 .not (.o2 .get (.fn 10 (.o1 (.seg 13) l11_TurnBacks_q7)) (.lit (.i 13)))) (.o2 .or (.o1 .not (.o2 .and (.o2 .eq (.o2 .get (.fn 10 (.o1 (.seg 13) l11_TurnBacks_q7)) (.lit (.i 0))) (.o2 .get (.fn 24 (.o2 .cons (.var 0) (.lit .nil))) (.lit (.i 0)))) (.o2 .and (.o2 .eq (.o2 .get (.fn 10 (.o1 (.seg 13) l11_TurnBacks_q7)) (.lit (.i 1))) (.o2 .get (.fn 24 (.o2 .cons (.var 0) (.lit .nil))) (.lit (.i 1)))) (.o2 .and (.o2 .eq (.o2 .get (.fn 10 (.o1 (.seg 13) l11_TurnBacks_q7)) (.lit (.i 2))) (.o2 .get (.fn 24 (.o2 .cons (.var 0) (.lit .nil))) (.lit (.i 2)))) (.o2 .and (.o2 .eq (.o2 .get (.fn 10 (.o1 (.seg 13) l11_TurnBacks_q7)) (.lit (.i 3))) (.o2 .get (.fn 24 (.o2 .cons (.var 0) (.lit .nil))) (.lit (.i 3)))) (.o2 .and (.o2 .eq (.o2 .get (.fn 10 (.o1 (.seg 13) l11_TurnBacks_q7)) (.lit (.i 4))) (.o2 .get (.fn 24 (.o2 .cons (.var 0) (.lit .nil))) (.lit (.i 4)))) (.o2 .and (.o2 .eq (.o2 .get (.fn 10 (.o1 (.seg 13) l11_TurnBacks_q7)) (.lit (.i 5))) (.o2 .get (.fn 24 (.o2 .cons (.var 0) (.lit .nil))) (.lit (.i 5)))) (.o2 .and (.o2 .eq (.o2 .get (.fn 10 (.o1 (.seg 13) l11_TurnBacks_q7)) (.lit (.i 6))) (.o2 .get (.fn 24 (.o2 .cons (.var 0) (.lit .nil))) (.lit (.i 6)))) (.o2 .and (.o2 .eq (.o2 .get (.fn 10 (.o1 (.seg 13) l11_TurnBacks_q7)) (.lit (.i 7))) (.o2 .get (.fn 24 (.o2 .cons (.var 0) (.lit .nil))) (.lit (.i 7)))) (.o2 .and (.o2 .eq (.o2 .get (.fn 10 (.o1 (.seg 13) l11_TurnBacks_q7)) (.lit (.i 8))) (.o2 .get (.fn 24 (.o2 .cons (.var 0) (.lit .nil))) (.lit (.i 8)))) (.o2 .and (.o2 .eq (.o2 .get (.fn 10 (.o1 (.seg 13) l11_TurnBacks_q7)) (.lit (.i 9))) l11_TurnBacks_q0) (.o2 .and (.o2 .eq (.o2 .get (.fn 10 (.o1 (.seg 13) l11_TurnBacks_q7)) (.lit (.i 10))) (.o2 .get (.fn 24 (.o2 .cons (.var 0) (.lit .nil))) (.lit (.i 10)))) (.o2 .and (.o2 .eq (.o2 .get (.fn 10 (.o1 (.seg 13) l11_TurnBacks_q7)) (.lit (.i 11))) (.o2 .get (.fn 24 (.o2 .cons (.var 0) (.lit .nil))) (.lit (.i 11)))) (.o2 .eq (.o2 .get (.fn 10 (.o1 (.seg 13) l11_TurnBacks_q7)) (.lit (.i 12))) (.o2 .get (.fn 24 (.o2 .cons (.var 0) (.lit .nil))) (.lit (.i 12))))))))))))))))) (.o2 .or (.o1 .not (.o2 .get l11_TurnBacks_q9 (.lit (.i 13)))) (.o2 .or (.o1 .not (.o2 .get l11_TurnBacks_q10 (.lit (.i 3)))) (.o1 .not (.o2 .and (.o2 .eq (.o2 .get l11_TurnBacks_q10 (.lit (.i 0))) l11_TurnBacks_q2) (.o2 .and (.o2 .eq (.o2 .get l11_TurnBacks_q10 (.lit (.i 1))) l11_TurnBacks_q3) (.o2 .eq (.o2 .get l11_TurnBacks_q10 (.lit (.i 2))) l11_TurnBacks_q4)))))))))))) (.o2 .and (.o1 .not (.o2 .and l11_TurnBacks_q13 (.o2 .or (.o1 .not (.o2 .get l11_TurnBacks_q14 (.lit (.i 3)))) (.o1 .not (.o2 .and (.o2 .eq (.o2 .get l11_TurnBacks_q14 (.lit (.i 0))) (.o2 .get l11_TurnBacks_q12 (.lit (.i 0)))) (.o2 .and (.o2 .eq (.o2 .get l11_TurnBacks_q14 (.lit (.i 1))) (.o2 .get l11_TurnBacks_q12 (.lit (.i 1)))) (.o2 .eq (.o2 .get l11_TurnBacks_q14 (.lit (.i 2))) (.o2 .get l11_TurnBacks_q12 (.lit (.i 2)))))))))) (.o3 .ite (.o2 .lt (.lit (.i 1)) l11_TurnBacks_q0) l11_TurnBacks_q15 (.o2 .and (.o2 .get l11_TurnBacks_q7 (.lit (.i 13))) l11_TurnBacks_q15))))))) }
theorem l11_TurnBacks_c {T : Tab} (hF : Fs.ok F17 T) : l11_TurnBacks_k.Ok Try.prog T :=
  con_auto (K := [l11_sanity_k, r11_Frames_w_n_k, r01_Mod_w_k, l11_vec_k, turn_Apply_w_n_k, turn_Back_w_n_k, turn_After_w_n_k]) (nb := 5) (fuel := 110) (sym := []) mixed_ hF (conCons (l11_sanity_c hF.tail.tail.tail.tail) (conCons (r11_Frames_w_n_c hF) (conCons (r01_Mod_w_c hF.tail.tail.tail.tail) (conCons (l11_vec_c hF.tail.tail.tail.tail) (conCons (turn_Apply_w_n_c hF.tail.tail.tail.tail.tail.tail.tail.tail) (conCons (turn_Back_w_n_c hF.tail.tail.tail.tail.tail.tail.tail) (conCons (turn_After_w_n_c hF.tail.tail.tail.tail.tail.tail) conNil))))))) (by kernel_rfl)
theorem pt_b {n B : Int} (n0 : -4 ≤ n) (n1 : n ≤ 4) (_h0 : 1 ≤ B) (_h1 : B ≤ 625) : IntKind.i64.wrap (IntKind.i64.wrap (n.tdiv B) * B) = B * n.tdiv B ∧ -4 ≤ B * n.tdiv B ∧ B * n.tdiv B ≤ 4 := by
  have hb : (n.tdiv B).natAbs ≤ n.natAbs := by rw [Int.natAbs_tdiv]; exact Nat.div_le_self _ _
  have hm : (n.tdiv B * B).natAbs ≤ n.natAbs := by
    rw [Int.natAbs_mul, Int.natAbs_tdiv]; exact Nat.div_mul_le_self _ _
  rw [w64 (n := n.tdiv B) (by omega) (by omega), w64 (by omega) (by omega), Int.mul_comm]
  rw [Int.mul_comm] at hm
  exact ⟨rfl, by omega, by omega⟩
theorem mod9 (x : Int) : -4 ≤ IntKind.i64.wrap ((IntKind.i64.wrap (x.tmod 9 + 9)).tmod 9 - 4) ∧ IntKind.i64.wrap ((IntKind.i64.wrap (x.tmod 9 + 9)).tmod 9 - 4) ≤ 4 := by
  have := mod_b x (n := 9) (by decide) (by decide)
  rw [w64 (by omega) (by omega)]; omega
theorem made_d {T : Tab} (hF : Fs.ok F17 T) (L : D) : 1 ≤ ((T 24 (.cons L .nil)).get 9).int ∧ ((T 24 (.cons L .nil)).get 9).int ≤ 25 := ⟨(frame_b hF.tail.tail.tail.tail.tail.tail.tail.tail.tail (made_v hF L)).1, (frame_b hF.tail.tail.tail.tail.tail.tail.tail.tail.tail (made_v hF L)).2.1⟩
noncomputable def l11_TurnBacks_w_k : Con := { l11_TurnBacks_k with need := [.o2 .le (.o1 .len (.var 0)) (.lit (.i 9223372036854775807)), .o2 .le (.o1 .len (.var 1)) (.lit (.i 9223372036854775807))] }
theorem l11_TurnBacks_w_c {T : Tab} (hF : Fs.ok F17 T) : l11_TurnBacks_w_k.Ok Try.prog T :=
  con_need (l11_TurnBacks_c hF) [.o2 .le (.o1 .len (.var 0)) (.lit (.i 9223372036854775807)), .o2 .le (.o1 .len (.var 1)) (.lit (.i 9223372036854775807))] fun η hn => by
    have n0 := hn _ (.head _)
    have n1 := hn _ (.tail _ (.head _))
    have df := made_d hF (η.d 0)
    have dg := made_d hF (η.d 1)
    have q := den_in df.1 df.2 dg.1 dg.2
    intro x hx
    simp only [l11_TurnBacks_k, List.mem_cons, List.not_mem_nil, or_false] at hx
    rcases hx with rfl | rfl | rfl
    · exact n0
    · exact n1
    · simp only [l11_TurnBacks_q0, l11_TurnBacks_q1, X.d, den1, den_mul, den_eq, den_cons, den_get, int_i, bool_b, not_t, eq_f, tn_9]
      rw [q.1]; omega
noncomputable def l11_TurnBacks_w_t_q0 : X := .o2 .get (.fn 24 (.o2 .cons (.var 0) (.lit .nil))) (.lit (.i 9))
noncomputable def l11_TurnBacks_w_t_q1 : X := .o2 (.mul .i64) l11_TurnBacks_w_t_q0 (.o2 .get (.fn 24 (.o2 .cons (.var 1) (.lit .nil))) (.lit (.i 9)))
noncomputable def l11_TurnBacks_w_t_q2 : X := .o2 (.mul .i64) (.o2 (.quo .i64) (.o2 (.sub .i64) (.o2 .rem (.o2 (.add .i64) (.o2 .rem (.var 2) (.lit (.i 9))) (.lit (.i 9))) (.lit (.i 9))) (.lit (.i 4))) l11_TurnBacks_w_t_q1) l11_TurnBacks_w_t_q1
noncomputable def l11_TurnBacks_w_t_q3 : X := .o2 (.mul .i64) (.o2 (.quo .i64) (.o2 (.sub .i64) (.o2 .rem (.o2 (.add .i64) (.o2 .rem (.var 3) (.lit (.i 9))) (.lit (.i 9))) (.lit (.i 9))) (.lit (.i 4))) l11_TurnBacks_w_t_q1) l11_TurnBacks_w_t_q1
noncomputable def l11_TurnBacks_w_t_q4 : X := .o2 (.mul .i64) (.o2 (.quo .i64) (.o2 (.sub .i64) (.o2 .rem (.o2 (.add .i64) (.o2 .rem (.var 4) (.lit (.i 9))) (.lit (.i 9))) (.lit (.i 9))) (.lit (.i 4))) l11_TurnBacks_w_t_q1) l11_TurnBacks_w_t_q1
noncomputable def l11_TurnBacks_w_t_q5 : X := .o2 .cons l11_TurnBacks_w_t_q2 (.o2 .cons l11_TurnBacks_w_t_q3 (.o2 .cons l11_TurnBacks_w_t_q4 (.lit .nil)))
noncomputable def l11_TurnBacks_w_t_q6 : X := .fn 8 (.o2 .app (.o1 (.seg 13) (.fn 24 (.o2 .cons (.var 0) (.lit .nil)))) l11_TurnBacks_w_t_q5)
noncomputable def l11_TurnBacks_w_t_q7 : X := .fn 10 (.o1 (.seg 13) (.fn 24 (.o2 .cons (.var 0) (.lit .nil))))
noncomputable def l11_TurnBacks_w_t_q8 : X := .fn 8 (.o2 .app (.o1 (.seg 13) l11_TurnBacks_w_t_q7) (.o1 (.seg 3) l11_TurnBacks_w_t_q6))
noncomputable def l11_TurnBacks_w_t_q9 : X := .fn 11 (.o2 .app (.o1 (.seg 13) (.fn 24 (.o2 .cons (.var 0) (.lit .nil)))) (.o1 (.seg 13) l11_TurnBacks_w_t_q7))
noncomputable def l11_TurnBacks_w_t_q10 : X := .fn 8 (.o2 .app (.o1 (.seg 13) l11_TurnBacks_w_t_q9) l11_TurnBacks_w_t_q5)
noncomputable def l11_TurnBacks_w_t_q11 : X := .fn 11 (.o2 .app (.o1 (.seg 13) (.fn 24 (.o2 .cons (.var 0) (.lit .nil)))) (.o1 (.seg 13) (.fn 24 (.o2 .cons (.var 1) (.lit .nil)))))
noncomputable def l11_TurnBacks_w_t_q12 : X := .fn 8 (.o2 .app (.o1 (.seg 13) (.fn 24 (.o2 .cons (.var 1) (.lit .nil)))) (.o1 (.seg 3) l11_TurnBacks_w_t_q6))
noncomputable def l11_TurnBacks_w_t_q13 : X := .o2 .and (.o2 .get l11_TurnBacks_w_t_q11 (.lit (.i 13))) (.o2 .get l11_TurnBacks_w_t_q12 (.lit (.i 3)))
noncomputable def l11_TurnBacks_w_t_q14 : X := .fn 8 (.o2 .app (.o1 (.seg 13) l11_TurnBacks_w_t_q11) l11_TurnBacks_w_t_q5)
noncomputable def l11_TurnBacks_w_t_q15 : X := .o2 .or (.o2 .lt (.lit (.i 1)) l11_TurnBacks_w_t_q1) l11_TurnBacks_w_t_q13
noncomputable def l11_TurnBacks_w_t_x : List X := [.o2 .and (.o1 .not (.o1 .not (.o2 .get l11_TurnBacks_w_t_q6 (.lit (.i 3))))) (.o2 .and (.o1 .not (.o2 .and (.o2 .get l11_TurnBacks_w_t_q7 (.lit (.i 13))) (.o2 .or (.o1 .not (.o2 .get l11_TurnBacks_w_t_q8 (.lit (.i 3)))) (.o2 .or (.o1 .not (.o2 .and (.o2 .eq (.o2 .get l11_TurnBacks_w_t_q8 (.lit (.i 0))) l11_TurnBacks_w_t_q2) (.o2 .and (.o2 .eq (.o2 .get l11_TurnBacks_w_t_q8 (.lit (.i 1))) l11_TurnBacks_w_t_q3) (.o2 .eq (.o2 .get l11_TurnBacks_w_t_q8 (.lit (.i 2))) l11_TurnBacks_w_t_q4)))) (.o2 .or (.o1 .not (.o2 .get (.fn 10 (.o1 (.seg 13) l11_TurnBacks_w_t_q7)) (.lit (.i 13)))) (.o2 .or (.o1 .not (.o2 .and (.o2 .eq (.o2 .get (.fn 10 (.o1 (.seg 13) l11_TurnBacks_w_t_q7)) (.lit (.i 0))) (.o2 .get (.fn 24 (.o2 .cons (.var 0) (.lit .nil))) (.lit (.i 0)))) (.o2 .and (.o2 .eq (.o2 .get (.fn 10 (.o1 (.seg 13) l11_TurnBacks_w_t_q7)) (.lit (.i 1))) (.o2 .get (.fn 24 (.o2 .cons (.var 0) (.lit .nil))) (.lit (.i 1)))) (.o2 .and (.o2 .eq (.o2 .get (.fn 10 (.o1 (.seg 13) l11_TurnBacks_w_t_q7)) (.lit (.i 2))) (.o2 .get (.fn 24 (.o2 .cons (.var 0) (.lit .nil))) (.lit (.i 2)))) (.o2 .and (.o2 .eq (.o2 .get (.fn 10 (.o1 (.seg 13) l11_TurnBacks_w_t_q7)) (.lit (.i 3))) (.o2 .get (.fn 24 (.o2 .cons (.var 0) (.lit .nil))) (.lit (.i 3)))) (.o2 .and (.o2 .eq (.o2 .get (.fn 10 (.o1 (.seg 13) l11_TurnBacks_w_t_q7)) (.lit (.i 4))) (.o2 .get (.fn 24 (.o2 .cons (.var 0) (.lit .nil))) (.lit (.i 4)))) (.o2 .and (.o2 .eq (.o2 .get (.fn 10 (.o1 (.seg 13) l11_TurnBacks_w_t_q7)) (.lit (.i 5))) (.o2 .get (.fn 24 (.o2 .cons (.var 0) (.lit .nil))) (.lit (.i 5)))) (.o2 .and (.o2 .eq (.o2 .get (.fn 10 (.o1 (.seg 13) l11_TurnBacks_w_t_q7)) (.lit (.i 6))) (.o2 .get (.fn 24 (.o2 .cons (.var 0) (.lit .nil))) (.lit (.i 6)))) (.o2 .and (.o2 .eq (.o2 .get (.fn 10 (.o1 (.seg 13) l11_TurnBacks_w_t_q7)) (.lit (.i 7))) (.o2 .get (.fn 24 (.o2 .cons (.var 0) (.lit .nil))) (.lit (.i 7)))) (.o2 .and (.o2 .eq (.o2 .get (.fn 10 (.o1 (.seg 13) l11_TurnBacks_w_t_q7)) (.lit (.i 8))) (.o2 .get (.fn 24 (.o2 .cons (.var 0) (.lit .nil))) (.lit (.i 8)))) (.o2 .and (.o2 .eq (.o2 .get (.fn 10 (.o1 (.seg 13) l11_TurnBacks_w_t_q7)) (.lit (.i 9))) l11_TurnBacks_w_t_q0) (.o2 .and (.o2 .eq (.o2 .get (.fn 10 (.o1 (.seg 13) l11_TurnBacks_w_t_q7)) (.lit (.i 10))) (.o2 .get (.fn 24 (.o2 .cons (.var 0) (.lit .nil))) (.lit (.i 10)))) (.o2 .and (.o2 .eq (.o2 .get (.fn 10 (.o1 (.seg 13) l11_TurnBacks_w_t_q7)) (.lit (.i 11))) (.o2 .get (.fn 24 (.o2 .cons (.var 0) (.lit .nil))) (.lit (.i 11)))) (.o2 .eq (.o2 .get (.fn 10 (.o1 (.seg 13) l11_TurnBacks_w_t_q7)) (.lit (.i 12))) (.o2 .get (.fn 24 (.o2 .cons (.var 0) (.lit .nil))) (.lit (.i 12))))))))))))))))) (.o2 .or (.o1 .not (.o2 .get l11_TurnBacks_w_t_q9 (.lit (.i 13)))) (.o2 .or (.o1 .not (.o2 .get l11_TurnBacks_w_t_q10 (.lit (.i 3)))) (.o1 .not (.o2 .and (.o2 .eq (.o2 .get l11_TurnBacks_w_t_q10 (.lit (.i 0))) l11_TurnBacks_w_t_q2) (.o2 .and (.o2 .eq (.o2 .get l11_TurnBacks_w_t_q10 (.lit (.i 1))) l11_TurnBacks_w_t_q3) (.o2 .eq (.o2 .get l11_TurnBacks_w_t_q10 (.lit (.i 2))) l11_TurnBacks_w_t_q4)))))))))))) (.o2 .and (.o1 .not (.o2 .and l11_TurnBacks_w_t_q13 (.o2 .or (.o1 .not (.o2 .get l11_TurnBacks_w_t_q14 (.lit (.i 3)))) (.o1 .not (.o2 .and (.o2 .eq (.o2 .get l11_TurnBacks_w_t_q14 (.lit (.i 0))) (.o2 .get l11_TurnBacks_w_t_q12 (.lit (.i 0)))) (.o2 .and (.o2 .eq (.o2 .get l11_TurnBacks_w_t_q14 (.lit (.i 1))) (.o2 .get l11_TurnBacks_w_t_q12 (.lit (.i 1)))) (.o2 .eq (.o2 .get l11_TurnBacks_w_t_q14 (.lit (.i 2))) (.o2 .get l11_TurnBacks_w_t_q12 (.lit (.i 2)))))))))) (.o3 .ite (.o2 .lt (.lit (.i 1)) l11_TurnBacks_w_t_q0) l11_TurnBacks_w_t_q15 (.o2 .and (.o2 .get l11_TurnBacks_w_t_q7 (.lit (.i 13))) l11_TurnBacks_w_t_q15))))]
noncomputable def l11_TurnBacks_w_t_k : Con := { l11_TurnBacks_w_k with res := .v (.one (.bool (.lit (.b true)))) }
set_option maxRecDepth 100000 in
theorem l11_TurnBacks_w_t_c {T : Tab} (hF : Fs.ok F17 T) : l11_TurnBacks_w_t_k.Ok Try.prog T :=
  con_true (l11_TurnBacks_w_c hF) (xs := l11_TurnBacks_w_t_x) (by kernel_rfl) fun η hn => by
    intro x hx
    simp only [l11_TurnBacks_w_t_x, List.mem_singleton] at hx
    subst hx
    have df := made_d hF (η.d 0)
    have dg := made_d hF (η.d 1)
    have q := den_in df.1 df.2 dg.1 dg.2
    have hf := made_v hF (η.d 0)
    have hg := made_v hF (η.d 1)
    have fs := made_s hF (η.d 0)
    have gs := made_s hF (η.d 1)
    have o2' := one_two hF (η.d 0)
    have ob := fun (v : D) (t : Nat → Int) => one_both hF (η.d 0) (η.d 1) v (t := t)
    simp only [l11_TurnBacks_w_t_q0, l11_TurnBacks_w_t_q1, l11_TurnBacks_w_t_q2, l11_TurnBacks_w_t_q3, l11_TurnBacks_w_t_q4, l11_TurnBacks_w_t_q5, l11_TurnBacks_w_t_q6, l11_TurnBacks_w_t_q7, l11_TurnBacks_w_t_q8, l11_TurnBacks_w_t_q9, l11_TurnBacks_w_t_q10, l11_TurnBacks_w_t_q11, l11_TurnBacks_w_t_q12, l11_TurnBacks_w_t_q13, l11_TurnBacks_w_t_q14, l11_TurnBacks_w_t_q15, X.d, den1, den3, den_add, den_sub, den_mul, den_quo, den_rem, den_lt, den_eq, den_and, den_or, den_cons, den_get, den_app, int_i, bool_b, Int.toNat_zero, Int.toNat_one, q.1, tn_2, tn_3, tn_4, tn_5, tn_6, tn_7, tn_8, tn_9, tn_10, tn_11, tn_12, tn_13]
    have p2 := pt_b (mod9 (η.d 2).int).1 (mod9 (η.d 2).int).2 q.2.1 q.2.2
    have p3 := pt_b (mod9 (η.d 3).int).1 (mod9 (η.d 3).int).2 q.2.1 q.2.2
    have p4 := pt_b (mod9 (η.d 4).int).1 (mod9 (η.d 4).int).2 q.2.1 q.2.2
    generalize Int.tdiv (IntKind.i64.wrap ((IntKind.i64.wrap ((η.d 2).int.tmod 9 + 9)).tmod 9 - 4)) (((T 24 (.cons (η.d 0) .nil)).get 9).int * ((T 24 (.cons (η.d 1) .nil)).get 9).int) = t2 at p2
    generalize Int.tdiv (IntKind.i64.wrap ((IntKind.i64.wrap ((η.d 3).int.tmod 9 + 9)).tmod 9 - 4)) (((T 24 (.cons (η.d 0) .nil)).get 9).int * ((T 24 (.cons (η.d 1) .nil)).get 9).int) = t3 at p3
    generalize Int.tdiv (IntKind.i64.wrap ((IntKind.i64.wrap ((η.d 4).int.tmod 9 + 9)).tmod 9 - 4)) (((T 24 (.cons (η.d 0) .nil)).get 9).int * ((T 24 (.cons (η.d 1) .nil)).get 9).int) = t4 at p4
    simp only [p2.1, p3.1, p4.1]
    generalize T 24 (.cons (η.d 0) .nil) = f at *
    generalize T 24 (.cons (η.d 1) .nil) = g at *
    obtain ⟨v, hvd⟩ : ∃ v : D, v = .cons (.i ((f.get 9).int * (g.get 9).int * t2)) (.cons (.i ((f.get 9).int * (g.get 9).int * t3)) (.cons (.i ((f.get 9).int * (g.get 9).int * t4)) .nil)) := ⟨_, rfl⟩
    have hv : ∀ k, k < 3 → (v.get k).int = (f.get 9).int * (g.get 9).int * (if k = 0 then t2 else if k = 1 then t3 else t4) := fun k hk => by
      rw [hvd]
      rcases lt3 hk with rfl | rfl | rfl <;> rfl
    have hw : ∀ k, k < 3 → -4 ≤ (v.get k).int ∧ (v.get k).int ≤ 4 := fun k hk => by
      rw [hvd]
      rcases lt3 hk with rfl | rfl | rfl
      · exact p2.2
      · exact p3.2
      · exact p4.2
    have s3 : D.seg 3 v 0 = v := by rw [hvd]; rfl
    have c1 := one_ok hF hf fs hv hw
    have c2 := two_ok hF hf fs hv hw
    have c3 := both_ok hF hf hg fs hv hw
    have c4 := ob v _ hv hw
    have v0 : (v.get 0).int = (f.get 9).int * (g.get 9).int * t2 := by rw [hvd]; rfl
    have v1 : (v.get 1).int = (f.get 9).int * (g.get 9).int * t3 := by rw [hvd]; rfl
    have v2 : (v.get 2).int = (f.get 9).int * (g.get 9).int * t4 := by rw [hvd]; rfl
    simp only [s3] at c1 c2 c3 c4
    simp only [← hvd]
    refine congrArg D.b ?_
    simp only [not_t, not_f, and_t, and_f, or_f, eq_t]
    have key : 1 < (f.get 9).int * (g.get 9).int ∨ ((T 11 ((D.seg 13 f 0).app (D.seg 13 g 0))).get 13).bool = true ∧ ((T 8 ((D.seg 13 g 0).app (D.seg 3 (T 8 ((D.seg 13 f 0).app v)) 0))).get 3).bool = true := by
      by_cases hb : 1 < (f.get 9).int * (g.get 9).int
      · exact .inl hb
      · have k1 : (f.get 9).int * 1 ≤ (f.get 9).int * (g.get 9).int := Int.mul_le_mul_of_nonneg_left dg.1 (by omega)
        have k2 : 1 * (g.get 9).int ≤ (f.get 9).int * (g.get 9).int := Int.mul_le_mul_of_nonneg_right df.1 (by omega)
        exact .inr (c4 (by omega) (by omega))
    refine ⟨by rw [c1]; rfl, ?_, ?_, ?_⟩
    · rcases Bool.eq_false_or_eq_true ((T 10 (D.seg 13 f 0)).get 13).bool with h | h
      · obtain ⟨⟨a1, a2⟩, ⟨a3, a4⟩, a5, a6, a7⟩ := c2 h
        exact .inr ⟨a1, ⟨(a2 0 (by decide)).trans v0, (a2 1 (by decide)).trans v1, (a2 2 (by decide)).trans v2⟩, a3, ⟨a4 0 (by decide), a4 1 (by decide), a4 2 (by decide), a4 3 (by decide), a4 4 (by decide), a4 5 (by decide), a4 6 (by decide), a4 7 (by decide), a4 8 (by decide), a4 9 (by decide), a4 10 (by decide), a4 11 (by decide), a4 12 (by decide)⟩, a5, a6, (a7 0 (by decide)).trans v0, (a7 1 (by decide)).trans v1, (a7 2 (by decide)).trans v2⟩
      · exact .inl h
    · rcases Bool.eq_false_or_eq_true ((T 11 ((D.seg 13 f 0).app (D.seg 13 g 0))).get 13).bool with h7 | h7
      · rcases Bool.eq_false_or_eq_true ((T 8 ((D.seg 13 g 0).app (D.seg 3 (T 8 ((D.seg 13 f 0).app v)) 0))).get 3).bool with h8 | h8
        · obtain ⟨a1, a2⟩ := c3 h7 h8
          exact .inr ⟨a1, a2 0 (by decide), a2 1 (by decide), a2 2 (by decide)⟩
        · exact .inl (.inr h8)
      · exact .inl (.inl h7)
    · by_cases hd : 1 < (f.get 9).int
      · rw [if_pos (lt_t.mpr hd)]
        simp only [bool_b, or_t, and_t, lt_t]
        exact key
      · rw [if_neg (fun e => hd (lt_t.mp e))]
        simp only [bool_b, or_t, and_t, lt_t]
        exact ⟨o2' (by omega), key⟩
end Go.Proofs.Ytjeenfnfkndgaaa
