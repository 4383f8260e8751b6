/- TurnMoves. -/
import Derived.Test.YtjeenfnfkndgaaaZZ
import Derived.Test.YtjeenfnfkndgaaaSE
import Derived.Test.YtjeenfnfkndgaaaRows
namespace Go.Proofs.Ytjeenfnfkndgaaa
open Go Go.Sz Go.RowKit

noncomputable def l11_TurnMoves_k : Con := { f := 4, pat := [.v (.one (.lst (.cons (.int .i64) .nil) (.var 0))), .v (.one (.lst (.cons (.lst (.cons (.int .i64) .nil)) .nil) (.var 1))), .v (.agg [.int .i64 (.var 2), .int .i64 (.var 3), .int .i64 (.var 4), .int .i64 (.var 5), .int .i64 (.var 6), .int .i64 (.var 7)]), .v (.agg [.int .i64 (.var 8), .int .i64 (.var 9), .int .i64 (.var 10)]), .v (.agg [.int .i64 (.var 11), .int .i64 (.var 12), .int .i64 (.var 13)]), .v (.agg [.int .i64 (.var 14), .int .i64 (.var 15), .int .i64 (.var 16), .int .i64 (.var 17)])], need := [.o2 .le (.o1 .len (.var 0)) (.lit (.i 9223372036854775807)), .fn 50 (.var 1)], res := .v (.one (.bool (.lit (.b true)))) }
theorem l11_TurnMoves_c {T : Tab} (hF : Fs.ok F23 T) : l11_TurnMoves_k.Ok Try.prog T :=
  con_tree (K := [l11_sanity_k, r11_Frames_w_n_k, r11_Odd_w_n_k, r01_Mod_w_k, l11_vec_k, r07_Made_w_n_k, r07_Odd_w_n_k, turn_Apply_w_n_k, r11_Apply_s_k, turn_Plane_w_n_k, r11_Plane_s_k, turn_Cell_k, r11_Cell_k, r08_SamePlanes_k]) (nb := 18) (fuel := 112) (sym := [0, 2, 6]) tmTree mixed_ hF (conCons (l11_sanity_c hF.tail.tail.tail.tail.tail.tail.tail.tail.tail.tail) (conCons (r11_Frames_w_n_c hF.tail.tail.tail.tail.tail.tail) (conCons (r11_Odd_w_n_c hF.tail.tail.tail.tail.tail.tail.tail) (conCons (r01_Mod_w_c hF.tail.tail.tail.tail.tail.tail.tail.tail.tail.tail) (conCons (l11_vec_c hF.tail.tail.tail.tail.tail.tail.tail.tail.tail.tail) (conCons (r07_Made_w_n_c hF.tail.tail) (conCons (r07_Odd_w_n_c hF.tail) (conCons (turn_Apply_w_n_c hF.tail.tail.tail.tail.tail.tail.tail.tail.tail.tail.tail.tail.tail.tail) (conCons (r11_Apply_s_c hF.tail.tail.tail.tail.tail.tail.tail.tail.tail.tail) (conCons (turn_Plane_w_n_c hF.tail.tail.tail.tail.tail) (conCons (r11_Plane_s_c hF.tail.tail.tail.tail.tail) (conCons (turn_Cell_c hF.tail.tail.tail.tail) (conCons (r11_Cell_c hF.tail.tail.tail.tail) (conCons (r08_SamePlanes_c hF.tail.tail.tail.tail) conNil)))))))))))))) (by kernel_rfl) (by kernel_rfl) fun η hneed =>
    moves_sat hF η (of_decide_eq_true (hneed _ (.head _))) (hneed _ (.tail _ (.head _)))
end Go.Proofs.Ytjeenfnfkndgaaa
