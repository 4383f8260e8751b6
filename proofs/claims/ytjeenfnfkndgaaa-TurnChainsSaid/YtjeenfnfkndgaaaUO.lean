/- TurnChains. -/
import Derived.Test.YtjeenfnfkndgaaaZZ
import Derived.Test.YtjeenfnfkndgaaaUN
import Derived.Test.YtjeenfnfkndgaaaUD
import Derived.Test.YtjeenfnfkndgaaaRows
namespace Go.Proofs.Ytjeenfnfkndgaaa
open Go Go.Sz Go.RowKit

noncomputable def l11_TurnChains_k : Con := { f := 5, pat := [.v (.agg [.lst (.cons (.int .i64) .nil) (.var 0), .lst (.cons (.int .i64) .nil) (.var 1)]), .v (.agg [.int .i64 (.var 2), .int .i64 (.var 3), .int .i64 (.var 4)]), .v (.agg [.int .i64 (.var 5), .int .i64 (.var 6), .int .i64 (.var 7)])], need := [.o2 .le (.o1 .len (.var 0)) (.lit (.i 9223372036854775807)), .o2 .le (.o1 .len (.var 1)) (.lit (.i 9223372036854775807))], res := .v (.one (.bool (.lit (.b true)))) }
theorem l11_TurnChains_c {T : Tab} (hF : Fs.ok F17 T) : l11_TurnChains_k.Ok Try.prog T :=
  con_auto (K := [l11_sanity_k, r11_Frames_w_n_k, r11_Odd_w_n_k, r01_Mod_w_k, l11_vec_k, turn_Back_w_n_k, r11_Back_s_k, turn_After_w_n_k, r11_After_s_k]) (nb := 8) (fuel := 110) (sym := []) mixed_ hF (conCons (l11_sanity_c hF.tail.tail.tail.tail) (conCons (r11_Frames_w_n_c hF) (conCons (r11_Odd_w_n_c hF.tail) (conCons (r01_Mod_w_c hF.tail.tail.tail.tail) (conCons (l11_vec_c hF.tail.tail.tail.tail) (conCons (turn_Back_w_n_c hF.tail.tail.tail.tail.tail.tail.tail) (conCons (r11_Back_s_c hF.tail.tail.tail.tail) (conCons (turn_After_w_n_c hF.tail.tail.tail.tail.tail.tail) (conCons (r11_After_s_c hF.tail.tail.tail.tail) conNil))))))))) (by kernel_rfl)
end Go.Proofs.Ytjeenfnfkndgaaa
