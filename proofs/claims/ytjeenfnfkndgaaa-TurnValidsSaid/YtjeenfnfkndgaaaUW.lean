/- TurnValids. -/
import Derived.Test.YtjeenfnfkndgaaaZZ
import Derived.Test.YtjeenfnfkndgaaaUV
import Derived.Test.YtjeenfnfkndgaaaRows
namespace Go.Proofs.Ytjeenfnfkndgaaa
open Go Go.Sz Go.RowKit

noncomputable def l11_TurnValids_k : Con := { f := 3, pat := [.v (.one (.lst (.cons (.int .i64) .nil) (.var 0))), .v (.agg [.int .i64 (.var 1), .int .i64 (.var 2), .int .i64 (.var 3), .int .i64 (.var 4), .int .i64 (.var 5), .int .i64 (.var 6)]), .v (.agg [.int .i64 (.var 7), .int .i64 (.var 8), .int .i64 (.var 9), .int .i64 (.var 10), .int .i64 (.var 11), .int .i64 (.var 12), .int .i64 (.var 13), .int .i64 (.var 14), .int .i64 (.var 15), .int .i64 (.var 16)])], need := [.o2 .le (.o1 .len (.var 0)) (.lit (.i 9223372036854775807))], res := .v (.one (.bool (.o2 .get (.fn 5 (.o1 (.seg 10) (.fn 24 (.o2 .cons (.var 0) (.lit .nil))))) (.lit (.i 0))))) }
theorem l11_TurnValids_c {T : Tab} (hF : Fs.ok F17 T) : l11_TurnValids_k.Ok Try.prog T :=
  con_auto (K := [l11_sanity_k, r11_Frames_w_n_k, r11_Odd_w_n_k, turn_Valid_n_k, r11_Valid_s_k, turn_All_k, r11_All_k]) (nb := 17) (fuel := 110) (sym := []) mixed_ hF (conCons (l11_sanity_c hF.tail.tail.tail.tail) (conCons (r11_Frames_w_n_c hF) (conCons (r11_Odd_w_n_c hF.tail) (conCons (turn_Valid_n_c hF.tail.tail.tail.tail.tail.tail.tail.tail.tail.tail.tail.tail) (conCons (r11_Valid_s_c hF.tail.tail.tail.tail.tail.tail) (conCons (turn_All_c hF.tail.tail.tail.tail) (conCons (r11_All_c hF.tail.tail.tail.tail) conNil))))))) (by kernel_rfl)
noncomputable def l11_TurnValids_t_x : List X := [.o2 .get (.fn 5 (.o1 (.seg 10) (.fn 24 (.o2 .cons (.var 0) (.lit .nil))))) (.lit (.i 0))]
noncomputable def l11_TurnValids_t_k : Con := { l11_TurnValids_k with res := .v (.one (.bool (.lit (.b true)))) }
set_option maxRecDepth 100000 in
theorem l11_TurnValids_t_c {T : Tab} (hF : Fs.ok F17 T) : l11_TurnValids_t_k.Ok Try.prog T :=
  con_true (l11_TurnValids_c hF) (xs := l11_TurnValids_t_x) (by kernel_rfl) fun η hn => by
    intro x hx
    simp only [l11_TurnValids_t_x, List.mem_singleton] at hx
    subst hx
    exact frames_v hF (η.d 0)
end Go.Proofs.Ytjeenfnfkndgaaa
