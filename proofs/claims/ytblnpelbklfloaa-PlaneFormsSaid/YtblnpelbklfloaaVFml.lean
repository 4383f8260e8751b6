/- The law PlaneForms is true. -/
import Derived.Test.YtblnpelbklfloaaVPx
import Derived.Test.YtblnpelbklfloaaVPy
import Derived.Test.YtblnpelbklfloaaVPz
namespace Go.Proofs.Ytblnpelbklfloaa
open Go.RowKit

theorem forms_true (ao : Option Addr) (len cap : Nat) (hlen : len ≤ 9223372036854775807) (hc : len ≤ cap) (hn : ao = none → len = 0 ∧ cap = 0) (e1 e2 e3 e4 f1 f2 f3 s0 s1 s2 n : Int) (h1 : I64 e1) (h2 : I64 e2) (h3 : I64 e3) (hs1 : I64 s1) (hn1 : I64 n) (w : World) (hl : Lst w ao len w.heap.size) :
    Calls Try.prog 4 #[.slice ao len cap, Pl e1 e2 e3 e4, V f1 f2 f3, .agg #[.int .i64 s0, .int .i64 s1, .int .i64 s2], .int .i64 n] w (Gives w (.bool true)) := by
  cases ao with
  | none =>
    obtain ⟨rfl, rfl⟩ := hn rfl
    exact frm_none e1 e2 e3 e4 f1 f2 f3 s0 s1 s2 n (hideV h1) (hideV h2) (hideV h3) (hideV hs1) (hideV hn1) w hl
  | some ad =>
    by_cases h : len ≤ 12
    · exact frm_le ad len cap hlen (by omega) (by omega) e1 e2 e3 e4 f1 f2 f3 s0 s1 s2 n (hideV h1) (hideV h2) (hideV h3) (hideV hs1) (hideV hn1) w hl
    · exact frm_gt ad len cap hlen (by omega) (by omega) e1 e2 e3 e4 f1 f2 f3 s0 s1 s2 n (hideV h1) (hideV h2) (hideV h3) (hideV hs1) (hideV hn1) w hl
end Go.Proofs.Ytblnpelbklfloaa
