/- Lists of lists as arguments. -/
import Derived.Test.YtjeenfnfkndgaaaZZ
import Derived.Test.YtjeenfnfkndgaaaSE
import Derived.Test.YtjeenfnfkndgaaaRows
namespace Go.Proofs.Ytjeenfnfkndgaaa
open Go Go.Sz Go.RowKit

theorem okL_all {ok : D → Bool} : ∀ {l : D}, (∀ m, m < l.len → ok (l.get m) = true) → okL ok l = true
  | .cons p t, h => by
    show (ok p && okL ok t) = true
    rw [show ok p = true from h 0 (by show 0 < t.len + 1; omega), okL_all (l := t) fun m hm => h (m + 1) (by show m + 1 < t.len + 1; omega)]; rfl
  | .nil, _ | .i _, _ | .b _, _ => rfl
theorem inn_ok {T : Tab} (hF : Fs.ok F23 T) {d : D} (h : D.wf (.lst (.cons (.lst (.cons (.int .i64) .nil)) .nil)) d) : (T 50 d).bool = true := by
  have h50 : T 50 = innD := hF.top
  rw [h50]
  refine okL_all (ok := fun x => decide (((x.get 0).len : Int) ≤ 9223372036854775807)) fun m hm => ?_
  have := (h.2 m hm).1.1
  rw [← D.get_hd] at this
  refine decide_eq_true ?_
  unfold maxLen at this
  omega
end Go.Proofs.Ytjeenfnfkndgaaa
