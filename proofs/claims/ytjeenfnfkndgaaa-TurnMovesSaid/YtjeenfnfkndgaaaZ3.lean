/- The evaluator: what the proofs of trees rewrite with. -/
import Derived.Test.YtjeenfnfkndgaaaZZ
namespace Go.Sz
open Go
noncomputable section
theorem int_i (n : Int) : (D.i n).int = n := rfl
theorem bool_b (b : Bool) : (D.b b).bool = b := rfl
theorem hd_c (a t : D) : (D.cons a t).hd = a := rfl
theorem tl_c (a t : D) : (D.cons a t).tl = t := rfl
theorem len_c (a t : D) : (D.cons a t).len = t.len + 1 := rfl
theorem look_c (k : Nat) (x : X) (l : List (Nat × X)) (j : Nat) : Sz.look ((k, x) :: l) j = if k = j then x else Sz.look l j := by
  unfold Sz.look
  by_cases h : k = j <;> simp [h]
theorem env_d (T : Tab) (η : Env) (s : Sub) (j : Nat) : (η.sub T s).d j = if j < s.n then η.d j else (Sz.look s.x j).d T η := rfl
def ltB (a b : Int) : Bool := decide (a < b)
def leB (a b : Int) : Bool := decide (a ≤ b)
def eqB (a b : Int) : Bool := a == b
def eqdB (a b : D) : Bool := decide (a = b)
def mnI (a b : Int) : Int := if b < a then b else a
def mxI (a b : Int) : Int := if b > a then b else a
theorem den_add (k : IntKind) (a b : D) : den2 (.add k) a b = .i (k.wrap (a.int + b.int)) := rfl
theorem den_sub (k : IntKind) (a b : D) : den2 (.sub k) a b = .i (k.wrap (a.int - b.int)) := rfl
theorem den_mul (k : IntKind) (a b : D) : den2 (.mul k) a b = .i (k.wrap (a.int * b.int)) := rfl
theorem den_quo (k : IntKind) (a b : D) : den2 (.quo k) a b = .i (k.wrap (a.int.tdiv b.int)) := rfl
theorem den_rem (a b : D) : den2 (.rem) a b = .i (a.int.tmod b.int) := rfl
theorem den_lt (a b : D) : den2 (.lt) a b = .b (ltB a.int b.int) := rfl
theorem den_le (a b : D) : den2 (.le) a b = .b (leB a.int b.int) := rfl
theorem den_eq (a b : D) : den2 (.eq) a b = .b (eqB a.int b.int) := rfl
theorem den_eqb (a b : D) : den2 (.eqb) a b = .b (a.bool == b.bool) := rfl
theorem den_eqd (a b : D) : den2 (.eqd) a b = .b (eqdB a b) := rfl
theorem den_mn (a b : D) : den2 (.mn) a b = .i (mnI a.int b.int) := rfl
theorem den_mx (a b : D) : den2 (.mx) a b = .i (mxI a.int b.int) := rfl
theorem den_and (a b : D) : den2 (.and) a b = .b (a.bool && b.bool) := rfl
theorem den_or (a b : D) : den2 (.or) a b = .b (a.bool || b.bool) := rfl
theorem den_cons (a b : D) : den2 (.cons) a b = .cons a b := rfl
theorem den_get (a b : D) : den2 (.get) a b = a.get b.int.toNat := rfl
theorem den_app (a b : D) : den2 (.app) a b = a.app b := rfl
theorem den_take (a b : D) : den2 (.take) a b = a.take b.int.toNat := rfl
theorem den_drop (a b : D) : den2 (.drop) a b = a.drop b.int.toNat := rfl
theorem den_pl (a b : D) : den2 (.pl) a b = .i (a.int + b.int) := rfl
theorem den_mi (a b : D) : den2 (.mi) a b = .i (a.int - b.int) := rfl
theorem den_rep (a b : D) : den2 (.rep) a b = D.rep a.int.toNat b := rfl
theorem lt_t {a b : Int} : (ltB a b = true) = (a < b) := by simp [ltB]
theorem lt_f {a b : Int} : (ltB a b = false) = (b ≤ a) := by simp [ltB]
theorem le_t {a b : Int} : (leB a b = true) = (a ≤ b) := by simp [leB]
theorem le_f {a b : Int} : (leB a b = false) = (b < a) := by simp [leB]
theorem eq_t {a b : Int} : (eqB a b = true) = (a = b) := by simp [eqB]
theorem eq_f {a b : Int} : (eqB a b = false) = ¬(a = b) := by simp [eqB]
theorem eqd_t {a b : D} : (eqdB a b = true) = (a = b) := by simp [eqdB]
theorem eqd_f {a b : D} : (eqdB a b = false) = ¬(a = b) := by simp [eqdB]
theorem dec_t {p : Prop} {i : Decidable p} : (@decide p i = true) = p := by simp
theorem dec_f {p : Prop} {i : Decidable p} : (@decide p i = false) = ¬p := by simp
theorem not_t {b : Bool} : ((!b) = true) = (b = false) := by simp
theorem not_f {b : Bool} : ((!b) = false) = (b = true) := by simp
theorem and_t {a b : Bool} : ((a && b) = true) = (a = true ∧ b = true) := by cases a <;> cases b <;> simp
theorem or_f {a b : Bool} : ((a || b) = false) = (a = false ∧ b = false) := by cases a <;> cases b <;> simp
theorem or_t {a b : Bool} : ((a || b) = true) = (a = true ∨ b = true) := by cases a <;> cases b <;> simp
theorem and_f {a b : Bool} : ((a && b) = false) = (a = false ∨ b = false) := by cases a <;> cases b <;> simp
theorem ieq_t {a b : Int} : ((a == b) = true) = (a = b) := by simp
theorem ieq_f {a b : Int} : ((a == b) = false) = ¬(a = b) := by simp
end
end Go.Sz
