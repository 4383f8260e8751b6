/- The evaluator: other needs; results that another contract names; greatest common divisors; expressions as ints and bools. -/
import Derived.Test.YtjeenfnfkndgaaaZ8
namespace Go.Sz
open Go
noncomputable section
theorem con_need {P : Program} {T : Tab} {c : Con} (h : c.Ok P T) (l : List X) (hn : ∀ η, (∀ x ∈ l, (x.d T η).bool = true) → ∀ x ∈ c.need, (x.d T η).bool = true) : ({ c with need := l } : Con).Ok P T :=
  fun η ρ w Z vs hm ha hl => h η ρ w Z vs hm ha (hn η hl)
/-- the same results as another function's, which are named -/
theorem con_same {P : Program} {T : Tab} {F : Fs} {f nv : Nat} {c c' : Con} {xs ys : List X} (hF : F.ok T) (h : c.Ok P T) (hT : T f = fnOf F xs) (hx : (xs.all fun x => x.fns F && x.low nv) = true) (hc : c.prs c' = some (nmPairs f nv 0 ys)) (hl : ys.length = xs.length)
    (he : ∀ η, (∀ x ∈ c'.need, (x.d T η).bool = true) → (∀ x ∈ c.need, (x.d T η).bool = true) ∧ ys.map (X.d T η) = xs.map (X.d T η)) : c'.Ok P T := by
  refine con_eq h hc fun η hn => ⟨(he η hn).1, fun p hp => ?_⟩
  obtain ⟨j, g1, g2⟩ := nmPairs_mem hp
  rw [g2, Nat.zero_add]
  have hj := (List.getElem?_eq_some_iff.1 g1).1
  have hx' : xs[j]? = some (xs[j]'(by omega)) := List.getElem?_eq_getElem _
  have e := congrArg (fun l => l[j]?) (he η hn).2
  simp only [List.getElem?_map, g1, hx', Option.map_some, Option.some.injEq] at e
  rw [e]
  exact nm_d hF hT (fun x hm => by have := List.all_eq_true.1 hx x hm; simpa using this) hx'
def g1 (a b : Int) : Int := mxI (euc a b) (IntKind.i64.wrap (0 - euc a b))
theorem mxI_abs {e : Int} (h1 : -4611686018427387904 ≤ e) (h2 : e ≤ 4611686018427387904) : mxI e (IntKind.i64.wrap (0 - e)) = (e.natAbs : Int) := by
  rw [w64 (by omega) (by omega)]
  unfold mxI
  split <;> omega
theorem gcd_le {a b : Int} {M : Nat} (ha : a.natAbs ≤ M) (hb : b.natAbs ≤ M) : Int.gcd a b ≤ M := by
  show Nat.gcd a.natAbs b.natAbs ≤ M
  by_cases h : a.natAbs = 0
  · rw [h, Nat.gcd_zero_left]; exact hb
  · exact Nat.le_trans (Nat.gcd_le_left _ (by omega)) ha
theorem g1_gcd {a b : Int} (ha : a.natAbs ≤ 4611686018427387904) (hb : b.natAbs ≤ 4611686018427387904) : g1 a b = (Int.gcd a b : Int) := by
  have h := euc_abs a b
  have hl := gcd_le ha hb
  unfold g1
  rw [mxI_abs (by omega) (by omega), h]
theorem geuc_gcd {a b : Int} (ha : 0 ≤ a) (hb : 0 ≤ b) : geuc a b = (Int.gcd a b : Int) := by
  unfold geuc
  by_cases h : b ≤ 0
  · have : b = 0 := by omega
    subst this
    rw [if_pos (by omega), Int.gcd_zero_right]; omega
  · rw [if_neg h, if_neg (by omega)]
theorem gstep {x m : Int} (h0 : 1 ≤ x) (h1 : x ≤ 4294967296) (m0 : -4294967296 ≤ m) (m1 : m ≤ 4294967296) : geuc x (mxI m (IntKind.i64.wrap (0 - m))) = g1 x m ∧ 1 ≤ g1 x m ∧ g1 x m ≤ 4294967296 := by
  have e := g1_gcd (a := x) (b := m) (by omega) (by omega)
  have hl : Int.gcd x m ≤ 4294967296 := gcd_le (by omega) (by omega)
  have hp : 0 < Int.gcd x m := Nat.gcd_pos_of_pos_left _ (by omega)
  rw [mxI_abs (by omega) (by omega), geuc_gcd (by omega) (by omega), e]
  refine ⟨?_, by omega, by omega⟩
  show ((Nat.gcd x.natAbs (m.natAbs : Int).natAbs : Nat) : Int) = _
  rw [Int.natAbs_natCast]; rfl
theorem wrap_eq (n : Int) : IntKind.i64.wrap n = if n % 18446744073709551616 ≥ 9223372036854775808 then n % 18446744073709551616 - 18446744073709551616 else n % 18446744073709551616 := by
  unfold IntKind.wrap
  by_cases h : n % 18446744073709551616 ≥ 9223372036854775808
  · rw [if_pos h]; exact if_pos (by simpa [IntKind.bits, IntKind.signed] using h)
  · rw [if_neg h]; exact if_neg (by simpa [IntKind.bits, IntKind.signed] using h)
theorem wrap_in (n : Int) : -9223372036854775808 ≤ IntKind.i64.wrap n ∧ IntKind.i64.wrap n ≤ 9223372036854775807 := by rw [wrap_eq]; omega
theorem wrap_wrap (n : Int) : IntKind.i64.wrap (IntKind.i64.wrap n) = IntKind.i64.wrap n := w64 (wrap_in n).1 (wrap_in n).2
theorem wrap_addl (x y : Int) : IntKind.i64.wrap (IntKind.i64.wrap x + y) = IntKind.i64.wrap (x + y) := by simp only [wrap_eq]; omega
theorem wrap_addr (x y : Int) : IntKind.i64.wrap (x + IntKind.i64.wrap y) = IntKind.i64.wrap (x + y) := by simp only [wrap_eq]; omega
theorem w_zero (n : Int) : IntKind.i64.wrap (0 + IntKind.i64.wrap n) = IntKind.i64.wrap n := by rw [Int.zero_add, wrap_wrap]
theorem mul_in {a b : Int} {A B : Nat} (a0 : -(A : Int) ≤ a) (a1 : a ≤ A) (b0 : -(B : Int) ≤ b) (b1 : b ≤ B) : -((A * B : Nat) : Int) ≤ a * b ∧ a * b ≤ ((A * B : Nat) : Int) := by
  have h : (a * b).natAbs ≤ A * B := by
    rw [Int.natAbs_mul]
    exact Nat.mul_le_mul (by omega) (by omega)
  omega
/- named results, but for those that are variables -/
def Sc.kv : Sc → Sc → Sc
  | .int k (.var j), _ => .int k (.var j)
  | .bool (.var j), _ => .bool (.var j)
  | .str (.var j), _ => .str (.var j)
  | .lst e (.var j), _ => .lst e (.var j)
  | _, b => b
def kvL : List Sc → List Sc → List Sc
  | a :: l, b :: m => a.kv b :: kvL l m
  | _, m => m
def S1.kv : S1 → S1 → S1
  | .one a, .one b => .one (a.kv b)
  | .agg l, .agg m => .agg (kvL l m)
  | _, b => b
def kvT : List S1 → List S1 → List S1
  | a :: l, b :: m => a.kv b :: kvT l m
  | _, m => m
def SV.kv : SV → SV → SV
  | .v a, .v b => .v (a.kv b)
  | .tup l, .tup m => .tup (kvT l m)
  | _, b => b
def Blk.kv : Blk → Blk → Blk
  | .box l, .box m => .box (kvL l m)
  | .row t e (.var j), _ => .row t e (.var j)
  | _, b => b
def kvO : List (Option Blk) → List (Option Blk) → List (Option Blk)
  | some a :: l, some b :: m => some (a.kv b) :: kvO l m
  | _ :: l, b :: m => b :: kvO l m
  | _, m => m
def Con.nmV (f nv : Nat) (c : Con) : Con := let q := c.nm f nv; { q with res := c.res.kv q.res, post := kvO c.post q.post }
def nmVOk (F : Fs) (f nv : Nat) (c c' : Con) (xs : List X) : Bool := (match c.prs c' with
  | some l => l.all fun p => decide (p.1 = p.2) || (List.range xs.length).any fun j => decide (p.2 = nmX f nv j) && decide (xs[j]? = some p.1)
  | none => false) && decide (c.need = c'.need) && xs.all fun x => x.fns F && x.low nv
theorem con_nmV {P : Program} {T : Tab} {F : Fs} {f nv : Nat} {c c' : Con} {xs : List X} (hF : F.ok T) (h : c.Ok P T) (hT : T f = fnOf F xs) (hc : nmVOk F f nv c c' xs = true) : c'.Ok P T := by
  simp only [nmVOk, Bool.and_eq_true, decide_eq_true_eq, List.all_eq_true] at hc
  obtain ⟨⟨h1, h2⟩, h3⟩ := hc
  split at h1
  · rename_i l hl
    refine con_eq h hl fun η hn => ⟨by rw [h2]; exact hn, fun p hp => ?_⟩
    have := List.all_eq_true.1 h1 p hp
    simp only [Bool.or_eq_true, decide_eq_true_eq, List.any_eq_true, Bool.and_eq_true] at this
    rcases this with e | ⟨j, -, e1, e2⟩
    · rw [e]
    · rw [e1]
      exact nm_d hF hT (fun x hx => h3 x hx) e2
  · cases h1
theorem tmod_in (x : Int) {n : Int} (h : 1 ≤ n) : -n < x.tmod n ∧ x.tmod n < n := by
  have : (x.tmod n).natAbs < n.natAbs := by rw [Int.natAbs_tmod]; exact Nat.mod_lt _ (by omega)
  omega
theorem mod_b (x : Int) {n : Int} (h : 1 ≤ n) (h' : n ≤ 4611686018427387904) : 0 ≤ (IntKind.i64.wrap (x.tmod n + n)).tmod n ∧ (IntKind.i64.wrap (x.tmod n + n)).tmod n < n := by
  have := tmod_in x h
  rw [w64 (by omega) (by omega)]
  exact ⟨Int.tmod_nonneg _ (by omega), (tmod_in _ h).2⟩
/-- a law whose result is shown to be true -/
theorem con_true {P : Program} {T : Tab} {c : Con} {xs : List X} (h : c.Ok P T) (hx : (match c.prs { c with res := .v (.one (.bool (.lit (.b true)))) } with | some q => q.all fun p => decide (p.1 = p.2) || (decide (p.2 = .lit (.b true)) && decide (xs = [p.1])) | none => false) = true)
    (hn : ∀ η, (∀ x ∈ c.need, (x.d T η).bool = true) → ∀ x ∈ xs, x.d T η = .b true) : ({ c with res := .v (.one (.bool (.lit (.b true)))) } : Con).Ok P T := by
  split at hx
  · rename_i q hq
    refine con_eq h hq fun η hl => ⟨hl, fun p hp => ?_⟩
    have := List.all_eq_true.1 hx p hp
    simp only [Bool.or_eq_true, Bool.and_eq_true, decide_eq_true_eq] at this
    rcases this with e | ⟨e1, e2⟩
    · rw [e]
    · rw [e1, hn η hl p.1 (by rw [e2]; exact List.mem_singleton.2 rfl)]; rfl
  · cases hx
end
end Go.Sz
