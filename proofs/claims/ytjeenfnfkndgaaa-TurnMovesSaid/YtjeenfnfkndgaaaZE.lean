/- The evaluator: contracts by program, and a tree that needs no proof. -/
import Derived.Test.YtjeenfnfkndgaaaZD
namespace Go.Sz
open Go
noncomputable section

/- expressions under what is known -/
def simp2 (o : O2) (a b : X) : X := match o with
  | .or => (match a, b with
    | .lit x, y => if x.bool then .lit (.b true) else mk2 .or (.lit (.b false)) y
    | a, b => mk2 .or a b)
  | .and => (match a, b with
    | .lit x, y => if x.bool then mk2 .and (.lit (.b true)) y else .lit (.b false)
    | a, b => mk2 .and a b)
  | o => mk2 o a b
/-- the same, by what is known of the other form -/
def dec2 (pc : PC) (x : X) : Option Bool := match dec pc x with
  | some b => some b
  | none => match x with
    | .o2 .and a b => (dec pc (.o2 .or (mk1 .not a) (mk1 .not b))).map (!·)
    | .o2 .or a b => (dec pc (.o2 .and (mk1 .not a) (mk1 .not b))).map (!·)
    | _ => none
/-- an expression where these bools are known -/
def X.under (F : Fs) (pc : PC) : X → X
  | .lit d => .lit d
  | .var j => .var j
  | .o1 .not a => (match dec2 pc a with
    | some r => .lit (.b (!r))
    | none => mk1 .not (a.under F pc))
  | .o1 o a => mk1 o (a.under F pc)
  | .o2 o a b => match o with
    | .or | .and => (match dec2 pc (.o2 o a b) with
      | some r => .lit (.b r)
      | none => simp2 o (match dec2 pc a with | some r => .lit (.b r) | none => a.under F pc) (match dec2 pc b with | some r => .lit (.b r) | none => b.under F pc))
    | .lt | .le | .eq | .eqb | .eqd => (match dec2 pc (.o2 o a b) with
      | some r => .lit (.b r)
      | none => simp2 o (a.under F pc) (b.under F pc))
    | o => mk2 o (a.under F pc) (b.under F pc)
  | .o3 .ite c a b => match dec2 pc c with
    | some true => a.under F pc
    | some false => b.under F pc
    | none => mk3 .ite (c.under F pc) (a.under F pc) (b.under F pc)
  | .o3 o a b c => mk3 o (a.under F pc) (b.under F pc) (c.under F pc)
  | .fn f a => mkF F f (a.under F pc)
/-- a bool without what is known in it -/
def bAnd (a b : X) : X := match a, b with
  | .lit x, b => if x.bool then b else .lit (.b false)
  | a, .lit x => if x.bool then a else .lit (.b false)
  | a, b => .o2 .and a b
def bOr (a b : X) : X := match a, b with
  | .lit x, b => if x.bool then .lit (.b true) else b
  | a, .lit x => if x.bool then .lit (.b true) else a
  | a, b => .o2 .or a b
def bN : X → X
  | .o1 .not a => mk1 .not (bN a)
  | .o2 .and a b => bAnd (bN a) (bN b)
  | .o2 .or a b => bOr (bN a) (bN b)
  | x => x
/-- a bool as such: a variable that stands for one is known by the facts -/
def boolUnder (F : Fs) (pc : PC) (x : X) : X := match dec2 pc x with
  | some b => .lit (.b b)
  | none => bN (x.under F pc)
/-- nothing is left to be shown (ns: what may be supposed) -/
def Tree.auto (F : Fs) (ns : List X) : PC → Tree → Bool
  | pc, .br c t e => t.auto F ns (facts c true ++ pc) && e.auto F ns (facts c false ++ pc)
  | pc, .need l t => l.all (fun x => decide (dec pc x = some true) || ns.contains x || ns.any fun n => decide (boolUnder F pc n = x) || decide (boolUnder F pc n = boolUnder F pc x)) && t.auto F ns pc
  | pc, .join t c m => t.auto F ns pc && m.auto F ns (facts c true ++ pc)
  | _, .met => true
  | pc, .fin q => q.all fun p => if p.1 = 1 then decide (p.2.1 = p.2.2) || decide (boolUnder F pc p.2.1 = boolUnder F pc p.2.2) else decide (p.2.1.under F pc = p.2.2.under F pc)
  | _, _ => false
/-- why a tree fails -/
def Tree.bads : Tree → List (Nat × Nat)
  | .bad w => [w]
  | .br _ t e => t.bads ++ e.bads
  | .need _ t | .loop _ _ _ t => t.bads
  | .join t _ m => t.bads ++ m.bads
  | _ => []
section
variable (P : Program) (F : Fs) (K : List Con) (M : Nat) (sym : List Nat)
def varsFrom : CK → Nat → List Sc
  | .cons (.int k) b, n => .int k (.var n) :: varsFrom b (n + 1)
  | .cons .bool b, n => .bool (.var n) :: varsFrom b (n + 1)
  | .cons .str b, n => .str (.var n) :: varsFrom b (n + 1)
  | .cons (.lst e) b, n => .lst e (.var n) :: varsFrom b (n + 1)
  | _, _ => []
def s1Of (t : TypeId) (l : List Sc) : S1 := if tAgg P t = some true then .agg l else match l with | [c] => .one c | l => .agg l
/-- arguments by variables: their values, the blocks behind pointers, the next variable -/
def patOf : List TypeId → Nat → List Blk → Option (List SV × List Blk × Nat)
  | [], n, hp => some ([], hp, n)
  | t :: l, n, hp => match P.underlying t with
    | some (.pointer e) => match ckT P 20 e with
      | some c => (patOf l (n + c.size) (hp ++ [.box (varsFrom c n)])).map fun q => (.v (.one (.ptr hp.length 0)) :: q.1, q.2)
      | none => none
    | _ => match ckT P 20 t with
      | some c => (patOf l (n + c.size) hp).map fun q => (.v (s1Of P t (varsFrom c n)) :: q.1, q.2)
      | none => none
def ckList : CK → List CK
  | .cons a b => a :: ckList b
  | _ => []
def ofXs : List CK → List X → List Sc
  | k :: ks, x :: l => match Sc.ofX k x with | some c => c :: ofXs ks l | none => ofXs ks l
  | _, _ => []
def splitRes : List TypeId → List X → List S1 × List X
  | [], l => ([], l)
  | t :: ts, l => match ckT P 20 t with
    | some c => let q := splitRes ts (l.drop c.size); (s1Of P t (ofXs (ckList c) (l.take c.size)) :: q.1, q.2)
    | none => ([], l)
def boxKinds : List Blk → List CK
  | [] => []
  | .box cs :: l => (cs.map fun | .int k _ => CK.int k | .bool _ => .bool | .str _ => .str | .lst e _ => .lst e | _ => .nil) ++ boxKinds l
  | _ :: l => boxKinds l
def postOf : List Blk → List X → List (Option Blk)
  | [], _ => []
  | .box cs :: l, xs => some (.box (ofXs (boxKinds [.box cs]) (xs.take cs.length))) :: postOf l (xs.drop cs.length)
  | _ :: l, xs => none :: postOf l xs
/-- the arguments of a function by variables -/
def conPat (f : FuncId) : Option (Con × Nat) := match P.funcs[f]? with
  | some fn => (patOf P fn.params.toList 0 []).map fun q => ({ f, pat := q.1, hp := q.2.1, res := .tup [] }, q.2.2)
  | none => none
/-- the functions that are called -/
def callsOf : Code → List FuncId
  | .region _ ops _ => ops.toList.filterMap fun o => match o.op with | .call ⟨.value (.func f), _, _⟩ => some f | _ => none
  | .seq a b => callsOf a ++ callsOf b
  | .cond _ a b => callsOf a ++ callsOf b
  | .block _ b | .loop b | .scope b => callsOf b
  | .rangeFunc _ _ a b => callsOf a ++ callsOf b
  | _ => []
def symsOf : Code → List Nat
  | .seq a b => symsOf a ++ symsOf b
  | .cond _ a b => symsOf a ++ symsOf b
  | .block id (.loop b) => id :: symsOf b
  | .block _ b | .loop b | .scope b => symsOf b
  | .rangeFunc _ _ a b => symsOf a ++ symsOf b
  | _ => []
def callsF (f : FuncId) : List FuncId × List Nat := match P.funcs[f]? with
  | some fn => match fn.body with | some c => ((callsOf c).eraseDups, symsOf c) | none => ([], [])
  | none => ([], [])
/-- a contract by program -/
def autoCon (fuel : Nat) (c : Con) (nv : Nat) : Option Con := match P.funcs[c.f]? with
  | some fn =>
    let M := c.hp.length
    let ks := fn.resultTypes.toList.map fun t => match ckT P 20 t with | some c => ckList c | none => []
    match (fnCode P F K M sym fuel c nv).one P M fn (ks.flatten ++ boxKinds c.hp) [] with
    | some (some (_, xs), need) =>
      let q := splitRes P fn.resultTypes.toList xs
      some { c with res := (match q.1 with | [x] => .v x | l => .tup l), need := (needs need).eraseDups, post := postOf c.hp q.2 }
    | _ => none
  | none => none
end
end
end Go.Sz
