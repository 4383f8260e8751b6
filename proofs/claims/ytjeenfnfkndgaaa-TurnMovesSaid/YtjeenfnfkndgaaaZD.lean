/- The evaluator: states that meet, loops, code, functions. -/
import Derived.Test.YtjeenfnfkndgaaaZC
namespace Go.Sz
open Go
noncomputable section

abbrev Pairs := List (Option Nat × Option Nat)
/-- the state of a meeting: pairs of blocks; the next variable -/
structure PS where
  ps : Pairs
  n : Nat
  deriving Inhabited
/-- how two expressions meet: by a condition, or (at the head of a loop) as a new variable -/
inductive Md where
  | ite (c : X) | gen (n0 : Nat)
  deriving Inhabited
def Md.x (m : Md) (s : PS) (x y : X) : X × PS := match m with
  | .ite c => (mk3 .ite c x y, s)
  | .gen n0 => if x = y then (x, s) else match x with
    | .var j => if n0 ≤ j then (x, s) else (.var s.n, { s with n := s.n + 1 })
    | _ => (.var s.n, { s with n := s.n + 1 })
def phiB (c x y : X) : X := if x = y then x else match x, y with
  | .lit (.b true), y => mk2 .or c y
  | .lit (.b false), y => mk2 .and (mk1 .not c) y
  | x, .lit (.b false) => mk2 .and c x
  | x, .lit (.b true) => mk2 .or (mk1 .not c) x
  | x, y => .o3 .ite c x y
def Md.b (m : Md) (s : PS) (x y : X) : X × PS := match m with
  | .ite c => (phiB c x y, s)
  | m => m.x s x y
def PS.pair (s : PS) (a b : Option Nat) : Nat × PS :=
  let k := s.ps.findIdx fun q => decide (q = (a, b))
  if k < s.ps.length then (k, s) else (s.ps.length, { s with ps := s.ps ++ [(a, b)] })
def meetSc (m : Md) (s : PS) : Sc → Sc → Option (Sc × PS)
  | .int k x, .int k' y => if k = k' then let r := m.x s x y; some (.int k r.1, r.2) else none
  | .bool x, .bool y => let r := m.b s x y; some (.bool r.1, r.2)
  | .str x, .str y => let r := m.x s x y; some (.str r.1, r.2)
  | .lst e x, .lst e' y => if e = e' then let r := m.x s x y; some (.lst e r.1, r.2) else none
  | .lst e x, .nils => let r := m.x s x (.lit .nil); some (.lst e r.1, r.2)
  | .nils, .lst e y => let r := m.x s (.lit .nil) y; some (.lst e r.1, r.2)
  | .own i, .own j => let r := s.pair (some i) (some j); some (.own r.1, r.2)
  | .own i, .nils => let r := s.pair (some i) none; some (.own r.1, r.2)
  | .nils, .own j => let r := s.pair none (some j); some (.own r.1, r.2)
  | .ptr i o, .ptr j o' => if o = o' then let r := s.pair (some i) (some j); some (.ptr r.1 o, r.2) else none
  | .lp ks x, .lp ks' y => if ks = ks' then let r := m.x s x y; some (.lp ks r.1, r.2) else none
  | a, b => if a = b ∧ a.ids (fun _ => false) = true then some (a, s) else none
def meetL (m : Md) : PS → List Sc → List Sc → Option (List Sc × PS)
  | s, [], [] => some ([], s)
  | s, a :: l, b :: r => match meetSc m s a b with
    | some (c, s') => (meetL m s' l r).map fun q => (c :: q.1, q.2)
    | none => none
  | _, _, _ => none
def meet1 (m : Md) (s : PS) : S1 → S1 → Option (S1 × PS)
  | .one a, .one b => (meetSc m s a b).map fun q => (.one q.1, q.2)
  | .agg a, .agg b => (meetL m s a b).map fun q => (.agg q.1, q.2)
  | _, _ => none
def meetT (m : Md) : PS → List S1 → List S1 → Option (List S1 × PS)
  | s, [], [] => some ([], s)
  | s, a :: l, b :: r => match meet1 m s a b with
    | some (c, s') => (meetT m s' l r).map fun q => (c :: q.1, q.2)
    | none => none
  | _, _, _ => none
def meetV (m : Md) (s : PS) : SV → SV → Option (SV × PS)
  | .v a, .v b => (meet1 m s a b).map fun q => (.v q.1, q.2)
  | .tup a, .tup b => (meetT m s a b).map fun q => (.tup q.1, q.2)
  | _, _ => none
def meetS (m : Md) : PS → List (Option SV) → List (Option SV) → List (Option SV) × PS
  | s, some a :: l, some b :: r => match meetV m s a b with
    | some (c, s') => let q := meetS m s' l r; (some c :: q.1, q.2)
    | none => let q := meetS m s l r; (none :: q.1, q.2)
  | s, _ :: l, _ :: r => let q := meetS m s l r; (none :: q.1, q.2)
  | s, _, _ => ([], s)
def meetB (m : Md) (s : PS) : Option Blk → Option Blk → Option (Blk × PS)
  | some (.box a), some (.box b) => (meetL m s a b).map fun q => (.box q.1, q.2)
  | some (.row t e x), some (.row t' e' y) => if t = t' ∧ e = e' then let r := m.x s x y; some (.row t e r.1, r.2) else none
  | some (.froz e x), some (.froz e' y) => if e = e' then let r := m.x s x y; some (.froz e r.1, r.2) else none
  | some (.row _ e x), some (.froz e' y) => (match m with
    | .gen _ => if e = e' then let r := m.x s x y; some (.froz e r.1, r.2) else none
    | .ite _ => none)
  | some (.froz e x), some (.row _ e' y) => (match m with
    | .gen _ => if e = e' then let r := m.x s x y; some (.froz e r.1, r.2) else none
    | .ite _ => none)
  | _, _ => none
/-- a block of a number, or the row of nil -/
def blkOr (bk : BK) (other : Option Blk) : Option Nat → Option Blk
  | some i => bk i
  | none => match other with
    | some (.row t e _) => if 0 < e.size then some (.row t e (.lit .nil)) else none
    | _ => none
def meetBs (m : Md) (b1 b2 : BK) : Nat → Nat → PS → List (Option Blk) × PS
  | 0, _, s => ([], s)
  | n + 1, k, s => match s.ps[k]? with
    | none => ([], s)
    | some (i, j) => match meetB m s (blkOr b1 (blkOr b2 none j) i) (blkOr b2 (blkOr b1 none i) j) with
      | some (b, s') => let q := meetBs m b1 b2 n (k + 1) s'; (some b :: q.1, q.2)
      | none => let q := meetBs m b1 b2 n (k + 1) s; (none :: q.1, q.2)
/-- mutable blocks lie apart -/
def apart (f : Option Nat × Option Nat → Option Nat) (ps : Pairs) (bk : List (Option Blk)) : Bool :=
  nodupB ((ps.zip bk).filterMap fun q => match q.2 with | some b => if b.mut then f q.1 else none | none => none)
def St.b (σ : St) : BK := fun id => σ.bk.getD id none
/-- two states meet -/
def meetSt (M : Nat) (m : Md) (n : Nat) (σ τ : St) : Option St :=
  let q := meetS m ⟨(List.range M).map fun i => (some i, some i), n⟩ σ.sl τ.sl
  let r := meetBs m σ.b τ.b 200 0 q.2
  if σ.sl.length = τ.sl.length ∧ r.1.length = r.2.ps.length ∧ apart (·.1) r.2.ps r.1 ∧ apart (·.2) r.2.ps r.1 then
    some { sl := q.1, bk := r.1, pc := σ.pc.filter (fun p => τ.pc.contains p), nv := max r.2.n (max σ.nv τ.nv) } else none
inductive Ex where
  | normal | exit (id : Nat) | ret
  deriving DecidableEq, Inhabited
inductive Tree where
  | leaf (e : Ex) (σ : St) | br (c : X) (t e : Tree) | need (l : List X) (t : Tree) | bad (why : Nat × Nat)
  | loop (d n : Nat) (s : Sub) (t : Tree) | back (d : Nat) (s : Sub) | join (t : Tree) (c : X) (m : Tree) | met | fin (q : List (Nat × X × X))
  deriving Inhabited
def St.assume (σ : St) (c : X) (b : Bool) : St := { σ with pc := facts c b ++ σ.pc }
/-- what stands at the leaves -/
def Tree.graft (f : Ex → St → Tree) : Tree → Tree
  | .leaf e σ => f e σ
  | .br c t e => .br c (t.graft f) (e.graft f)
  | .need l t => .need l (t.graft f)
  | .loop d n s t => .loop d n s (t.graft f)
  | .join t c m => .join (t.graft f) c (m.graft f)
  | t => t
/-- how many normal ends -/
def Tree.ends : Tree → Nat
  | .leaf .normal _ => 1
  | .br _ t e => t.ends + e.ends
  | .need _ t | .loop _ _ _ t => t.ends
  | .join t _ m => t.ends + m.ends
  | _ => 0
/-- all normal ends as one, and when it is reached -/
def Tree.merge (M : Nat) : Tree → Option (Option (X × St))
  | .leaf .normal σ => some (some (.lit (.b true), σ))
  | .br c t e => match t.merge M, e.merge M with
    | some none, some none => some none
    | some (some (x, σ)), some none => some (some (mk2 .and c x, σ))
    | some none, some (some (y, τ)) => some (some (mk2 .and (mk1 .not c) y, τ))
    | some (some (x, σ)), some (some (y, τ)) => (meetSt M (.ite c) 0 σ τ).map fun r => some (phiB c x y, r)
    | _, _ => none
  | .need _ t => t.merge M
  | .loop .. => none
  | .join t c m => match t.merge M, m.merge M with
    | some none, some (some (x, σ)) => some (some (mk2 .and c x, σ))
    | some none, some none => some none
    | _, _ => none
  | _ => some none
/-- at normal ends -/
def atEnd (f : St → Tree) (e : Ex) (σ : St) : Tree := if e = .normal then f σ else .leaf e σ
/-- behind all normal ends -/
def Tree.bind (M : Nat) (f : St → Tree) : Tree → Tree
  | .need l t => .need l (t.bind M f)
  | .loop d n s t => .loop d n s (t.bind M f)
  | t => if t.ends ≤ 1 then t.graft (atEnd f) else match t.merge M with
    | some (some (c, σ)) => .join (t.graft (atEnd fun _ => .met)) c (f (σ.assume c true))
    | _ => t.graft (atEnd f)
/-- its variables are below n -/
def X.low (n : Nat) : X → Bool
  | .lit _ => true
  | .var j => decide (j < n)
  | .o1 _ a | .fn _ a => a.low n
  | .o2 _ a b => a.low n && b.low n
  | .o3 _ a b c => a.low n && b.low n && c.low n
/- loops -/
def colS (bk : BK) : Sub → List (Option SV) → List (Option SV) → Sub
  | s, some p :: l, some v :: r => colS bk (colV bk s p v) l r
  | s, _ :: l, _ :: r => colS bk s l r
  | s, _, _ => s
def colHs (bk : BK) : Sub → Nat → List (Option Blk) → Sub
  | s, _, [] => s
  | s, i, some b :: l => colHs bk (colB bk s b (bk (lookN s.id i))) (i + 1) l
  | s, i, none :: l => colHs bk s (i + 1) l
def Sub.noV (s : Sub) : Sub := { s with v := [] }
/-- a nil where the head has a row of one's own -/
def coerS (h : St) : Nat → List (Option SV) → St → St
  | _, [], σ => σ
  | t, p :: l, σ => coerS h (t + 1) l (match p, σ.sl.getD t none with
    | some (.v (.one (.own i))), some (.v (.one .nils)) => match h.b i with
      | some (.row ty e _) => if e.size = 0 then σ else { σ with sl := σ.sl.set t (some (.v (.one (.own σ.bk.length)))), bk := σ.bk ++ [some (.row ty e (.lit .nil))] }
      | _ => σ
    | _, _ => σ)
/-- a row where the head has one that is written no more -/
def frzS (h : St) : Nat → List (Option SV) → St → St
  | _, [], σ => σ
  | t, p :: l, σ => frzS h (t + 1) l (match p, σ.sl.getD t none with
    | some (.v (.one (.own i))), some (.v (.one (.own j))) => (match h.b i, σ.b j with
      | some (.froz _ _), some (.row _ e x) => { σ with bk := σ.bk.set j (some (.froz e x)) }
      | _, _ => σ)
    | _, _ => σ)
section
variable (F : Fs)
def instS (bk : BK) (s : Sub) : List (Option SV) → List (Option SV) → Option Ws
  | [], [] => some []
  | none :: l, _ :: r => instS bk s l r
  | some p :: l, some v :: r => match instV F bk s p v, instS bk s l r with
    | some ws, some vs => some (joinW ws vs)
    | _, _ => none
  | _, _ => none
def instHs (bk : BK) (s : Sub) : Nat → List (Option Blk) → Option Ws
  | _, [] => some []
  | i, none :: l => instHs bk s (i + 1) l
  | i, some b :: l => match instB F bk s b (bk (lookN s.id i)), instHs bk s (i + 1) l with
    | some ws, some vs => some (joinW ws vs)
    | _, _ => none
/-- a state as the loop's head wants it (h: the head; n: how many variables there are outside; M: the blocks that were handed in) -/
def enter (M n : Nat) (h σ0 : St) : Option Sub :=
  let σ := frzS h 0 h.sl (coerS h 0 h.sl σ0)
  let s := (colHs σ.b (colS σ.b ⟨n, [], [], []⟩ h.sl σ.sl) 0 h.bk).noV
  match instS F σ.b s h.sl σ.sl, instHs F σ.b s 0 h.bk with
  | some ws, some vs =>
    let ids := (List.range h.bk.length).filterMap fun i => match h.b i with | some b => if b.mut then some (lookN s.id i) else none | none => none
    if s.n = n ∧ 0 < n ∧ M ≤ h.bk.length ∧ M ≤ σ0.bk.length ∧ (∀ i, i < M → lookN s.id i = i) ∧ nodupB ids = true ∧ (∀ q ∈ joinW ws vs, q.1 ∉ ids) ∧ h.ok = true then some s else none
  | _, _ => none
end
def Tree.backs : Tree → List St
  | .leaf .normal σ => [σ]
  | .br _ t e => t.backs ++ e.backs
  | .need _ t | .loop _ _ _ t => t.backs
  | .join t _ m => t.backs ++ m.backs
  | _ => []
def genAll (M n0 : Nat) : St → List St → St
  | h, [] => h
  | h, b :: l => genAll M n0 (match meetSt M (.gen n0) h.nv h b with | some r => { r with pc := h.pc, nv := r.nv } | none => h) l
def findHead (M n0 : Nat) (body : St → Tree) : Nat → St → St
  | 0, h => h
  | k + 1, h =>
    let h' := genAll M n0 h (body h).backs
    if h'.sl = h.sl ∧ h'.bk = h.bk then h else findHead M n0 body k { h' with nv := h'.nv }
/-- the same, laid open -/
def genAllK {α : Type} (M n0 : Nat) : St → List St → (St → α) → α
  | h, [], k => k h
  | h, b :: l, k => (match meetSt M (.gen n0) h.nv h b with | some r => ({ r with pc := h.pc, nv := r.nv } : St) | none => h).fc fun h => genAllK M n0 h l k
def findHeadK {α : Type} (M n0 : Nat) (body : St → Tree) : Nat → St → (St → α) → α
  | 0, h, k => k h
  | m + 1, h, k => genAllK M n0 h (body h).backs fun h' => if h'.sl = h.sl ∧ h'.bk = h.bk then k h else findHeadK M n0 body m h' k
section
variable (P : Program) (F : Fs) (K : List Con) (M : Nat) (sym : List Nat)
/-- the numbers of blocks in it are there -/
def Eff.fits (e : Eff) (n : Nat) : Bool :=
  let p := fun id => decide (id < n + e.nw.length)
  e.v.ids p && e.nw.all (Blk.ids p) && e.wr.all (fun q => decide (q.1 < n) && (match q.2 with | some b => b.ids p | none => true)) && nodupB (e.wr.map (·.1))
/-- operations one after the other -/
def seqR (all : List Oper) (id : Nat) : Nat → List Oper → St → Tree
  | 0, _, _ => .bad (0, 0)
  | _ + 1, [], σ => .leaf .normal σ
  | n + 1, o :: l, σ =>
    let sl := fun t => σ.sl.getD t none
    match guardM all σ.pc sl o with
    | none => .bad (id + 1, all.length - l.length - 1)
    | some (.inr x) => .br x (seqR all id n (o :: l) (σ.assume x true)) (seqR all id n (o :: l) (σ.assume x false))
    | some (.inl false) => σ.effK o.dst { v := .tup [] } (seqR all id n l)
    | some (.inl true) => match evalOp P F K σ.pc (opV sl) σ.b σ.bk.length o.op with
      | some (e, q) => e.fc fun e => if e.fits σ.bk.length then (if q.isEmpty then σ.effK o.dst e (seqR all id n l) else .need q (σ.effK o.dst e (seqR all id n l))) else .bad (id + 1, 3000 + (all.length - l.length - 1))
      | none => match splitOf P σ.pc sl o.op with
        | .split x => .br x (seqR all id n (o :: l) (σ.assume x true)) (seqR all id n (o :: l) (σ.assume x false))
        | _ => .bad (id + 1, all.length - l.length - 1)
/-- code in a state (d: how many loops there are round it) -/
def code : Nat → Nat → Code → St → Tree
  | 0, _, _, _ => .bad (0, 0)
  | n + 1, d, c, σ => match c with
    | .skip => .leaf .normal σ
    | .region id ops false => if ops.toList.all (fun o => match o.dst with | some t => decide (t < σ.sl.length) | none => true) then seqR P F K ops.toList id 1000 ops.toList σ else .bad (id + 1, 5000)
    | .region id ops true => let draw := true; match region P F K draw σ ops with
      | .ok effs need => if need.isEmpty then .leaf .normal (after ops.toList σ.bk.length σ effs) else .need need (.leaf .normal (after ops.toList σ.bk.length σ effs))
      | .split c => .br c (code n d (.region id ops draw) (σ.assume c true)) (code n d (.region id ops draw) (σ.assume c false))
      | .bad i => .bad (id + 1, i)
    | .seq a b => (code n d a σ).bind M fun σ' => code n d b σ'
    | .cond c t e => match one? (opV (fun t => σ.sl.getD t none) c) with
      | some (.bool x) => match dec σ.pc x with
        | some true => code n d t σ
        | some false => code n d e σ
        | none => .br x (code n d t (σ.assume x true)) (code n d e (σ.assume x false))
      | _ => .bad (0, 1)
    | .block id b =>
      let plain := (code n d b σ).graft (fun e σ' => .leaf (if e = .exit id then .normal else e) σ')
      match b with
      | .loop c => if sym.contains id then
          natK (max σ.nv 1) fun n0 => σ.fc fun σ =>
          findHeadK M n0 (fun τ => code n (d + 1) c τ) 6 { σ with nv := n0 } fun h0 =>
          St.fc { h0 with pc := σ.pc.filter fun q => q.1.low n0 } fun h =>
          match enter F M n0 h σ with
          | some s => if n0 ≤ h.nv then .loop d n0 s ((code n (d + 1) c h).graft (fun e σ' => match e with
            | .normal => (match enter F M n0 h σ' with
              | some s' => .back d s'
              | none => .bad (id + 1, 2000))
            | .exit id' => .leaf (if id' = id then .normal else .exit id') σ'
            | .ret => .leaf .ret σ')) else .bad (id + 1, 2002)
          | none => .bad (id + 1, 2001)
        else plain
      | _ => plain
    | .loop b => (code n d b σ).bind M fun σ' => code n d (.loop b) σ'
    | .exit id => .leaf (.exit id) σ
    | .ret => .leaf .ret σ
    | _ => .bad (0, 2)
def resOf (σ : St) : ResultVar → Option S1
  | .tmp t => match σ.sl.getD t none with
    | some (.v x) => some x
    | _ => none
  | .cell t ty => match one? (σ.sl.getD t none), tAgg P ty, tSize P ty with
    | some (.ptr id off), some true, some n => match σ.b id with
      | some (.box cs) => if off + n ≤ cs.length then some (.agg ((cs.drop off).take n)) else none
      | _ => none
    | some (.ptr id off), some false, _ => match σ.b id with
      | some (.box cs) => (cs[off]?).map .one
      | _ => none
    | _, _, _ => none
def ressOf (σ : St) : List ResultVar → Option (List S1)
  | [] => some []
  | r :: l => match resOf P σ r, ressOf σ l with
    | some x, some xs => some (x :: xs)
    | _, _ => none
def resultOf (σ : St) (fn : Func) : Option SV :=
  match fn.results.toList with
  | [.tmp t] => σ.sl.getD t none
  | l => match ressOf P σ l with
    | some [x] => some (.v x)
    | some xs => some (.tup xs)
    | none => none
def start (nb : Nat) (fn : Func) (args : List SV) (hp : List Blk) : St :=
  { sl := (args.map some) ++ List.replicate (fn.ntmps - args.length) (some (.tup [])), bk := hp.map some, pc := [], nv := nb }
/- what is to be shown at a function's end: kinds (0 an int, 1 a bool, 2 all), what there is, what is wanted; which new blocks are which -/
structure FE where
  q : List (Nat × X × X)
  id : List (Nat × Option Nat)
  deriving Inhabited
/-- i stands for the block b -/
def FE.bindId (s : FE) (i : Nat) (b : Option Nat) : Option FE := match s.id.find? (·.1 == i) with
  | some q => if q.2 = b ∧ b ≠ none then some s else none
  | none => some { s with id := s.id ++ [(i, b)] }
def finSc (h : Nat) (bk : BK) (nw : List Blk) (s : FE) : Sc → Sc → Option FE
  | .int k x, .int k' y => if k = k' then some { s with q := s.q ++ [(0, y, x)] } else none
  | .bool x, .bool y => some { s with q := s.q ++ [(1, y, x)] }
  | .str x, .str y => some { s with q := s.q ++ [(2, y, x)] }
  | .lst _ x, .nils => some { s with q := s.q ++ [(2, .lit .nil, x)] }
  | .lst e x, c => match sliceX bk c with
    | some (e', y, []) => if e = e' then some { s with q := s.q ++ [(2, y, x)] } else none
    | _ => none
  | .own i, .own id => if i < h ∨ nw.length ≤ i - h then none else match nw[i - h]?, bk id with
    | some (.row t e x), some (.row t' e' y) => if t = t' ∧ e = e' ∧ h ≤ id then ({ s with q := s.q ++ [(2, y, x)] } : FE).bindId i (some id) else none
    | _, _ => none
  | .own i, .nils => if i < h ∨ nw.length ≤ i - h then none else match nw[i - h]? with
    | some (.row _ e x) => if e.size = 0 then none else ({ s with q := s.q ++ [(2, .lit .nil, x)] } : FE).bindId i none
    | _ => none
  | .ptr i o, .ptr id o' => if i = id ∧ o = o' ∧ i < h then some s else none
  | .nilp, .nilp => some s
  | .nils, .nils => some s
  | .opq i, .opq j => if i = j then some s else none
  | .fn f, .fn g => if f = g then some s else none
  | _, _ => none
def finL (h : Nat) (bk : BK) (nw : List Blk) : FE → List Sc → List Sc → Option FE
  | s, [], [] => some s
  | s, a :: l, b :: r => match finSc h bk nw s a b with
    | some s' => finL h bk nw s' l r
    | none => none
  | _, _, _ => none
def fin1 (h : Nat) (bk : BK) (nw : List Blk) (s : FE) : S1 → S1 → Option FE
  | .one a, .one b => finSc h bk nw s a b
  | .agg a, .agg b => finL h bk nw s a b
  | _, _ => none
def finT (h : Nat) (bk : BK) (nw : List Blk) : FE → List S1 → List S1 → Option FE
  | s, [], [] => some s
  | s, a :: l, b :: r => match fin1 h bk nw s a b with
    | some s' => finT h bk nw s' l r
    | none => none
  | _, _, _ => none
def finV (h : Nat) (bk : BK) (nw : List Blk) (s : FE) : SV → SV → Option FE
  | .v a, .v b => fin1 h bk nw s a b
  | .tup a, .tup b => finT h bk nw s a b
  | _, _ => none
def finP (h : Nat) (bk : BK) (nw : List Blk) : FE → Nat → List (Option Blk) → Option FE
  | s, _, [] => some s
  | s, i, none :: l => finP h bk nw s (i + 1) l
  | s, i, some (.box a) :: l => match bk i with
    | some (.box b) => (match finL h bk nw s a b with | some s' => finP h bk nw s' (i + 1) l | none => none)
    | _ => none
  | s, i, some (.row t e x) :: l => match bk i with
    | some (.row t' e' y) => if t = t' ∧ e = e' then finP h bk nw { s with q := s.q ++ [(2, y, x)] } (i + 1) l else none
    | _ => none
  | _, _, _ => none
/-- a function's end against a contract's -/
def finish (c : Con) (fn : Func) : Ex → St → Tree := fun e σ =>
  if e = .normal ∨ e = .ret then (match resultOf P σ fn with
    | some v => (match (finV c.hp.length σ.b c.nw ⟨[], []⟩ c.res v).bind fun s => finP c.hp.length σ.b c.nw s 0 c.post with
      | some s => if (List.range c.nw.length).all (fun k => s.id.any fun q => q.1 == c.hp.length + k) && nodupB (s.id.filterMap (·.2)) && σ.ok then
          .fin (s.q.filter fun q => decide (q.2.1 ≠ q.2.2)) else .bad (0, 8)
      | none => .bad (0, 9))
    | none => .bad (0, 4)) else .bad (0, 5)
def fnCode (fuel : Nat) (c : Con) (nb : Nat) : Tree :=
  match P.funcs[c.f]? with
  | some fn => match fn.body with
    | some b => if c.pat.length ≤ fn.ntmps ∧ c.hp.length = M then code P F K M sym fuel 0 b (start nb fn c.pat c.hp) else .bad (0, 10)
    | none => .bad (0, 6)
  | none => .bad (0, 7)
/-- all that is to be shown of a call, for a contract -/
def fnTree (fuel : Nat) (c : Con) (nb : Nat) : Tree :=
  match P.funcs[c.f]? with
  | some fn => (fnCode P F K M sym fuel c nb).graft (finish P c fn)
  | none => .bad (0, 7)
/- a contract by program: the cells of the results and of the blocks, by conditions -/
def cellsX (bk : BK) : List CK → List Sc → Option (List X)
  | [], [] => some []
  | a :: l, c :: r => match c.toX bk a, cellsX bk l r with
    | some q, some xs => some (q.1 :: xs)
    | _, _ => none
  | _, _ => none
def SV.all : SV → List Sc
  | .v x => x.cells
  | .tup l => l.flatMap S1.cells
def boxCells (bk : BK) (h : Nat) : List Sc := (List.range h).flatMap fun i => match bk i with | some (.box cs) => cs | _ => []
def phiK (c : X) : List CK → List X → List X → List X
  | .bool :: k, x :: l, y :: r => phiB c x y :: phiK c k l r
  | _ :: k, x :: l, y :: r => mk3 .ite c x y :: phiK c k l r
  | _, _, _ => []
def impX (c : X) (b : Bool) (x : X) : X := if b then mk2 .or (mk1 .not c) x else mk2 .or c x
/-- the ends of a tree as one: when one is reached, what it says, what must be so -/
def Tree.one (fn : Func) (ks : List CK) : PC → Tree → Option (Option (X × List X) × List X)
  | _, .leaf _ σ => match resultOf P σ fn with
    | some v => (cellsX σ.b ks (v.all ++ boxCells σ.b M)).map fun l => (some (.lit (.b true), l), [])
    | none => none
  | pc, .br c t e => match t.one fn ks (facts c true ++ pc), e.one fn ks (facts c false ++ pc) with
    | some (some (x, l), q), some (some (y, r), p) => some (some (phiB c x y, phiK c ks l r), q.map (impX c true) ++ p.map (impX c false))
    | some (some (x, l), q), some (none, p) => some (some (mk2 .and c x, l), q.map (impX c true) ++ p.map (impX c false))
    | some (none, q), some (some (y, r), p) => some (some (mk2 .and (mk1 .not c) y, r), q.map (impX c true) ++ p.map (impX c false))
    | some (none, q), some (none, p) => some (none, q.map (impX c true) ++ p.map (impX c false))
    | _, _ => none
  | pc, .need l t => (t.one fn ks pc).map fun r => (r.1, (l.filter fun x => decide (dec pc x ≠ some true)) ++ r.2)
  | _, .met => some (none, [])
  | pc, .join t c m => match t.one fn ks pc, m.one fn ks (facts c true ++ pc) with
    | some (none, q), some (none, p) => some (none, q ++ p.map (impX c true))
    | some (none, q), some (some (y, r), p) => some (some (mk2 .and c y, r), q ++ p.map (impX c true))
    | some (some (x, l), q), some (none, p) => some (some (x, l), q ++ p.map (impX c true))
    | some (some (x, l), q), some (some (y, r), p) => some (some (mk2 .or x (mk2 .and c y), phiK x ks l r), q ++ p.map (impX c true))
    | _, _ => none
  | _, _ => none
end
end
end Go.Sz
