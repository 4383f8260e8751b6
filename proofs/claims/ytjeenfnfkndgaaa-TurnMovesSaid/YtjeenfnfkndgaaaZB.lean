/- The evaluator: operations, calls by contracts, regions. -/
import Derived.Test.YtjeenfnfkndgaaaZA
namespace Go.Sz
open Go
noncomputable section

/- substitution -/
def Sc.sub (F : Fs) (s : Sub) : Sc → Sc
  | .int k x => .int k (x.sub F s)
  | .bool x => .bool (x.sub F s)
  | .str x => .str (x.sub F s)
  | .lst e x => .lst e (x.sub F s)
  | .own id => .own (lookN s.id id)
  | .ptr id off => .ptr (lookN s.id id) off
  | .rp id sz x off => .rp (lookN s.id id) sz (x.sub F s) off
  | .lp ks x => .lp ks (x.sub F s)
  | .opq j => .opq (lookN s.v j)
  | c => c
def S1.sub (F : Fs) (s : Sub) : S1 → S1
  | .one c => .one (c.sub F s)
  | .agg l => .agg (l.map (Sc.sub F s))
def SV.sub (F : Fs) (s : Sub) : SV → SV
  | .v x => .v (x.sub F s)
  | .tup l => .tup (l.map (S1.sub F s))
def Blk.sub (F : Fs) (s : Sub) : Blk → Blk
  | .box cs => .box (cs.map (Sc.sub F s))
  | .row t e x => .row t e (x.sub F s)
  | .froz e x => .froz e (x.sub F s)
/-- rows that must be kept: which, as what -/
abbrev Ws := List (Nat × Option Blk)
def joinW (a b : Ws) : Ws := a ++ b.filter fun q => !(a.any fun p => p.1 == q.1)
/- a pattern against values: what its variables and blocks are -/
def colX : Sub → X → X → Sub
  | s, .var j, x => { s with x := s.x ++ [(j, x)] }
  | s, .o2 .cons a b, .o2 .cons c d => colX (colX s a c) b d
  | s, _, _ => s
def colSc (bk : BK) (s : Sub) : Sc → Sc → Sub
  | .int _ (.var j), .int _ x => { s with x := s.x ++ [(j, x)] }
  | .bool (.var j), .bool x => { s with x := s.x ++ [(j, x)] }
  | .str (.var j), .str x => { s with x := s.x ++ [(j, x)] }
  | .lst _ (.var j), .nils => { s with x := s.x ++ [(j, .lit .nil)] }
  | .lst _ y, c => match sliceX bk c with
    | some (_, x, _) => colX s y x
    | none => s
  | .own i, .own id => { s with id := s.id ++ [(i, id)] }
  | .ptr i _, .ptr id _ => { s with id := s.id ++ [(i, id)] }
  | .rp i _ (.var j) _, .rp id _ x _ => { s with id := s.id ++ [(i, id)], x := s.x ++ [(j, x)] }
  | .lp _ (.var j), .lp _ x => { s with x := s.x ++ [(j, x)] }
  | .opq i, .opq j => { s with v := s.v ++ [(i, j)] }
  | _, _ => s
def colL (bk : BK) : Sub → List Sc → List Sc → Sub
  | s, a :: l, b :: m => colL bk (colSc bk s a b) l m
  | s, _, _ => s
def col1 (bk : BK) (s : Sub) (a b : S1) : Sub := colL bk s a.cells b.cells
def colT (bk : BK) : Sub → List S1 → List S1 → Sub
  | s, a :: l, b :: m => colT bk (col1 bk s a b) l m
  | s, _, _ => s
def colV (bk : BK) (s : Sub) : SV → SV → Sub
  | .v a, .v b => col1 bk s a b
  | .tup a, .tup b => colT bk s a b
  | _, _ => s
def colA (bk : BK) : Sub → List SV → List SV → Sub
  | s, a :: l, b :: m => colA bk (colV bk s a b) l m
  | s, _, _ => s
def colB (bk : BK) (s : Sub) : Blk → Option Blk → Sub
  | .box a, some (.box b) => colL bk s a b
  | .row _ _ (.var j), some (.row _ _ x) => { s with x := s.x ++ [(j, x)] }
  | .froz _ (.var j), some (.froz _ x) => { s with x := s.x ++ [(j, x)] }
  | _, _ => s
def colH (bk : BK) : Sub → Nat → List Blk → Sub
  | s, _, [] => s
  | s, i, b :: l => colH bk (colB bk s b (bk (lookN s.id i))) (i + 1) l
section
variable (P : Program) (F : Fs) (K : List Con)
/- the pattern's instance is what is there; the rows that must be kept -/
def instSc (bk : BK) (s : Sub) (p c : Sc) : Option Ws := match p with
  | .lst e x => match sliceX bk c with
    | some (e', y, ws) => if e = e' ∧ x.sub F s = y then some ws else none
    | none => if c = .nils ∧ x.sub F s = .lit .nil then some [] else none
  | p => if p.sub F s = c then some [] else none
def instL (bk : BK) (s : Sub) : List Sc → List Sc → Option Ws
  | [], [] => some []
  | a :: l, b :: m => match instSc F bk s a b, instL bk s l m with
    | some ws, some vs => some (joinW ws vs)
    | _, _ => none
  | _, _ => none
def inst1 (bk : BK) (s : Sub) : S1 → S1 → Option Ws
  | .one a, .one b => instSc F bk s a b
  | .agg a, .agg b => instL F bk s a b
  | _, _ => none
def instT (bk : BK) (s : Sub) : List S1 → List S1 → Option Ws
  | [], [] => some []
  | a :: l, b :: m => match inst1 F bk s a b, instT bk s l m with
    | some ws, some vs => some (joinW ws vs)
    | _, _ => none
  | _, _ => none
def instV (bk : BK) (s : Sub) : SV → SV → Option Ws
  | .v a, .v b => inst1 F bk s a b
  | .tup a, .tup b => instT F bk s a b
  | _, _ => none
def instA (bk : BK) (s : Sub) : List SV → List SV → Option Ws
  | [], [] => some []
  | a :: l, b :: m => match instV F bk s a b, instA bk s l m with
    | some ws, some vs => some (joinW ws vs)
    | _, _ => none
  | _, _ => none
def instB (bk : BK) (s : Sub) : Blk → Option Blk → Option Ws
  | .box a, some (.box b) => instL F bk s a b
  | .row t e x, some (.row t' e' y) => if t = t' ∧ e = e' ∧ x.sub F s = y then some [] else none
  | .froz e x, some (.froz e' y) => if e = e' ∧ x.sub F s = y then some [] else none
  | _, _ => none
def instH (bk : BK) (s : Sub) : Nat → List Blk → Option Ws
  | _, [] => some []
  | i, b :: l => match instB F bk s b (bk (lookN s.id i)), instH bk s (i + 1) l with
    | some ws, some vs => some (joinW ws vs)
    | _, _ => none
def nodupB : List Nat → Bool
  | [] => true
  | a :: l => !l.contains a && nodupB l
def Sc.isLst : Sc → Bool
  | .lst .. | .lp .. => true
  | _ => false
def SV.any (p : Sc → Bool) : SV → Bool
  | .v x => x.cells.any p
  | .tup l => l.any fun x => x.cells.any p
/-- it may name memory of what was handed in -/
def Blk.alias : Blk → Bool
  | .box cs => cs.any Sc.isLst
  | .row _ e _ => !e.flat
  | .froz .. => true
def Con.alias (c : Con) : Bool := c.res.any Sc.isLst || c.nw.any Blk.alias || c.post.any fun | some b => b.alias | none => false
def postW (s : Sub) : Nat → List (Option Blk) → Ws
  | _, [] => []
  | i, b :: l => (lookN s.id i, b.map (Blk.sub F s)) :: postW s (i + 1) l
/-- numbers of blocks in a value -/
def Sc.ids (p : Nat → Bool) : Sc → Bool
  | .own id | .ptr id _ | .rp id _ _ _ => p id
  | _ => true
def S1.ids (p : Nat → Bool) (x : S1) : Bool := x.cells.all (Sc.ids p)
def SV.ids (p : Nat → Bool) : SV → Bool
  | .v x => x.ids p
  | .tup l => l.all (S1.ids p)
def Blk.ids (p : Nat → Bool) : Blk → Bool
  | .box cs => cs.all (Sc.ids p)
  | _ => true
/-- what a contract must be like -/
def Con.fit (c : Con) : Bool :=
  let h := c.hp.length
  c.pat.all (SV.ids (decide <| · < h)) && c.hp.all (fun b => b.ids (decide <| · < h) && b.mut) && c.res.ids (decide <| · < h + c.nw.length) && c.nw.all (fun b => b.ids (decide <| · < h + c.nw.length)) && decide (c.post.length = h) && c.post.all (fun | some b => b.ids (decide <| · < h + c.nw.length) | none => true)
/-- a call by a contract -/
def Con.at (bk : BK) (nid : Nat) (c : Con) (args : List SV) : ER :=
  let h := c.hp.length
  let s1 := colH bk (colA bk ⟨0, [], [], []⟩ c.pat args) 0 c.hp
  let s : Sub := { s1 with id := (List.range (h + c.nw.length)).map fun i => (i, if i < h then lookN s1.id i else nid + (i - h)) }
  let ids := (List.range h).map (lookN s.id)
  match instA F bk s c.pat args, instH F bk s 0 c.hp with
  | some ws, some vs =>
    let fz := joinW ws vs
    if s.n = 0 ∧ c.fit = true ∧ nodupB ids = true ∧ (∀ q ∈ fz, q.1 ∉ ids) then
      some ({ v := c.res.sub F s, wr := postW F s 0 c.post ++ (if c.alias then fz else []), nw := c.nw.map (Blk.sub F s) }, needs (c.need.map (X.sub F s))) else none
  | _, _ => none
def callK (bk : BK) (nid : Nat) : List Con → FuncId → List SV → ER
  | [], _, _ => none
  | c :: K, f, args => if c.f = f then (match c.at F bk nid args with | some r => some r | none => callK bk nid K f args) else callK bk nid K f args
/-- bytes that a row may have -/
def maxBytes : Nat := 140737488355328
/-- append of a slice to one's own -/
def appS (bk : BK) (nid : Nat) (t : TypeId) (a b : Option SV) : ER :=
  match P.underlying t with
  | some (.slice el) => match (P.info? el).map (fun i => (i.size, i.bytes, i.zero.map (·.cells.size))), one? a, (one? b).bind (sliceX bk) with
    | some (sz, by_, some z), some s, some (e, y, ws) =>
      if z = sz ∧ e.size = sz ∧ 0 < sz ∧ 0 < by_ then
        let ln (x : X) : List X := needs [mk2 .le (mk2 .pl (mk1 .len x) (mk1 .len y)) (.lit (.i ((maxBytes / by_ : Nat) : Int)))]
        (match s with
        | .nils => some ({ v := .v (.one (.own nid)), nw := [.row el e y] }, ln (.lit .nil))
        | .own r => (match bk r with
          | some (.row el' e' x) => if el' = el ∧ e' = e ∧ ws.all (fun q => q.1 != r) then some ({ v := .v (.one (.own nid)), wr := [(r, none)], nw := [.row el e (mk2 .app x y)] }, ln x) else none
          | _ => none)
        | _ => none)
      else none
    | _, _, _ => none
  | _ => none
/-- calls -/
def eLen (bk : BK) (ev : Operand → Option SV) (c : Call) : ER := match c.argTypes[0]?, c.args.toList with
  | some t, [a] => match P.underlying t, one? (ev a) with
    | some (.slice _), some .nils => okv (.v (.one (.int .i64 (.lit (.i 0)))))
    | some (.slice _), some c => (sliceX bk c).bind fun q => okv (.v (.one (.int .i64 (mk1 .len q.2.1))))
    | some .string, some (.str x) => okv (.v (.one (.int .i64 (mk1 .len x))))
    | _, _ => none
  | _, _ => none
def eAppend (bk : BK) (nid : Nat) (ev : Operand → Option SV) (c : Call) : ER := match c.argTypes.toList, c.args.toList with
  | [t, t'], [a, b] => if t = t' then appS P bk nid t (ev a) (ev b) else none
  | _, _ => none
def eMin (ev : Operand → Option SV) (c : Call) : ER := match c.args.toList with
  | [a, b] => match one? (ev a), one? (ev b) with
    | some (.int k x), some (.int _ y) => okv (.v (.one (.int k (mk2 .mn x y))))
    | _, _ => none
  | _ => none
def eMax (ev : Operand → Option SV) (c : Call) : ER := match c.args.toList with
  | [a, b] => match one? (ev a), one? (ev b) with
    | some (.int k x), some (.int _ y) => okv (.v (.one (.int k (mk2 .mx x y))))
    | _, _ => none
  | _ => none
def eFunc (bk : BK) (nid : Nat) (ev : Operand → Option SV) (f : Operand) (l : List Operand) : ER := match one? (ev f) with
  | some (.fn f) => match P.funcs[f]? with
    | some fn => if fn.body.isSome && fn.name != "runtime.NumGoroutine" then (match evs ev l with
      | some as => callK F bk nid K f as
      | none => none) else none
    | none => none
  | _ => none
def evalCall (bk : BK) (nid : Nat) (ev : Operand → Option SV) (c : Call) : ER := match c.callee with
  | .builtin .len => eLen P bk ev c
  | .builtin .append => eAppend P bk nid ev c
  | .builtin .min => eMin ev c
  | .builtin .max => eMax ev c
  | .value f => eFunc P F K bk nid ev f c.args.toList
  | _ => none
def sliceArg (ev : Operand → Option SV) : Option Operand → Option (Option X)
  | none => some none
  | some a => match one? (ev a) with
    | some (.int _ x) => some (some x)
    | _ => none
/-- an address as block's number, cells, place among them: of a box -/
def boxAt (bk : BK) (id : Nat) : Option (List Sc) := match bk id with
  | some (.box cs) => some cs
  | _ => none
/-- n cells at an address, and what must be so -/
def cellsAt (bk : BK) (n : Nat) : Sc → Option (List Sc × List X)
  | .ptr id off => match bk id with
    | some (.box cs) => if off + n ≤ cs.length then some ((cs.drop off).take n, []) else none
    | _ => none
  | .rp id sz x off => match bk id with
    | some (.row _ e c) => if e.size = sz ∧ off + n ≤ sz then (unpack e (mk2 .get c x) 0).map fun l => ((l.drop off).take n, needs [mk2 .le (.lit (.i 0)) x, mk2 .lt x (mk1 .len c)]) else none
    | _ => none
  | .lp ks x => if n ≤ ks.size then (unpack ks x 0).map fun l => (l.take n, []) else none
  | _ => none
def ePick (pc : PC) (ev : Operand → Option SV) (c a b : Operand) : ER :=
  match one? (ev c) with
  | some (.bool x) => match dec pc x with
    | some true => (ev a).bind okv
    | some false => (ev b).bind okv
    | none => none
  | _ => none
def eAlloc (nid : Nat) (t : TypeId) : ER :=
  (tZero P t).map fun z => ({ v := .v (.one (.ptr nid 0)), nw := [.box z.cells] }, [])
def eBox (ev : Operand → Option SV) (nid : Nat) (x : Operand) : ER :=
  match ev x with
  | some (.v x) => some ({ v := .v (.one (.ptr nid 0)), nw := [.box x.cells] }, [])
  | _ => none
def eBuild (ev : Operand → Option SV) (t : TypeId) (parts : Array (Nat × Operand)) : ER :=
  match tZero P t, P.underlying t, evParts ev parts.toList with
  | some z, some (.struct fields), some ps => match places P fields.toList with
    | some pl => (fillS (pl[·]?) z.cells ps).bind fun l => okv (.v (.agg l))
    | none => none
  | some z, some (.array _ elem), some ps => match tSize P elem with
    | some n => (fillS (fun i => some (i * n, n)) z.cells ps).bind fun l => okv (.v (.agg l))
    | none => none
  | _, _, _ => none
def eBuildSlice (ev : Operand → Option SV) (bk : BK) (nid : Nat) (t : TypeId) (len : Nat) (parts : Array (Nat × Operand)) : ER :=
  match P.underlying t, evParts ev parts.toList with
  | some (.slice elem), some ps => match tSize P elem, tZero P elem, ckT P 20 elem with
    | some n, some z, some e => if z.cells.length = n ∧ e.size = n ∧ 0 < len * n ∧ len * n ≤ 1000 then (fillS (fun i => some (i * n, n)) (List.replicate len z.cells).flatten ps).bind fun l => (packE bk e n len l).map fun q => ({ v := .v (.one (.own nid)), wr := q.2, nw := [.row elem e q.1] }, []) else none
    | _, _, _ => none
  | _, _ => none
def eLoad (ev : Operand → Option SV) (bk : BK) (t : TypeId) (a : Operand) : ER :=
  match one? (ev a), tAgg P t, tSize P t with
  | some c, some true, some n => if n = 0 then none else (cellsAt bk n c).map fun q => ({ v := .v (.agg q.1) }, q.2)
  | some c, some false, _ => match cellsAt bk 1 c with
    | some ([x], q) => some ({ v := .v (.one x) }, q)
    | _ => none
  | _, _, _ => none
def storeBox (bk : BK) (id off n : Nat) (v : S1) : ER := match bk id with
  | some (.box cs) => if v.cells.length = n ∧ off + n ≤ cs.length ∧ 0 < n then some ({ v := .tup [], wr := [(id, some (.box (cs.take off ++ v.cells ++ cs.drop (off + n))))] }, []) else none
  | _ => none
def storeRow (bk : BK) (id sz : Nat) (x : X) (off n : Nat) (v : S1) : ER := match bk id with
  | some (.row t' e c) => if v.cells.length = n ∧ e.size = sz ∧ off + n ≤ sz ∧ 0 < n then (match unpack e (mk2 .get c x) 0 with
    | some l => (match packL bk e (l.take off ++ v.cells ++ l.drop (off + n)) with
      | some (y, ws) => if ws.all (fun q => q.1 != id) then some ({ v := .tup [], wr := (id, some (.row t' e (mk3 .set c x y))) :: ws }, needs [mk2 .le (.lit (.i 0)) x, mk2 .lt x (mk1 .len c)]) else none
      | none => none)
    | none => none) else none
  | _ => none
def eStore (ev : Operand → Option SV) (bk : BK) (t : TypeId) (a x : Operand) : ER := match one? (ev a), tSize P t, ev x with
  | some (.ptr id off), some n, some (.v v) => storeBox bk id off n v
  | some (.rp id sz x off), some n, some (.v v) => storeRow bk id sz x off n v
  | _, _, _ => none
def eNilCheck (ev : Operand → Option SV) (x : Operand) : ER :=
  match one? (ev x) with
  | some (.ptr id off) => okv (.v (.one (.ptr id off)))
  | some (.rp id sz x off) => okv (.v (.one (.rp id sz x off)))
  | some (.lp ks x) => okv (.v (.one (.lp ks x)))
  | _ => none
def binInt (op : BinOp) (k : IntKind) (a : X) (k' : IntKind) (b : X) : ER := match op with
  | .shl => some ({ v := .v (.one (.int k (mk2 (.shl k) a b))) }, needs [mk2 .le (.lit (.i 0)) b])
  | .shr => if k.bits = 64 then some ({ v := .v (.one (.int k (mk2 .shr a b))) }, needs [mk2 .le (.lit (.i 0)) b]) else none
  | op => if k = k' then binS op k a b else none
def binBool (op : BinOp) (a b : X) : ER := match op with
  | .eql => okv (.v (.one (.bool (mk2 .eqb a b))))
  | .neq => okv (.v (.one (.bool (mk1 .not (mk2 .eqb a b)))))
  | _ => none
def binAgg (op : BinOp) (t : TypeId) (a b : List Sc) : ER := match eqT P 20 t with
  | some ks => if kindsAre ks a && kindsAre ks b && !P.eqGuardType P.depth t && tAgg P t == some true then (match op with
    | .eql => (eqCells a b).bind fun x => okv (.v (.one (.bool x)))
    | .neq => (eqCells a b).bind fun x => okv (.v (.one (.bool (mk1 .not x))))
    | _ => none) else none
  | none => none
def isBool : Option TypeDesc → Bool
  | some .bool => true
  | _ => false
def eBinOp (ev : Operand → Option SV) (op : BinOp) (t : TypeId) (x y : Operand) : ER := match ev x, ev y with
  | some (.v (.one (.int k a))), some (.v (.one (.int k' b))) => binInt op k a k' b
  | some (.v (.one (.bool a))), some (.v (.one (.bool b))) => if isBool (P.underlying t) then binBool op a b else none
  | some (.v (.agg a)), some (.v (.agg b)) => binAgg P op t a b
  | _, _ => none
def eUnOp (ev : Operand → Option SV) (op : UnOp) (x : Operand) : ER :=
  match op, one? (ev x) with
  | .neg, some (.int k a) => okv (.v (.one (.int k (mk2 (.sub k) (.lit (.i 0)) a))))
  | .not, some (.bool a) => okv (.v (.one (.bool (mk1 .not a))))
  | _, _ => none
def eConvert (ev : Operand → Option SV) (src dst : TypeId) (x : Operand) : ER :=
  match P.underlying src, P.underlying dst, one? (ev x) with
  | some (.int _), some (.int k), some (.int _ a) => okv (.v (.one (.int k (mk1 (.cv k) a))))
  | _, _, _ => none
def eFieldAddr (ev : Operand → Option SV) (s : TypeId) (x : Operand) (f : Nat) : ER :=
  match P.underlying s, one? (ev x) with
  | some (.struct fields), some c => match fields[f]? with
    | some fd => match tSize P fd.type with
      | some n => if n = 0 then none else (match c with
        | .ptr id off => okv (.v (.one (.ptr id (off + fd.offset))))
        | .rp id sz x off => okv (.v (.one (.rp id sz x (off + fd.offset))))
        | .lp ks x => if fd.offset < ks.size then okv (.v (.one (.lp (ks.drop fd.offset) (mk2 .drop x (.lit (.i (fd.offset : Int))))))) else none
        | _ => none)
      | none => none
    | none => none
  | _, _ => none
def eField (ev : Operand → Option SV) (t : TypeId) (x : Operand) (f : Nat) : ER :=
  match P.underlying t, ev x with
  | some (.struct fields), some (.v (.agg l)) => match fields[f]? with
    | some fd => (partS P fd.type l fd.offset).bind fun v => okv (.v v)
    | none => none
  | _, _ => none
def elemOf (c : Sc) (n j : Nat) (q : List X) : ER := match c with
  | .ptr id off => some ({ v := .v (.one (.ptr id (off + j * n))) }, q)
  | .rp id sz x off => some ({ v := .v (.one (.rp id sz x (off + j * n))) }, q)
  | .lp ks x => if j * n < ks.size then some ({ v := .v (.one (.lp (ks.drop (j * n)) (mk2 .drop x (.lit (.i ((j * n : Nat) : Int)))))) }, q) else none
  | _ => none
def lpAt (e : CK) (n : Nat) (x i : X) : ER := if e.size = n ∧ 0 < n then some ({ v := .v (.one (.lp e (mk2 .get x i))) }, needs [mk2 .le (.lit (.i 0)) i, mk2 .lt i (mk1 .len x)]) else none
def rowAt (bk : BK) (c : Sc) (n : Nat) (i : X) : ER := match c with
  | .own id => match bk id with
    | some (.row _ e x) => if e.size = n ∧ 0 < n then some ({ v := .v (.one (.rp id n i 0)) }, needs [mk2 .le (.lit (.i 0)) i, mk2 .lt i (mk1 .len x)]) else none
    | some (.froz e x) => lpAt e n x i
    | _ => none
  | .lst e x => lpAt e n x i
  | _ => none
def eIndexAddr (pc : PC) (ev : Operand → Option SV) (bk : BK) (t : TypeId) (x ix : Operand) : ER := match P.underlying t, one? (ev x), one? (ev ix) with
  | some (.array len elem), some c, some (.int _ i) => match tSize P elem, idxLit pc i len with
    | some n, some (j, q) => if 0 ≤ j ∧ j < len then elemOf c n j.toNat q else none
    | _, _ => none
  | some (.slice elem), some c, some (.int _ i) => match tSize P elem with
    | some n => rowAt bk c n i
    | none => none
  | _, _, _ => none
def eIndex (pc : PC) (ev : Operand → Option SV) (t : TypeId) (x ix : Operand) : ER :=
  match P.underlying t, ev x, one? (ev ix) with
  | some (.array len elem), some (.v (.agg l)), some (.int _ i) => match tSize P elem, idxLit pc i len with
    | some n, some (j, q) => if 0 ≤ j ∧ j < len then (partS P elem l (j.toNat * n)).map fun v => ({ v := .v v }, q) else none
    | _, _ => none
  | _, _, _ => none
/-- a part of a list -/
def cutX (l h : Option X) (x : X) : X :=
  let y := match h with | some b => mk2 .take x b | none => x
  match l with | some a => mk2 .drop y a | none => y
def cutNeed (l h : Option X) (x : X) : List X :=
  let a := l.getD (.lit (.i 0))
  let b := h.getD (mk1 .len x)
  needs [mk2 .le (.lit (.i 0)) a, mk2 .le a b, mk2 .le b (mk1 .len x)]
def eSlice (ev : Operand → Option SV) (bk : BK) (t : TypeId) (x : Operand) (lo hi mx : Option Operand) : ER :=
  match mx with
  | none => match P.underlying t, one? (ev x), sliceArg ev lo, sliceArg ev hi with
    | some (.slice elem), some c, some l, some h => match sliceX bk c, tSize P elem with
      | some (e, x, ws), some n => if e.size = n ∧ 0 < n then some ({ v := .v (.one (.lst e (cutX l h x))), wr := ws }, cutNeed l h x) else none
      | _, _ => none
    | _, _, _, _ => none
  | some _ => none
def eMakeSlice (ev : Operand → Option SV) (bk : BK) (nid : Nat) (t : TypeId) (ln cp : Operand) : ER :=
  match P.underlying t, one? (ev ln), one? (ev cp) with
  | some (.slice elem), some (.int k n), some (.int k' m) => match (P.info? elem).map (fun i => (i.size, i.bytes)), tZero P elem, ckT P 20 elem with
    | some (sz, by_), some z, some e => if n = m ∧ k = .i64 ∧ k' = .i64 ∧ z.cells.length = sz ∧ e.size = sz ∧ 0 < sz ∧ 0 < by_ then (packL bk e z.cells).bind fun q => if q.2.isEmpty then some ({ v := .v (.one (.own nid)), nw := [.row elem e (mk2 .rep n q.1)] }, needs [mk2 .le (.lit (.i 0)) n, mk2 .le n (.lit (.i ((1000000 / by_ / sz : Nat) : Int)))]) else none else none
    | _, _, _ => none
  | _, _, _ => none
def eExtract (ev : Operand → Option SV) (t : Operand) (i : Nat) : ER :=
  match ev t with
  | some (.tup l) => (l[i]?).bind fun v => okv (.v v)
  | _ => none
/-- what an operation does (nid: the number of the first block that it makes) -/
def evalOp (pc : PC) (ev : Operand → Option SV) (bk : BK) (nid : Nat) (o : Op) : ER :=
  match o with
  | .move x | .assign x => (ev x).bind okv
  | .pick c a b => ePick pc ev c a b
  | .alloc t => eAlloc P nid t
  | .box _ x => eBox ev nid x
  | .build t parts => eBuild P ev t parts
  | .buildSlice t len parts => eBuildSlice P ev bk nid t len parts
  | .load t a => eLoad P ev bk t a
  | .store t a x => eStore P ev bk t a x
  | .nilCheck x => eNilCheck ev x
  | .binOp op t x y _yt => eBinOp P ev op t x y
  | .unOp op _ x => eUnOp ev op x
  | .convert src dst x => eConvert P ev src dst x
  | .fieldAddr s x f => eFieldAddr P ev s x f
  | .field t x f => eField P ev t x f
  | .indexAddr t x ix => eIndexAddr P pc ev bk t x ix
  | .index t x ix => eIndex P pc ev t x ix
  | .slice t x lo hi mx => eSlice P ev bk t x lo hi mx
  | .makeSlice t ln cp => eMakeSlice P ev bk nid t ln cp
  | .extract t i => eExtract ev t i
  | .call c => evalCall P F K bk nid ev c
  | _ => none
end
end
end Go.Sz
