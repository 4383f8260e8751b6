/- The evaluator: regions, code, functions. -/
import Derived.Test.YtjeenfnfkndgaaaZB
namespace Go.Sz
open Go
noncomputable section

/-- the operation that writes a slot -/
def writer (ops : List Oper) (t : Tmp) : Option Nat :=
  let i := ops.findIdx fun o => o.dst == some t
  if i < ops.length then some i else none
/-- no slot is written twice -/
def oneWriter : List Oper → Bool
  | [] => true
  | o :: l => (match o.dst with | some t => l.all fun q => q.dst != some t | none => true) && oneWriter l
structure St where
  sl : List (Option SV)
  bk : List (Option Blk)
  pc : PC
  nv : Nat := 0
  deriving DecidableEq, Inhabited
/-- operation i waits for operation j -/
def waits (dep : List Nat) (i j : Nat) : Bool := (dep.getD i 0).testBit j
def effV (effs : List Eff) (j : Nat) : Option SV := (effs[j]?).map Eff.v
/-- a slot when the operations L have been carried out -/
def slotAt (ops : List Oper) (σ : St) (effs : List Eff) (L : Nat → Bool) (t : Tmp) : Option SV :=
  match writer ops t with
  | none => σ.sl.getD t none
  | some j => if L j then effV effs j else σ.sl.getD t none
/-- what operation i finds in a slot -/
def slotM (ops : List Oper) (dep : List Nat) (σ : St) (effs : List Eff) (i : Nat) (t : Tmp) : Option SV :=
  match writer ops t with
  | none => σ.sl.getD t none
  | some j => if waits dep i j then effV effs j else if j = i ∨ waits dep j i then σ.sl.getD t none else none
def inWr (id : Nat) (e : Eff) : Bool := e.wr.any (·.1 == id)
/-- the last change of a block among the operations L -/
def findWr (L : Nat → Bool) (id : Nat) : List Eff → Nat → Option (Option Blk)
  | [], _ => none
  | e :: l, j => match findWr L id l (j + 1) with
    | some r => some r
    | none => if L j then (e.wr.find? (·.1 == id)).map (·.2) else none
/-- all that change a block are such -/
def allWr (ok : Nat → Bool) (id : Nat) : List Eff → Nat → Bool
  | [], _ => true
  | e :: l, j => (!inWr id e || ok j) && allWr ok id l (j + 1)
/-- who makes a block, and what it is then -/
def creator (id : Nat) : List Eff → Nat → Nat → Option (Nat × Blk)
  | [], _, _ => none
  | e :: l, j, base => if id < base then none else if id < base + e.nw.length then (e.nw[id - base]?).map fun b => (j, b) else creator id l (j + 1) (base + e.nw.length)
def baseOf (n0 : Nat) (effs : List Eff) (i : Nat) : Nat := n0 + ((effs.take i).map fun e => e.nw.length).sum
/-- a block when the operations L have been carried out -/
def blkAt (n0 : Nat) (σ : St) (effs : List Eff) (L : Nat → Bool) (id : Nat) : Option Blk :=
  match findWr L id effs 0 with
  | some b => b
  | none => if id < n0 then σ.bk.getD id none else match creator id effs 0 n0 with
    | some (j, b) => if L j then some b else none
    | none => none
/-- a block as operation i finds it -/
def blkM (dep : List Nat) (n0 : Nat) (σ : St) (effs : List Eff) (i id : Nat) : Option Blk :=
  if allWr (fun j => decide (j = i) || waits dep i j || waits dep j i) id effs 0 then blkAt n0 σ effs (waits dep i) id else none
def opV (sl : Tmp → Option SV) : Operand → Option SV
  | .tmp t => sl t
  | .const v => ofConst v
  | .func f => some (.v (.one (.fn f)))
  | .global _ => none
inductive OR where
  | ok (e : Eff) (need : List X) | split (c : X) | bad
  deriving DecidableEq, Inhabited
/-- is it carried out? -/
def guardM (ops : List Oper) (pc : PC) (sl : Tmp → Option SV) (o : Oper) : Option (Bool ⊕ X) :=
  match o.guard with
  | none => some (.inl true)
  | some (j, want) => match (ops[j]?).bind (·.dst) with
    | some d => match sl d with
      | some (.v (.one (.bool x))) => match dec pc x with
        | some b => some (.inl (b == want))
        | none => some (.inr x)
      | some (.tup []) => some (.inl false)
      | _ => none
    | none => none
section
variable (P : Program) (F : Fs) (K : List Con)
/-- a bool that an operation waits for -/
def splitOf (pc : PC) (sl : Tmp → Option SV) (o : Op) : OR := match o with
  | .pick c _ _ => match one? (opV sl c) with
    | some (.bool x) => match dec pc x with
      | some _ => .bad
      | none => .split x
    | _ => .bad
  | .indexAddr t _ ix => match P.underlying t, one? (opV sl ix) with
    | some (.array len _), some (.int _ i) => match idxAsk pc i len with
      | some c => .split c
      | none => .bad
    | _, _ => .bad
  | .index t _ ix => match P.underlying t, one? (opV sl ix) with
    | some (.array len _), some (.int _ i) => match idxAsk pc i len with
      | some c => .split c
      | none => .bad
    | _, _ => .bad
  | _ => .bad
def runOp (ops : List Oper) (dep : List Nat) (n0 : Nat) (σ : St) (effs : List Eff) (i : Nat) : OR :=
  match ops[i]? with
  | none => .bad
  | some o =>
    let sl := slotM ops dep σ effs i
    match guardM ops σ.pc sl o with
    | none => .bad
    | some (.inr x) => .split x
    | some (.inl false) => .ok { v := .tup [] } []
    | some (.inl true) => match evalOp P F K σ.pc (opV sl) (blkM dep n0 σ effs i) (baseOf n0 effs i) o.op with
      | some (e, need) => .ok e need
      | none => splitOf P σ.pc sl o.op
section
variable {α : Type}
/- the same, with all of a value laid open (so that the kernel need not reckon it again) -/
def natK : Nat → (Nat → α) → α
  | 0, k => k 0
  | n + 1, k => k (n + 1)
def intK : Int → (Int → α) → α
  | .ofNat n, k => natK n fun n => k (.ofNat n)
  | .negSucc n, k => natK n fun n => k (.negSucc n)
def boolK : Bool → (Bool → α) → α
  | true, k => k true
  | false, k => k false
def D.fc : D → (D → α) → α
  | .i n, k => intK n fun n => k (.i n)
  | .b x, k => boolK x fun x => k (.b x)
  | .nil, k => k .nil
  | .cons x y, k => k (.cons x y)
def X.fc : X → (X → α) → α
  | .lit d, k => d.fc fun d => k (.lit d)
  | .var j, k => k (.var j)
  | .o1 o a, k => a.fc fun a => k (.o1 o a)
  | .o2 o a b, k => a.fc fun a => b.fc fun b => k (.o2 o a b)
  | .o3 o a b c, k => a.fc fun a => b.fc fun b => c.fc fun c => k (.o3 o a b c)
  | .fn f a, k => a.fc fun a => k (.fn f a)
def Sc.fc : Sc → (Sc → α) → α
  | .int k' x, k => x.fc fun x => k (.int k' x)
  | .bool x, k => x.fc fun x => k (.bool x)
  | .str x, k => x.fc fun x => k (.str x)
  | .lst e x, k => x.fc fun x => k (.lst e x)
  | .rp i s x o, k => x.fc fun x => k (.rp i s x o)
  | .lp e x, k => x.fc fun x => k (.lp e x)
  | .own i, k => k (.own i)
  | .ptr i o, k => k (.ptr i o)
  | .nilp, k => k .nilp
  | .nils, k => k .nils
  | .opq i, k => k (.opq i)
  | .fn f, k => k (.fn f)
def fcL : List Sc → (List Sc → α) → α
  | [], k => k []
  | c :: l, k => c.fc fun c => fcL l fun l => k (c :: l)
def S1.fc : S1 → (S1 → α) → α
  | .one c, k => c.fc fun c => k (.one c)
  | .agg l, k => fcL l fun l => k (.agg l)
def fcT : List S1 → (List S1 → α) → α
  | [], k => k []
  | c :: l, k => c.fc fun c => fcT l fun l => k (c :: l)
def SV.fc : SV → (SV → α) → α
  | .v x, k => x.fc fun x => k (.v x)
  | .tup l, k => fcT l fun l => k (.tup l)
def Blk.fc : Blk → (Blk → α) → α
  | .box l, k => fcL l fun l => k (.box l)
  | .row t e x, k => x.fc fun x => k (.row t e x)
  | .froz e x, k => x.fc fun x => k (.froz e x)
def fcB : List Blk → (List Blk → α) → α
  | [], k => k []
  | v :: l, k => v.fc fun v => fcB l fun l => k (v :: l)
def fcW : List (Nat × Option Blk) → (List (Nat × Option Blk) → α) → α
  | [], k => k []
  | (i, none) :: l, k => fcW l fun l => k ((i, none) :: l)
  | (i, some v) :: l, k => v.fc fun v => fcW l fun l => k ((i, some v) :: l)
def Eff.fc : Eff → (Eff → α) → α
  | ⟨v, wr, nw⟩, k => v.fc fun v => fcW wr fun wr => fcB nw fun nw => k ⟨v, wr, nw⟩
def fcOS : List (Option SV) → (List (Option SV) → α) → α
  | [], k => k []
  | none :: l, k => fcOS l fun l => k (none :: l)
  | some v :: l, k => v.fc fun v => fcOS l fun l => k (some v :: l)
def fcOB : List (Option Blk) → (List (Option Blk) → α) → α
  | [], k => k []
  | none :: l, k => fcOB l fun l => k (none :: l)
  | some v :: l, k => v.fc fun v => fcOB l fun l => k (some v :: l)
def fcPC : PC → (PC → α) → α
  | [], k => k []
  | (x, b) :: l, k => x.fc fun x => boolK b fun b => fcPC l fun l => k ((x, b) :: l)
def St.fc : St → (St → α) → α
  | ⟨sl, bk, pc, nv⟩, k => fcOS sl fun sl => fcOB bk fun bk => fcPC pc fun pc => natK nv fun nv => k ⟨sl, bk, pc, nv⟩
end
inductive RR where
  | ok (effs : List Eff) (need : List X) | split (c : X) | bad (i : Nat)
  deriving Inhabited
/-- an effect on a state -/
def St.eff (σ : St) (dst : Option Tmp) (e : Eff) : St :=
  { σ with sl := (match dst with | some t => σ.sl.set t (some e.v) | none => σ.sl), bk := e.wr.foldl (fun l q => l.set q.1 q.2) σ.bk ++ e.nw.map some }
section
variable {α β : Type}
def setK : List β → Nat → β → (List β → α) → α
  | [], _, _, k => k []
  | _ :: l, 0, v, k => k (v :: l)
  | a :: l, n + 1, v, k => setK l n v fun l => k (a :: l)
def wrK : List (Nat × Option Blk) → List (Option Blk) → (List (Option Blk) → α) → α
  | [], l, k => k l
  | q :: r, l, k => setK l q.1 q.2 fun l => wrK r l k
def someK : List Blk → (List (Option Blk) → α) → α
  | [], k => k []
  | b :: r, k => someK r fun l => k (some b :: l)
def appK : List β → List β → (List β → α) → α
  | [], r, k => k r
  | a :: l, r, k => appK l r fun l => k (a :: l)
def St.effK (σ : St) (dst : Option Tmp) (e : Eff) (k : St → α) : α := match σ with
  | ⟨sl, bk, pc, nv⟩ => wrK e.wr bk fun bk => someK e.nw fun nw => appK bk nw fun bk => match dst with
    | some t => setK sl t (some e.v) fun sl => k ⟨sl, bk, pc, nv⟩
    | none => k ⟨sl, bk, pc, nv⟩
end
/-- what the operations do one after the other -/
def simul (all : List Oper) : Nat → List Oper → St → RR
  | _, [], _ => .ok [] []
  | i, o :: l, σ =>
    let sl := fun t => σ.sl.getD t none
    match guardM all σ.pc sl o with
    | none => .bad i
    | some (.inr x) => .split x
    | some (.inl false) => match σ.effK o.dst { v := .tup [] } (simul all (i + 1) l) with
      | .ok effs need => .ok ({ v := .tup [] } :: effs) need
      | r => r
    | some (.inl true) => match evalOp P F K σ.pc (opV sl) (fun id => σ.bk.getD id none) σ.bk.length o.op with
      | some (e, q) => e.fc fun e => (match σ.effK o.dst e (simul all (i + 1) l) with
        | .ok effs need => .ok (e :: effs) (q ++ need)
        | r => r)
      | none => match splitOf P σ.pc sl o.op with
        | .split x => .split x
        | _ => .bad i
/-- each operation finds what it found when they were carried out in order -/
def again (ops : List Oper) (dep : List Nat) (n0 : Nat) (σ : St) (effs : List Eff) (need : List X) : Nat → List Eff → Bool
  | _, [] => true
  | i, e :: l => (match runOp P F K ops dep n0 σ effs i with
    | .ok e' q => decide (e = e') && q.all (fun x => need.contains x)
    | _ => false) && again ops dep n0 σ effs need (i + 1) l
def depOk (ops : List Oper) (dep : List Nat) : Bool := (List.range ops.length).all fun i => decide (dep.getD i 0 < 2 ^ i) && (List.range ops.length).all fun j =>
  !(dep.getD i 0).testBit j || (decide (j < i) && match ops[i]? with
    | some o => o.after.toList.any fun e => Region.binds .any e && decide (e.on < i) && (e.on == j || (dep.getD e.on 0).testBit j)
    | none => false)
def orderOk (ops : List Oper) : Bool := (List.range ops.length).all fun i => match ops[i]? with
  | some o => o.after.toList.all fun e => !Region.binds .any e || decide (e.on < i)
  | none => true
/-- a block that is there for operation i -/
def seesId (dep : List Nat) (n0 : Nat) (effs : List Eff) (i id : Nat) : Bool := decide (id < n0) || (match creator id effs 0 n0 with | some (j, _) => waits dep i j | none => false)
/-- the blocks that an operation names are there when it has been carried out; what it changes was there before, and whoever else changes it does so before or after -/
def seenOk (dep : List Nat) (n0 : Nat) (effs : List Eff) : Nat → List Eff → Bool
  | _, [] => true
  | i, e :: l =>
    let p := seesId dep n0 effs i
    let b := baseOf n0 effs i
    let p' := fun id => p id || (decide (b ≤ id) && decide (id < b + e.nw.length))
    e.v.ids p' && e.nw.all (Blk.ids p') && e.wr.all (fun q => p q.1 && (match q.2 with | some b => b.ids p' | none => true) && allWr (fun j => decide (j = i) || waits dep i j || waits dep j i) q.1 effs 0) && nodupB (e.wr.map (·.1)) && seenOk dep n0 effs (i + 1) l
/-- the numbers of blocks that a state names -/
def St.ok (σ : St) : Bool :=
  (σ.sl.all fun | some v => v.ids (fun id => decide (id < σ.bk.length)) | none => true) &&
  (σ.bk.all fun | some b => b.ids (fun id => decide (id < σ.bk.length)) | none => true)
def depOf (draw : Bool) (ops : Array Oper) : List Nat := if draw then (Region.before ops).toList else (List.range ops.size).map (fun i => 2 ^ i - 1)
/-- what can be seen of a region alone -/
def okOps (draw : Bool) (ops : List Oper) (dep : List Nat) (m : Nat) : Bool := oneWriter ops && (!draw || (depOk ops dep && orderOk ops)) && ops.all fun o => match o.dst with | some t => decide (t < m) | none => true
def checks (ops : List Oper) (dep : List Nat) (n0 : Nat) (σ : St) (effs : List Eff) (need : List X) : Bool :=
  σ.ok && effs.length == ops.length && again P F K ops dep n0 σ effs need 0 effs && seenOk dep n0 effs 0 effs
def region (draw : Bool) (σ : St) (ops : Array Oper) : RR :=
  match simul P F K ops.toList 0 ops.toList σ with
  | .ok effs need => if okOps draw ops.toList (depOf draw ops) σ.sl.length && checks P F K ops.toList (depOf draw ops) σ.bk.length σ effs need then .ok effs need else .bad 1000
  | x => x
def slotsAfter (ops : List Oper) (effs : List Eff) : Nat → List (Option SV) → List (Option SV)
  | _, [] => []
  | t, v :: l => (match writer ops t with | some j => effV effs j | none => v) :: slotsAfter ops effs (t + 1) l
def after (ops : List Oper) (n0 : Nat) (σ : St) (effs : List Eff) : St :=
  { σ with sl := slotsAfter ops effs 0 σ.sl, bk := (List.range (baseOf n0 effs effs.length)).map (blkAt n0 σ effs fun _ => true) }
end
end
end Go.Sz
