/- A symbolic evaluator of functions, over values of any depth: its data and what it says of one operation. It speaks of no program of the seat. -/
import Derived.WalkKit
import Derived.IntWalk
import Derived.OrdersHeld
import Derived.Deep.RegionHeld
namespace Go.Sz
open Go

/-- a value without addresses: an int, a bool, a list -/
inductive D where
  | i (n : Int) | b (b : Bool) | nil | cons (a t : D)
  deriving Inhabited
noncomputable section
namespace D
/-- equality as the kernel reckons it quickly -/
def bq (a : D) : D → Bool := D.rec (motive := fun _ => D → Bool)
  (fun n b => D.casesOn b (fun m => decide (n = m)) (fun _ => false) false (fun _ _ => false))
  (fun x b => D.casesOn b (fun _ => false) (fun y => x == y) false (fun _ _ => false))
  (fun b => D.casesOn b (fun _ => false) (fun _ => false) true (fun _ _ => false))
  (fun _ _ ih1 ih2 b => D.casesOn b (fun _ => false) (fun _ => false) false (fun x y => ih1 x && ih2 y)) a
theorem bq_iff : ∀ {a b : D}, bq a b = true ↔ a = b := by
  intro a
  induction a with
  | i n => intro b; cases b <;> simp [bq]
  | b x => intro b; cases b <;> simp [bq]
  | nil => intro b; cases b <;> simp [bq]
  | cons x y ih1 ih2 =>
    intro b
    cases b with
    | cons x' y' =>
      have : bq (cons x y) (cons x' y') = (bq x x' && bq y y') := rfl
      rw [this, Bool.and_eq_true, ih1, ih2]
      simp
    | _ => simp [bq]
instance : DecidableEq D := fun a b => decidable_of_iff (bq a b = true) bq_iff
def int : D → Int
  | .i n => n
  | _ => 0
def bool : D → Bool
  | .b x => x
  | _ => false
def hd : D → D
  | .cons a _ => a
  | _ => .nil
def tl : D → D
  | .cons _ t => t
  | _ => .nil
def len : D → Nat
  | .cons _ t => t.len + 1
  | _ => 0
def get : D → Nat → D
  | .cons a _, 0 => a
  | .cons _ t, k + 1 => t.get k
  | _, _ => .nil
def drop : D → Nat → D
  | d, 0 => d
  | .cons _ t, k + 1 => t.drop k
  | _, _ + 1 => .nil
def take : D → Nat → D
  | .cons a t, k + 1 => .cons a (t.take k)
  | _, _ => .nil
def app : D → D → D
  | .cons a t, e => .cons a (t.app e)
  | _, e => e
def set : D → Nat → D → D
  | .cons _ t, 0, v => .cons v t
  | .cons a t, k + 1, v => .cons a (t.set k v)
  | d, _, _ => d
def rep : Nat → D → D
  | 0, _ => .nil
  | n + 1, d => .cons d (rep n d)
def of : List D → D
  | [] => .nil
  | a :: l => .cons a (of l)
def ofBytes (s : ByteArray) : D := of (s.data.toList.map fun b => .i (b.toNat : Int))
end D
inductive O1 where
  | cv (k : IntKind) | not | len | hd | tl | seg (n : Nat)
  deriving DecidableEq, Inhabited
inductive O2 where
  | add (k : IntKind) | sub (k : IntKind) | mul (k : IntKind) | quo (k : IntKind) | rem | band (k : IntKind) | bor (k : IntKind) | bxor (k : IntKind) | bandn (k : IntKind) | shl (k : IntKind) | shr
  | lt | le | eq | eqb | eqd | mn | mx | and | or | cons | get | app | take | drop | pl | mi | rep
  deriving DecidableEq, Inhabited
inductive O3 where
  | ite | set
  deriving DecidableEq, Inhabited
/-- the first n elements, whatever there is -/
def D.seg : Nat → D → Nat → D
  | 0, _, _ => .nil
  | n + 1, d, k => .cons (d.get k) (D.seg n d (k + 1))
def den1 : O1 → D → D
  | .cv k, a => .i (k.wrap a.int)
  | .not, a => .b (!a.bool)
  | .len, a => .i (a.len : Int)
  | .hd, a => a.hd
  | .tl, a => a.tl
  | .seg n, a => D.seg n a 0
def den2 : O2 → D → D → D
  | .add k, a, b => .i (k.wrap (a.int + b.int))
  | .sub k, a, b => .i (k.wrap (a.int - b.int))
  | .mul k, a, b => .i (k.wrap (a.int * b.int))
  | .quo k, a, b => .i (k.wrap (a.int.tdiv b.int))
  | .rem, a, b => .i (a.int.tmod b.int)
  | .band k, a, b => .i (k.wrap (BitVec.ofInt k.bits a.int &&& BitVec.ofInt k.bits b.int).toNat)
  | .bor k, a, b => .i (k.wrap (BitVec.ofInt k.bits a.int ||| BitVec.ofInt k.bits b.int).toNat)
  | .bxor k, a, b => .i (k.wrap (BitVec.ofInt k.bits a.int ^^^ BitVec.ofInt k.bits b.int).toNat)
  | .bandn k, a, b => .i (k.wrap (BitVec.ofInt k.bits a.int &&& ~~~(BitVec.ofInt k.bits b.int)).toNat)
  | .shl k, a, b => .i (k.wrap (a.int * 2 ^ (min b.int.toNat k.bits)))
  | .shr, a, b => .i (a.int.fdiv (2 ^ (min b.int.toNat 64)))
  | .lt, a, b => .b (decide (a.int < b.int))
  | .le, a, b => .b (decide (a.int ≤ b.int))
  | .eq, a, b => .b (a.int == b.int)
  | .eqb, a, b => .b (a.bool == b.bool)
  | .eqd, a, b => .b (decide (a = b))
  | .mn, a, b => .i (if b.int < a.int then b.int else a.int)
  | .mx, a, b => .i (if b.int > a.int then b.int else a.int)
  | .and, a, b => .b (a.bool && b.bool)
  | .or, a, b => .b (a.bool || b.bool)
  | .cons, a, b => .cons a b
  | .get, a, b => a.get b.int.toNat
  | .app, a, b => a.app b
  | .take, a, b => a.take b.int.toNat
  | .drop, a, b => a.drop b.int.toNat
  | .pl, a, b => .i (a.int + b.int)
  | .mi, a, b => .i (a.int - b.int)
  | .rep, a, b => D.rep a.int.toNat b
def den3 : O3 → D → D → D → D
  | .ite, c, a, b => if c.bool then a else b
  | .set, a, k, v => a.set k.int.toNat v
/-- a value by variables -/
inductive X where
  | lit (d : D) | var (j : Nat) | o1 (o : O1) (a : X) | o2 (o : O2) (a b : X) | o3 (o : O3) (a b c : X) | fn (f : Nat) (a : X)
  deriving Inhabited
def O1.bq (a b : O1) : Bool := decide (a = b)
def O2.bq (a b : O2) : Bool := decide (a = b)
def O3.bq (a b : O3) : Bool := decide (a = b)
def X.bq (a : X) : X → Bool := X.rec (motive := fun _ => X → Bool)
  (fun d b => X.casesOn b (fun e => D.bq d e) (fun _ => false) (fun _ _ => false) (fun _ _ _ => false) (fun _ _ _ _ => false) (fun _ _ => false))
  (fun j b => X.casesOn b (fun _ => false) (fun i => Nat.beq j i) (fun _ _ => false) (fun _ _ _ => false) (fun _ _ _ _ => false) (fun _ _ => false))
  (fun o _ ih b => X.casesOn b (fun _ => false) (fun _ => false) (fun o' x => O1.bq o o' && ih x) (fun _ _ _ => false) (fun _ _ _ _ => false) (fun _ _ => false))
  (fun o _ _ ih1 ih2 b => X.casesOn b (fun _ => false) (fun _ => false) (fun _ _ => false) (fun o' x y => O2.bq o o' && (ih1 x && ih2 y)) (fun _ _ _ _ => false) (fun _ _ => false))
  (fun o _ _ _ ih1 ih2 ih3 b => X.casesOn b (fun _ => false) (fun _ => false) (fun _ _ => false) (fun _ _ _ => false) (fun o' x y z => O3.bq o o' && (ih1 x && (ih2 y && ih3 z))) (fun _ _ => false))
  (fun f _ ih b => X.casesOn b (fun _ => false) (fun _ => false) (fun _ _ => false) (fun _ _ _ => false) (fun _ _ _ _ => false) (fun f' x => Nat.beq f f' && ih x)) a
theorem X.bq_iff : ∀ {a b : X}, X.bq a b = true ↔ a = b := by
  intro a
  induction a with
  | lit d =>
    intro b
    cases b with
    | lit e => have : X.bq (.lit d) (.lit e) = D.bq d e := rfl
               rw [this, D.bq_iff]; simp
    | _ => simp [X.bq]
  | var j =>
    intro b
    cases b with
    | var i => have : X.bq (.var j) (.var i) = Nat.beq j i := rfl
               rw [this, Nat.beq_eq]; simp
    | _ => simp [X.bq]
  | o1 o x ih =>
    intro b
    cases b with
    | o1 o' x' => have : X.bq (.o1 o x) (.o1 o' x') = (O1.bq o o' && X.bq x x') := rfl
                  rw [this, Bool.and_eq_true, ih]; simp [O1.bq]
    | _ => simp [X.bq]
  | o2 o x y ih1 ih2 =>
    intro b
    cases b with
    | o2 o' x' y' => have : X.bq (.o2 o x y) (.o2 o' x' y') = (O2.bq o o' && (X.bq x x' && X.bq y y')) := rfl
                     rw [this, Bool.and_eq_true, Bool.and_eq_true, ih1, ih2]; simp [O2.bq]
    | _ => simp [X.bq]
  | o3 o x y z ih1 ih2 ih3 =>
    intro b
    cases b with
    | o3 o' x' y' z' => have : X.bq (.o3 o x y z) (.o3 o' x' y' z') = (O3.bq o o' && (X.bq x x' && (X.bq y y' && X.bq z z'))) := rfl
                        rw [this, Bool.and_eq_true, Bool.and_eq_true, Bool.and_eq_true, ih1, ih2, ih3]; simp [O3.bq]
    | _ => simp [X.bq]
  | fn f x ih =>
    intro b
    cases b with
    | fn f' x' => have : X.bq (.fn f x) (.fn f' x') = (Nat.beq f f' && X.bq x x') := rfl
                  rw [this, Bool.and_eq_true, ih, Nat.beq_eq]; simp
    | _ => simp [X.bq]
instance : DecidableEq X := fun a b => decidable_of_iff (X.bq a b = true) X.bq_iff
/-- named functions -/
abbrev Tab := Nat → D → D
/-- values of the variables; values that are passed on -/
structure Env where
  d : Nat → D
  v : Nat → { v : Value // v.oneCell' = true }
def X.d (T : Tab) (η : Env) : X → D
  | .lit d => d
  | .var j => η.d j
  | .o1 o a => den1 o (a.d T η)
  | .o2 o a b => den2 o (a.d T η) (b.d T η)
  | .o3 o a b c => den3 o (a.d T η) (b.d T η) (c.d T η)
  | .fn f a => T f (a.d T η)
abbrev X.tt (b : Bool) : X := .lit (.b b)
abbrev X.int (n : Int) : X := .lit (.i n)
/-- functions that may be reckoned at what is known -/
abbrev Fs := List (Nat × (D → D))
def Fs.ok (F : Fs) (T : Tab) : Prop := ∀ q ∈ F, T q.1 = q.2
/- smart constructors -/
/-- element k of a list, where it is seen -/
def getLit : X → Nat → Option X
  | .o2 .cons a _, 0 => some a
  | .o2 .cons _ t, k + 1 => getLit t k
  | .lit d, k => some (.lit (d.get k))
  | _, _ => none
def lenLit : X → Option Nat
  | .o2 .cons _ t => (lenLit t).map (· + 1)
  | .lit d => some d.len
  | _ => none
def mkNot : X → X
  | .o1 .not (.o1 .not b) => .o1 .not b
  | a => .o1 .not a
def mkHd : X → X
  | .o2 .cons x _ => x
  | a => .o1 .hd a
def mkTl : X → X
  | .o2 .cons _ t => t
  | a => .o1 .tl a
def lenX (y : X) : X := match lenLit y with
  | some n => .lit (.i (n : Int))
  | none => .o1 .len y
def mkLen : X → X
  | .o2 .app x y => .o2 .pl (.o1 .len x) (lenX y)
  | .o3 .set x _ _ => .o1 .len x
  | a => lenX a
def mk1' (o : O1) (a : X) : X := match o with
  | .not => mkNot a
  | .hd => mkHd a
  | .tl => mkTl a
  | .len => mkLen a
  | o => .o1 o a
def mk1 (o : O1) (a : X) : X := match a with
  | .lit d => .lit (den1 o d)
  | a => mk1' o a
def natX (n : Nat) : X := .lit (.i (n : Int))
def getNo (a : X) (y : Nat) : X := match a with
  | .o2 .drop x (.lit z) => .o2 .get x (natX (z.int.toNat + y))
  | a => .o2 .get a (natX y)
def getAt (a : X) (y : Nat) : X := match getLit a y with
  | some r => r
  | none => getNo a y
def mkGet (a b : X) : X := match b with
  | .lit y => getAt a y.int.toNat
  | b => .o2 .get a b
def dropAt (a : X) (y : Nat) : X := match y, a with
  | 0, a => a
  | y, .o2 .drop x (.lit z) => .o2 .drop x (natX (z.int.toNat + y))
  | y, a => .o2 .drop a (natX y)
def mkDrop (a b : X) : X := match b with
  | .lit y => dropAt a y.int.toNat
  | b => .o2 .drop a b
def mkApp (a b : X) : X := match a with
  | .lit .nil => b
  | .o2 .cons x (.lit .nil) => .o2 .cons x b
  | a => .o2 .app a b
/-- an expression that is surely a bool -/
def X.isB : X → Bool
  | .o1 .not _ => true
  | .o2 o _ _ => match o with
    | .lt | .le | .eq | .eqb | .eqd | .and | .or => true
    | _ => false
  | _ => false
def andT (b : X) (o : X) : X := if b.isB then b else o
def mkAnd (a b : X) : X := match a, b with
  | .lit x, b => if x.bool then andT b (.o2 .and (.lit x) b) else .lit (.b false)
  | a, .lit x => if x.bool then andT a (.o2 .and a (.lit x)) else .lit (.b false)
  | a, b => .o2 .and a b
def mkOr (a b : X) : X := match a, b with
  | .lit x, b => if x.bool then .lit (.b true) else andT b (.o2 .or (.lit x) b)
  | a, .lit x => if x.bool then .lit (.b true) else andT a (.o2 .or a (.lit x))
  | a, b => .o2 .or a b
def mkEq (o : O2) (a b : X) : X := if a = b then .lit (.b true) else .o2 o a b
def mk2' (o : O2) (a b : X) : X := match o with
  | .get => mkGet a b
  | .drop => mkDrop a b
  | .app => mkApp a b
  | .eq => mkEq .eq a b
  | .eqb => mkEq .eqb a b
  | .eqd => mkEq .eqd a b
  | .and => mkAnd a b
  | .or => mkOr a b
  | o => .o2 o a b
def isLit : X → Bool
  | .lit _ => true
  | _ => false
def litD : X → D
  | .lit d => d
  | _ => .nil
def mk2 (o : O2) (a b : X) : X := if isLit a && isLit b then .lit (den2 o (litD a) (litD b)) else mk2' o a b
def mk3 (o : O3) (a b c : X) : X := match o with
  | .ite => (match a with
    | .lit x => if x.bool then b else c
    | a => if b = c then b else .o3 .ite a b c)
  | .set => (match a, b, c with
    | .lit x, .lit y, .lit z => .lit (den3 .set x y z)
    | a, b, c => .o3 .set a b c)
/-- how many cells get x k, get x (k + 1) .. stand ahead, and the rest -/
def runOf (x : X) : Nat → X → Nat × X
  | k, .o2 .cons (.o2 .get y (.lit (.i j))) t => if decide (j = (k : Int)) && X.bq y x then runOf x (k + 1) t else (k, .o2 .cons (.o2 .get y (.lit (.i j))) t)
  | k, t => (k, t)
/-- runs of cells of one list, as a part of it -/
def comp : Nat → X → X
  | 0, a => a
  | n + 1, .o2 .cons (.o2 .get x (.lit (.i 0))) t => let q := runOf x 1 t
    if q.1 < 3 then .o2 .cons (.o2 .get x (.lit (.i 0))) (comp n t) else match q.2 with
      | .lit .nil => .o1 (.seg q.1) x
      | r => .o2 .app (.o1 (.seg q.1) x) (comp n r)
  | n + 1, .o2 .cons h t => .o2 .cons h (comp n t)
  | _, a => a
def mkF (F : Fs) (f : Nat) (a : X) : X := match a with
  | .lit d => (match F.find? (·.1 == f) with
    | some q => .lit (q.2 d)
    | none => .fn f (.lit d))
  | a => .fn f (comp 200 a)
/-- a list of expressions that are all known, as one -/
def mkCons (a b : X) : X := mk2 .cons a b
/-- what is known: bools that were decided -/
abbrev PC := List (X × Bool)
/-- a bool that is known, or was decided before -/
def dec (pc : PC) : X → Option Bool
  | .lit d => some d.bool
  | .o1 .not a => (dec pc a).map (!·)
  | .o2 .and a b => match dec pc a, dec pc b with
    | some false, _ => some false
    | _, some false => some false
    | some true, some true => some true
    | _, _ => (pc.find? (fun q => decide (q.1 = .o2 .and a b))).map (·.2)
  | .o2 .or a b => match dec pc a, dec pc b with
    | some true, _ => some true
    | _, some true => some true
    | some false, some false => some false
    | _, _ => (pc.find? (fun q => decide (q.1 = .o2 .or a b))).map (·.2)
  | c => (pc.find? (fun q => decide (q.1 = c))).map (·.2)
/-- what a decided bool says -/
def facts : X → Bool → PC
  | .o1 .not a, b => facts a (!b)
  | .o2 .and a b, true => facts a true ++ facts b true
  | .o2 .or a b, false => facts a false ++ facts b false
  | x, b => [(x, b)]
/-- was it decided that x is k? -/
def isAt (pc : PC) (x : X) (k : Nat) : Option Bool := (pc.find? fun q => decide (q.1 = X.o2 .eq x (.lit (.i (k : Int))))).map (·.2)
/-- an index that is known, or was decided before, and what must be so -/
def idxLit (pc : PC) (x : X) (len : Nat) : Option (Int × List X) := match x with
  | .lit d => some (d.int, [])
  | x => match (List.range len).find? (fun k => isAt pc x k == some true) with
    | some k => some ((k : Int), [])
    | none => if 0 < len ∧ (List.range (len - 1)).all (fun k => isAt pc x k == some false) then some (((len - 1 : Nat) : Int), [mk2 .le (.lit (.i 0)) x, mk2 .lt x (.lit (.i (len : Int)))]) else none
/-- what must be decided next about an index -/
def idxAsk (pc : PC) (x : X) (len : Nat) : Option X := match x with
  | .lit _ => none
  | x => Option.map (fun k : Nat => X.o2 .eq x (.lit (.i (k : Int)))) ((List.range len).find? fun k => isAt pc x k == none)
/-- substitution: variables (from n on), numbers of blocks, values that are passed on -/
structure Sub where
  n : Nat
  x : List (Nat × X) := []
  id : List (Nat × Nat) := []
  v : List (Nat × Nat) := []
  deriving Inhabited
def look (l : List (Nat × X)) (j : Nat) : X := match l.find? (·.1 == j) with | some q => q.2 | none => .lit .nil
def lookN (l : List (Nat × Nat)) (j : Nat) : Nat := match l.find? (·.1 == j) with | some q => q.2 | none => j
def X.sub (F : Fs) (s : Sub) : X → X
  | .lit d => .lit d
  | .var j => if j < s.n then .var j else look s.x j
  | .o1 o a => mk1 o (a.sub F s)
  | .o2 o a b => mk2 o (a.sub F s) (b.sub F s)
  | .o3 o a b c => mk3 o (a.sub F s) (b.sub F s) (c.sub F s)
  | .fn f a => mkF F f (a.sub F s)
/-- the kinds of cells; lst: a slice, of elements with such cells -/
inductive CK where
  | int (k : IntKind) | bool | str | lst (e : CK) | nil | cons (a b : CK)
  deriving DecidableEq, Inhabited
namespace CK
def size : CK → Nat
  | .cons _ b => b.size + 1
  | _ => 0
def app : CK → CK → CK
  | .cons a b, c => .cons a (b.app c)
  | _, c => c
def rep : Nat → CK → CK
  | 0, _ => .nil
  | n + 1, c => c.app (rep n c)
def drop : CK → Nat → CK
  | c, 0 => c
  | .cons _ t, k + 1 => t.drop k
  | _, _ + 1 => .nil
/-- no slice in it -/
def flat : CK → Bool
  | .lst _ => false
  | .cons a b => a.flat && b.flat
  | _ => true
end CK
/-- one cell -/
inductive Sc where
  | int (k : IntKind) (x : X) | bool (x : X) | str (x : X) | lst (e : CK) (x : X)
  | own (id : Nat) | ptr (id off : Nat) | rp (id sz : Nat) (x : X) (off : Nat) | lp (ks : CK) (x : X)
  | nilp | nils | opq (j : Nat) | fn (f : FuncId)
  deriving DecidableEq, Inhabited
/-- a scalar, a struct or an array; a tuple -/
inductive S1 where
  | one (c : Sc) | agg (l : List Sc)
  deriving DecidableEq, Inhabited
inductive SV where
  | v (x : S1) | tup (l : List S1)
  deriving DecidableEq, Inhabited
def S1.cells : S1 → List Sc
  | .one c => [c]
  | .agg l => l
/-- a block: cells; an own row of elements (which type, how many cells each, of which kinds); one that is written no more -/
inductive Blk where
  | box (cells : List Sc) | row (t : TypeId) (e : CK) (x : X) | froz (e : CK) (x : X)
  deriving DecidableEq, Inhabited
def Blk.mut : Blk → Bool
  | .froz .. => false
  | _ => true
/-- what an operation does: its value, the blocks that it changes (none: no longer known), those that it makes -/
structure Eff where
  v : SV
  wr : List (Nat × Option Blk) := []
  nw : List Blk := []
  deriving DecidableEq, Inhabited
/-- a contract -/
structure Con where
  f : FuncId
  pat : List SV
  hp : List Blk := []
  need : List X := []
  res : SV
  nw : List Blk := []
  post : List (Option Blk) := []
/-- the blocks that are there -/
abbrev BK := Nat → Option Blk
/- cells out of values, values out of cells -/
def Sc.ofX : CK → X → Option Sc
  | .int k, x => some (.int k x)
  | .bool, x => some (.bool x)
  | .str, x => some (.str x)
  | .lst e, x => some (.lst e x)
  | _, _ => none
/-- the cells of an element, from j on -/
def unpack : CK → X → Nat → Option (List Sc)
  | .cons a b, x, j => match Sc.ofX a (mk2 .get x (.lit (.i (j : Int)))), unpack b x (j + 1) with
    | some c, some l => some (c :: l)
    | _, _ => none
  | .nil, _, _ => some []
  | _, _, _ => none
/-- a cell's value, and the rows that it must keep -/
def Sc.toX (bk : BK) : CK → Sc → Option (X × List (Nat × Option Blk))
  | .int k, .int k' x => if k = k' then some (x, []) else none
  | .bool, .bool x => some (x, [])
  | .str, .str x => some (x, [])
  | .lst e, .lst e' x => if e = e' then some (x, []) else none
  | .lst _, .nils => some (.lit .nil, [])
  | .lst e, .own id => match bk id with
    | some (.row _ e' x) => if e = e' then some (x, [(id, some (.froz e' x))]) else none
    | some (.froz e' x) => if e = e' then some (x, []) else none
    | _ => none
  | _, _ => none
def packL (bk : BK) : CK → List Sc → Option (X × List (Nat × Option Blk))
  | .nil, [] => some (.lit .nil, [])
  | .cons a b, c :: l => match c.toX bk a, packL bk b l with
    | some (x, ws), some (y, vs) => some (mk2 .cons x y, ws ++ vs.filter fun q => !(ws.any fun p => p.1 == q.1))
    | _, _ => none
  | _, _ => none
/-- elements one after the other, n cells each -/
def packE (bk : BK) (e : CK) (n : Nat) : Nat → List Sc → Option (X × List (Nat × Option Blk))
  | 0, _ => some (.lit .nil, [])
  | m + 1, l => match packL bk e (l.take n), packE bk e n m (l.drop n) with
    | some (x, ws), some (y, vs) => some (mk2 .cons x y, ws ++ vs.filter fun q => !(ws.any fun p => p.1 == q.1))
    | _, _ => none
/-- what a slice holds, and the rows that it must keep -/
def sliceX (bk : BK) : Sc → Option (CK × X × List (Nat × Option Blk))
  | .lst e x => some (e, x, [])
  | .own id => match bk id with
    | some (.row _ e x) => some (e, x, [(id, some (.froz e x))])
    | some (.froz e x) => some (e, x, [])
    | _ => none
  | _ => none
/- types -/
section
variable (P : Program)
def tAgg (t : TypeId) : Option Bool := match P.underlying t with
  | some (.struct _) | some (.array _ _) => some true
  | some _ => some false
  | none => none
def tSize (t : TypeId) : Option Nat := (P.info? t).map (·.size)
def ofValue : Value → Option Sc
  | .int k n => some (.int k (.lit (.i n)))
  | .bool b => some (.bool (.lit (.b b)))
  | .pointer none => some .nilp
  | .slice none 0 0 => some .nils
  | .string s => some (.str (.lit (D.ofBytes s)))
  | .func (.func f) ⟨[]⟩ ⟨[]⟩ => some (.fn f)
  | _ => none
def ofValues : List Value → Option (List Sc)
  | [] => some []
  | v :: l => match ofValue v, ofValues l with
    | some c, some cs => some (c :: cs)
    | _, _ => none
def ofConst : Value → Option SV
  | .agg cs => (ofValues cs.toList).map fun l => .v (.agg l)
  | v => (ofValue v).map fun c => .v (.one c)
def tZero (t : TypeId) : Option S1 := match (P.info? t).bind (·.zero) with
  | some (.agg cs) => (ofValues cs.toList).map .agg
  | some v => (ofValue v).map .one
  | none => none
/-- the kinds of a type's cells -/
def ckT : Nat → TypeId → Option CK
  | 0, _ => none
  | n + 1, t => match P.underlying t with
    | some (.int k) => some (.cons (.int k) .nil)
    | some .bool => some (.cons .bool .nil)
    | some .string => some (.cons .str .nil)
    | some (.slice e) => (ckT n e).map fun c => .cons (.lst c) .nil
    | some (.struct fs) => fs.toList.foldr (fun f acc => match ckT n f.type, acc with | some c, some r => some (c.app r) | _, _ => none) (some .nil)
    | some (.array len e) => (ckT n e).map fun c => CK.rep len c
    | _ => none
/-- a part of a struct or an array -/
def partS (t : TypeId) (l : List Sc) (off : Nat) : Option S1 := match tAgg P t with
  | some true => match tSize P t with
    | some n => if off + n ≤ l.length then some (.agg ((l.drop off).take n)) else none
    | none => none
  | some false => (l[off]?).map .one
  | none => none
def fillS (place : Nat → Option (Nat × Nat)) (cells : List Sc) : List (Nat × SV) → Option (List Sc)
  | [] => some cells
  | (i, .v x) :: rest => match place i with
    | some (off, size) => if x.cells.length = size ∧ off + size ≤ cells.length then fillS place (cells.take off ++ x.cells ++ cells.drop (off + size)) rest else none
    | none => none
  | (_, .tup _) :: _ => none
def places : List Field → Option (List (Nat × Nat))
  | [] => some []
  | f :: l => match tSize P f.type, places l with
    | some n, some r => some ((f.offset, n) :: r)
    | _, _ => none
def evs (ev : Operand → Option SV) : List Operand → Option (List SV)
  | [] => some []
  | a :: l => match ev a, evs ev l with
    | some v, some r => some (v :: r)
    | _, _ => none
def evParts (ev : Operand → Option SV) : List (Nat × Operand) → Option (List (Nat × SV))
  | [] => some []
  | (i, a) :: l => match ev a, evParts ev l with
    | some v, some r => some ((i, v) :: r)
    | _, _ => none
def one? : Option SV → Option Sc
  | some (.v (.one c)) => some c
  | _ => none
/-- what must be so, but for what is seen to be so -/
def needs (l : List X) : List X := l.filter fun x => decide (x ≠ .lit (.b true))
abbrev ER := Option (Eff × List X)
def okv (v : SV) : ER := some ({ v }, [])
def binS (o : BinOp) (k : IntKind) (a b : X) : ER :=
  let i (x : X) : ER := okv (.v (.one (.int k x)))
  let c (x : X) : ER := okv (.v (.one (.bool x)))
  match o with
  | .add => i (mk2 (.add k) a b)
  | .sub => i (mk2 (.sub k) a b)
  | .mul => i (mk2 (.mul k) a b)
  | .quo => some ({ v := .v (.one (.int k (mk2 (.quo k) a b))) }, needs [mk1 .not (mk2 .eq b (.lit (.i 0)))])
  | .rem => some ({ v := .v (.one (.int k (mk2 .rem a b))) }, needs [mk1 .not (mk2 .eq b (.lit (.i 0)))])
  | .and => i (mk2 (.band k) a b)
  | .or => i (mk2 (.bor k) a b)
  | .xor => i (mk2 (.bxor k) a b)
  | .andNot => i (mk2 (.bandn k) a b)
  | .eql => c (mk2 .eq a b)
  | .neq => c (mk1 .not (mk2 .eq a b))
  | .lss => c (mk2 .lt a b)
  | .leq => c (mk2 .le a b)
  | .gtr => c (mk2 .lt b a)
  | .geq => c (mk2 .le b a)
  | _ => none
/-- equality of all cells of structs and arrays of ints, bools and strings -/
def eqCells : List Sc → List Sc → Option X
  | [], [] => some (.lit (.b true))
  | .int k a :: l, .int k' b :: m => if k = k' then (eqCells l m).map (mk2 .and (mk2 .eq a b)) else none
  | .bool a :: l, .bool b :: m => (eqCells l m).map (mk2 .and (mk2 .eqb a b))
  | .str a :: l, .str b :: m => (eqCells l m).map (mk2 .and (mk2 .eqd a b))
  | _, _ => none
/-- the fields of a struct, one behind the other -/
def eqFs (f : TypeId → Option CK) : List Field → Nat → Option CK
  | [], _ => some .nil
  | fd :: l, off => match f fd.type with
    | some c => if fd.name ≠ "_" ∧ fd.offset = off ∧ tSize P fd.type = some c.size then (eqFs f l (off + c.size)).map c.app else none
    | none => none
/-- types whose equality is that of all their cells -/
def eqT : Nat → TypeId → Option CK
  | 0, _ => none
  | n + 1, t => match P.underlying t with
    | some (.int k) => some (.cons (.int k) .nil)
    | some .bool => some (.cons .bool .nil)
    | some .string => some (.cons .str .nil)
    | some (.struct fs) => if P.stoodInHeld t then none else eqFs P (eqT n) fs.toList 0
    | some (.array len e) => (eqT n e).bind fun c => if tSize P e = some c.size then some (CK.rep len c) else none
    | _ => none
/-- the cells are of such kinds -/
def kindsAre : CK → List Sc → Bool
  | .nil, [] => true
  | .cons (.int k) b, .int k' _ :: l => decide (k = k') && kindsAre b l
  | .cons .bool b, .bool _ :: l => kindsAre b l
  | .cons .str b, .str _ :: l => kindsAre b l
  | _, _ => false
end
end
end Go.Sz
