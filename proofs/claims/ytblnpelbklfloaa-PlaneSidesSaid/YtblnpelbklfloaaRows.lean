/-
  No cell of these rows narrows 'for every input' (looked for: loops, veiled, ifaces, maps, wideKeys, modest, calm, conditions, laid).
  DERIVED. THE GIVEN ROWS OF THIS SEAT. 7 by the template 'for every input the law returns true; each argument reads behind the call as it read before'; 0 by the template 'total and deterministic' (their statements: YtblnpelbklfloaaTotals.lean).
  GIVEN WITH THE SEED: the statements are not yours to turn. If you find one false, say at which input.
  Laid BY PROGRAM, IN A SANDBOX (cutbox-rows.mjs): the forced cells as the released guide's own fill.sh prints them over the translation 56e9114e2a32b15b… (all of the seat's roots in one cut). By AI agents, Wed Nov 11 2026. No macro, syntax, notation, axiom, sorry.
-/
import Derived.Test.YtblnpelbklfloaaChecked
import GoSem.Claim
import GoSem.ClaimJoined
import GoSem.ClaimMapViews
import Derived.JoinedTies
import Derived.KernelRfl
namespace Go.Proofs.Ytblnpelbklfloaa
/- THE CELL 'sum', in the pinned program and in every row, IS THE sha256 OF THE DUMP (.gsa) THAT YtblnpelbklfloaaProg.lean LOADS. Nothing in Lean hashes anything: it is a label: what it is worth is what the hold of that sum in a sandbox is worth. -/
noncomputable def Try.pinned : Pinned := { name := "ytblnpelbklfloaa", sum := "56e9114e2a32b15b7e1b2c335f83f5b3ca2b0ecf376165163937c66ceb9cdfa4", checked := Try.checked }
namespace Rows
def none {H : Type} : Left H := { results := [], args := [] }

/-- 'colletlaw07.PlaneVectors': WHATEVER THE INPUT: true; the input reads as it did. -/
def planeVectorsSpec : ChangeSpec := { name := "planeVectors", fn := fun _ => fun
  | [d1, d2, d3] => { results := [.lit (.bool true)], args := [d1, d2, d3] }
  | _ => none }
def planeVectorsRow : OpenClaim := { program := "ytblnpelbklfloaa", sum := "56e9114e2a32b15b7e1b2c335f83f5b3ca2b0ecf376165163937c66ceb9cdfa4", func := "collet/colletlaw07.PlaneVectors", spec := "planeVectors", apart := false }
def PlaneVectorsSaid : Prop := planeVectorsRow.holds Try.pinned (OpenSpec.ofChange planeVectorsSpec)

/-- ITS FALSE NEIGHBOUR: 'it returns false'. Refute it at one input. -/
def planeVectorsWrong : ChangeSpec := { name := "planeVectors", fn := fun _ => fun
  | [d1, d2, d3] => { results := [.lit (.bool false)], args := [d1, d2, d3] }
  | _ => none }
def PlaneVectorsWrongFalsely : Prop := planeVectorsRow.holds Try.pinned (OpenSpec.ofChange planeVectorsWrong)

/-- 'colletlaw07.PlaneForms': WHATEVER THE INPUT: true; the input reads as it did. -/
def planeFormsSpec : ChangeSpec := { name := "planeForms", fn := fun _ => fun
  | [d1, d2, d3, d4, d5] => { results := [.lit (.bool true)], args := [d1, d2, d3, d4, d5] }
  | _ => none }
def planeFormsRow : OpenClaim := { program := "ytblnpelbklfloaa", sum := "56e9114e2a32b15b7e1b2c335f83f5b3ca2b0ecf376165163937c66ceb9cdfa4", func := "collet/colletlaw07.PlaneForms", spec := "planeForms", apart := false }
def PlaneFormsSaid : Prop := planeFormsRow.holds Try.pinned (OpenSpec.ofChange planeFormsSpec)

/-- ITS FALSE NEIGHBOUR: 'it returns false'. Refute it at one input. -/
def planeFormsWrong : ChangeSpec := { name := "planeForms", fn := fun _ => fun
  | [d1, d2, d3, d4, d5] => { results := [.lit (.bool false)], args := [d1, d2, d3, d4, d5] }
  | _ => none }
def PlaneFormsWrongFalsely : Prop := planeFormsRow.holds Try.pinned (OpenSpec.ofChange planeFormsWrong)

/-- 'colletlaw07.PlaneThrough': WHATEVER THE INPUT: true; the input reads as it did. -/
def planeThroughSpec : ChangeSpec := { name := "planeThrough", fn := fun _ => fun
  | [d1, d2] => { results := [.lit (.bool true)], args := [d1, d2] }
  | _ => none }
def planeThroughRow : OpenClaim := { program := "ytblnpelbklfloaa", sum := "56e9114e2a32b15b7e1b2c335f83f5b3ca2b0ecf376165163937c66ceb9cdfa4", func := "collet/colletlaw07.PlaneThrough", spec := "planeThrough", apart := false }
def PlaneThroughSaid : Prop := planeThroughRow.holds Try.pinned (OpenSpec.ofChange planeThroughSpec)

/-- ITS FALSE NEIGHBOUR: 'it returns false'. Refute it at one input. -/
def planeThroughWrong : ChangeSpec := { name := "planeThrough", fn := fun _ => fun
  | [d1, d2] => { results := [.lit (.bool false)], args := [d1, d2] }
  | _ => none }
def PlaneThroughWrongFalsely : Prop := planeThroughRow.holds Try.pinned (OpenSpec.ofChange planeThroughWrong)

/-- 'colletlaw07.PlaneTriples': WHATEVER THE INPUT: true; the input reads as it did. -/
def planeTriplesSpec : ChangeSpec := { name := "planeTriples", fn := fun _ => fun
  | [d1, d2, d3] => { results := [.lit (.bool true)], args := [d1, d2, d3] }
  | _ => none }
def planeTriplesRow : OpenClaim := { program := "ytblnpelbklfloaa", sum := "56e9114e2a32b15b7e1b2c335f83f5b3ca2b0ecf376165163937c66ceb9cdfa4", func := "collet/colletlaw07.PlaneTriples", spec := "planeTriples", apart := false }
def PlaneTriplesSaid : Prop := planeTriplesRow.holds Try.pinned (OpenSpec.ofChange planeTriplesSpec)

/-- ITS FALSE NEIGHBOUR: 'it returns false'. Refute it at one input. -/
def planeTriplesWrong : ChangeSpec := { name := "planeTriples", fn := fun _ => fun
  | [d1, d2, d3] => { results := [.lit (.bool false)], args := [d1, d2, d3] }
  | _ => none }
def PlaneTriplesWrongFalsely : Prop := planeTriplesRow.holds Try.pinned (OpenSpec.ofChange planeTriplesWrong)

/-- 'colletlaw07.PlanePrims': WHATEVER THE INPUT: true; the input reads as it did. -/
def planePrimsSpec : ChangeSpec := { name := "planePrims", fn := fun _ => fun
  | [d1, d2] => { results := [.lit (.bool true)], args := [d1, d2] }
  | _ => none }
def planePrimsRow : OpenClaim := { program := "ytblnpelbklfloaa", sum := "56e9114e2a32b15b7e1b2c335f83f5b3ca2b0ecf376165163937c66ceb9cdfa4", func := "collet/colletlaw07.PlanePrims", spec := "planePrims", apart := false }
def PlanePrimsSaid : Prop := planePrimsRow.holds Try.pinned (OpenSpec.ofChange planePrimsSpec)

/-- ITS FALSE NEIGHBOUR: 'it returns false'. Refute it at one input. -/
def planePrimsWrong : ChangeSpec := { name := "planePrims", fn := fun _ => fun
  | [d1, d2] => { results := [.lit (.bool false)], args := [d1, d2] }
  | _ => none }
def PlanePrimsWrongFalsely : Prop := planePrimsRow.holds Try.pinned (OpenSpec.ofChange planePrimsWrong)

/-- 'colletlaw07.PlaneSides': WHATEVER THE INPUT: true; the input reads as it did. -/
def planeSidesSpec : ChangeSpec := { name := "planeSides", fn := fun _ => fun
  | [d1, d2] => { results := [.lit (.bool true)], args := [d1, d2] }
  | _ => none }
def planeSidesRow : OpenClaim := { program := "ytblnpelbklfloaa", sum := "56e9114e2a32b15b7e1b2c335f83f5b3ca2b0ecf376165163937c66ceb9cdfa4", func := "collet/colletlaw07.PlaneSides", spec := "planeSides", apart := false }
def PlaneSidesSaid : Prop := planeSidesRow.holds Try.pinned (OpenSpec.ofChange planeSidesSpec)

/-- ITS FALSE NEIGHBOUR: 'it returns false'. Refute it at one input. -/
def planeSidesWrong : ChangeSpec := { name := "planeSides", fn := fun _ => fun
  | [d1, d2] => { results := [.lit (.bool false)], args := [d1, d2] }
  | _ => none }
def PlaneSidesWrongFalsely : Prop := planeSidesRow.holds Try.pinned (OpenSpec.ofChange planeSidesWrong)

/-- 'colletlaw07.PlaneReaches': WHATEVER THE INPUT: true; the input reads as it did. -/
def planeReachesSpec : ChangeSpec := { name := "planeReaches", fn := fun _ => fun
  | [d1, d2, d3, d4] => { results := [.lit (.bool true)], args := [d1, d2, d3, d4] }
  | _ => none }
def planeReachesRow : OpenClaim := { program := "ytblnpelbklfloaa", sum := "56e9114e2a32b15b7e1b2c335f83f5b3ca2b0ecf376165163937c66ceb9cdfa4", func := "collet/colletlaw07.PlaneReaches", spec := "planeReaches", apart := false }
def PlaneReachesSaid : Prop := planeReachesRow.holds Try.pinned (OpenSpec.ofChange planeReachesSpec)

/-- ITS FALSE NEIGHBOUR: 'it returns false'. Refute it at one input. -/
def planeReachesWrong : ChangeSpec := { name := "planeReaches", fn := fun _ => fun
  | [d1, d2, d3, d4] => { results := [.lit (.bool false)], args := [d1, d2, d3, d4] }
  | _ => none }
def PlaneReachesWrongFalsely : Prop := planeReachesRow.holds Try.pinned (OpenSpec.ofChange planeReachesWrong)

/- THE SECOND FORM. 'bulk': how many values and letters a reading holds, each counted each time it is reached (what is shared counts as often as it is met; a slice's spare places count too). A statement '..UptoSaid' is the law's where the arguments, and the package variables that the reading takes, are together of bulk at most 1048576: NARROWER than '..Said'. Prove '..Said' where nothing that the law and all that it calls make is longer than what came in: it says more and counts as full. Else prove '..UptoSaid'. A law counts once. -/
mutual
def uptoBulk {H : Type} : DataW H → Nat
  | .lit (.string bytes) => bytes.length + 1
  | .lit _ => 1
  | .nil => 1
  | .ptr d => uptoBulk d + 1
  | .slice elems spare => uptoBulkAll elems + uptoBulkAll spare + 1
  | .agg parts => uptoBulkAll parts + 1
  | .iface _ d => uptoBulk d + 1
  | .map entries => uptoBulkEntries entries + 1
  | .held _ => 1
def uptoBulkAll {H : Type} : List (DataW H) → Nat
  | [] => 0
  | d :: r => uptoBulk d + uptoBulkAll r
def uptoBulkEntries {H : Type} : List (Lit × DataW H) → Nat
  | [] => 0
  | x :: r => uptoBulkEntry x + uptoBulkEntries r
def uptoBulkEntry {H : Type} : Lit × DataW H → Nat
  | (.string bytes, d) => bytes.length + uptoBulk d + 1
  | (_, d) => uptoBulk d + 1
 end
def uptoSmall : (H : Type) → List (DataW H) → Bool := fun _ ds => decide (uptoBulkAll ds ≤ 1048576)
def OpenSpec.upto (s : _root_.Go.ChangeSpec) : _root_.Go.OpenSpec := { _root_.Go.OpenSpec.ofChange s with cond := some uptoSmall }

/-- 'colletlaw07.PlaneVectors', WHERE WHAT IT READS IS OF BULK AT MOST 1048576: true; the input reads as it did. -/
def planeVectorsUptoRow : OpenClaim := { program := "ytblnpelbklfloaa", sum := "56e9114e2a32b15b7e1b2c335f83f5b3ca2b0ecf376165163937c66ceb9cdfa4", func := "collet/colletlaw07.PlaneVectors", spec := "planeVectors", apart := false, narrowed := true }
def PlaneVectorsUptoSaid : Prop := planeVectorsUptoRow.holds Try.pinned (OpenSpec.upto planeVectorsSpec)

/-- 'colletlaw07.PlaneForms', WHERE WHAT IT READS IS OF BULK AT MOST 1048576: true; the input reads as it did. -/
def planeFormsUptoRow : OpenClaim := { program := "ytblnpelbklfloaa", sum := "56e9114e2a32b15b7e1b2c335f83f5b3ca2b0ecf376165163937c66ceb9cdfa4", func := "collet/colletlaw07.PlaneForms", spec := "planeForms", apart := false, narrowed := true }
def PlaneFormsUptoSaid : Prop := planeFormsUptoRow.holds Try.pinned (OpenSpec.upto planeFormsSpec)

/-- 'colletlaw07.PlaneThrough', WHERE WHAT IT READS IS OF BULK AT MOST 1048576: true; the input reads as it did. -/
def planeThroughUptoRow : OpenClaim := { program := "ytblnpelbklfloaa", sum := "56e9114e2a32b15b7e1b2c335f83f5b3ca2b0ecf376165163937c66ceb9cdfa4", func := "collet/colletlaw07.PlaneThrough", spec := "planeThrough", apart := false, narrowed := true }
def PlaneThroughUptoSaid : Prop := planeThroughUptoRow.holds Try.pinned (OpenSpec.upto planeThroughSpec)

/-- 'colletlaw07.PlaneTriples', WHERE WHAT IT READS IS OF BULK AT MOST 1048576: true; the input reads as it did. -/
def planeTriplesUptoRow : OpenClaim := { program := "ytblnpelbklfloaa", sum := "56e9114e2a32b15b7e1b2c335f83f5b3ca2b0ecf376165163937c66ceb9cdfa4", func := "collet/colletlaw07.PlaneTriples", spec := "planeTriples", apart := false, narrowed := true }
def PlaneTriplesUptoSaid : Prop := planeTriplesUptoRow.holds Try.pinned (OpenSpec.upto planeTriplesSpec)

/-- 'colletlaw07.PlanePrims', WHERE WHAT IT READS IS OF BULK AT MOST 1048576: true; the input reads as it did. -/
def planePrimsUptoRow : OpenClaim := { program := "ytblnpelbklfloaa", sum := "56e9114e2a32b15b7e1b2c335f83f5b3ca2b0ecf376165163937c66ceb9cdfa4", func := "collet/colletlaw07.PlanePrims", spec := "planePrims", apart := false, narrowed := true }
def PlanePrimsUptoSaid : Prop := planePrimsUptoRow.holds Try.pinned (OpenSpec.upto planePrimsSpec)

/-- 'colletlaw07.PlaneSides', WHERE WHAT IT READS IS OF BULK AT MOST 1048576: true; the input reads as it did. -/
def planeSidesUptoRow : OpenClaim := { program := "ytblnpelbklfloaa", sum := "56e9114e2a32b15b7e1b2c335f83f5b3ca2b0ecf376165163937c66ceb9cdfa4", func := "collet/colletlaw07.PlaneSides", spec := "planeSides", apart := false, narrowed := true }
def PlaneSidesUptoSaid : Prop := planeSidesUptoRow.holds Try.pinned (OpenSpec.upto planeSidesSpec)

/-- 'colletlaw07.PlaneReaches', WHERE WHAT IT READS IS OF BULK AT MOST 1048576: true; the input reads as it did. -/
def planeReachesUptoRow : OpenClaim := { program := "ytblnpelbklfloaa", sum := "56e9114e2a32b15b7e1b2c335f83f5b3ca2b0ecf376165163937c66ceb9cdfa4", func := "collet/colletlaw07.PlaneReaches", spec := "planeReaches", apart := false, narrowed := true }
def PlaneReachesUptoSaid : Prop := planeReachesUptoRow.holds Try.pinned (OpenSpec.upto planeReachesSpec)

end Rows
end Go.Proofs.Ytblnpelbklfloaa
