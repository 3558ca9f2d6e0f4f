/-
  No cell of these rows narrows 'for every input' (looked for: loops, veiled, ifaces, maps, wideKeys, modest, calm, conditions, laid).
  DERIVED. THE GIVEN ROWS OF THIS SEAT. 5 by the template 'for every input the law returns true; each argument reads behind the call as it read before'; 0 by the template 'total and deterministic' (their statements: YtfkcmchpddpmgaaTotals.lean).
  GIVEN WITH THE SEED: the statements are not yours to turn. If you find one false, say at which input.
  Laid BY PROGRAM, IN A SANDBOX (cutbox-rows.mjs): the forced cells as the released guide's own fill.sh prints them over the translation bfb564745a09d555… (all of the seat's roots in one cut). By AI agents, Wed Nov 11 2026. No macro, syntax, notation, axiom, sorry.
-/
import Derived.Test.YtfkcmchpddpmgaaChecked
import GoSem.Claim
import GoSem.ClaimJoined
import GoSem.ClaimMapViews
import Derived.JoinedTies
import Derived.KernelRfl
namespace Go.Proofs.Ytfkcmchpddpmgaa
/- THE CELL 'sum', in the pinned program and in every row, IS THE sha256 OF THE DUMP (.gsa) THAT YtfkcmchpddpmgaaProg.lean LOADS. Nothing in Lean hashes anything: it is a label: what it is worth is what the hold of that sum in a sandbox is worth. -/
noncomputable def Try.pinned : Pinned := { name := "ytfkcmchpddpmgaa", sum := "bfb564745a09d5553b9d09bae288abf5d6ae892737ecfc96149e5485a778ad9d", checked := Try.checked }
namespace Rows
def none {H : Type} : Left H := { results := [], args := [] }

/-- 'plenumlaw2.SumAll': WHATEVER THE INPUT: true; the input reads as it did. -/
def sumAllSpec : ChangeSpec := { name := "sumAll", fn := fun _ => fun
  | [d1, d2] => { results := [.lit (.bool true)], args := [d1, d2] }
  | _ => none }
def sumAllRow : OpenClaim := { program := "ytfkcmchpddpmgaa", sum := "bfb564745a09d5553b9d09bae288abf5d6ae892737ecfc96149e5485a778ad9d", func := "plenum/plenumlaw2.SumAll", spec := "sumAll", apart := false }
def SumAllSaid : Prop := sumAllRow.holds Try.pinned (OpenSpec.ofChange sumAllSpec)

/-- ITS FALSE NEIGHBOUR: 'it returns false'. Refute it at one input. -/
def sumAllWrong : ChangeSpec := { name := "sumAll", fn := fun _ => fun
  | [d1, d2] => { results := [.lit (.bool false)], args := [d1, d2] }
  | _ => none }
def SumAllWrongFalsely : Prop := sumAllRow.holds Try.pinned (OpenSpec.ofChange sumAllWrong)

/-- 'plenumlaw2.SumGood': WHATEVER THE INPUT: true; the input reads as it did. -/
def sumGoodSpec : ChangeSpec := { name := "sumGood", fn := fun _ => fun
  | [d1, d2, d3, d4] => { results := [.lit (.bool true)], args := [d1, d2, d3, d4] }
  | _ => none }
def sumGoodRow : OpenClaim := { program := "ytfkcmchpddpmgaa", sum := "bfb564745a09d5553b9d09bae288abf5d6ae892737ecfc96149e5485a778ad9d", func := "plenum/plenumlaw2.SumGood", spec := "sumGood", apart := false }
def SumGoodSaid : Prop := sumGoodRow.holds Try.pinned (OpenSpec.ofChange sumGoodSpec)

/-- ITS FALSE NEIGHBOUR: 'it returns false'. Refute it at one input. -/
def sumGoodWrong : ChangeSpec := { name := "sumGood", fn := fun _ => fun
  | [d1, d2, d3, d4] => { results := [.lit (.bool false)], args := [d1, d2, d3, d4] }
  | _ => none }
def SumGoodWrongFalsely : Prop := sumGoodRow.holds Try.pinned (OpenSpec.ofChange sumGoodWrong)

/-- 'plenumlaw2.SumTurned': WHATEVER THE INPUT: true; the input reads as it did. -/
def sumTurnedSpec : ChangeSpec := { name := "sumTurned", fn := fun _ => fun
  | [d1, d2, d3, d4] => { results := [.lit (.bool true)], args := [d1, d2, d3, d4] }
  | _ => none }
def sumTurnedRow : OpenClaim := { program := "ytfkcmchpddpmgaa", sum := "bfb564745a09d5553b9d09bae288abf5d6ae892737ecfc96149e5485a778ad9d", func := "plenum/plenumlaw2.SumTurned", spec := "sumTurned", apart := false }
def SumTurnedSaid : Prop := sumTurnedRow.holds Try.pinned (OpenSpec.ofChange sumTurnedSpec)

/-- ITS FALSE NEIGHBOUR: 'it returns false'. Refute it at one input. -/
def sumTurnedWrong : ChangeSpec := { name := "sumTurned", fn := fun _ => fun
  | [d1, d2, d3, d4] => { results := [.lit (.bool false)], args := [d1, d2, d3, d4] }
  | _ => none }
def SumTurnedWrongFalsely : Prop := sumTurnedRow.holds Try.pinned (OpenSpec.ofChange sumTurnedWrong)

/-- 'plenumlaw2.SumWords': WHATEVER THE INPUT: true; the input reads as it did. -/
def sumWordsSpec : ChangeSpec := { name := "sumWords", fn := fun _ => fun
  | [d1, d2, d3] => { results := [.lit (.bool true)], args := [d1, d2, d3] }
  | _ => none }
def sumWordsRow : OpenClaim := { program := "ytfkcmchpddpmgaa", sum := "bfb564745a09d5553b9d09bae288abf5d6ae892737ecfc96149e5485a778ad9d", func := "plenum/plenumlaw2.SumWords", spec := "sumWords", apart := false }
def SumWordsSaid : Prop := sumWordsRow.holds Try.pinned (OpenSpec.ofChange sumWordsSpec)

/-- ITS FALSE NEIGHBOUR: 'it returns false'. Refute it at one input. -/
def sumWordsWrong : ChangeSpec := { name := "sumWords", fn := fun _ => fun
  | [d1, d2, d3] => { results := [.lit (.bool false)], args := [d1, d2, d3] }
  | _ => none }
def SumWordsWrongFalsely : Prop := sumWordsRow.holds Try.pinned (OpenSpec.ofChange sumWordsWrong)

/-- 'plenumlaw2.SumTails': WHATEVER THE INPUT: true; the input reads as it did. -/
def sumTailsSpec : ChangeSpec := { name := "sumTails", fn := fun _ => fun
  | [d1, d2] => { results := [.lit (.bool true)], args := [d1, d2] }
  | _ => none }
def sumTailsRow : OpenClaim := { program := "ytfkcmchpddpmgaa", sum := "bfb564745a09d5553b9d09bae288abf5d6ae892737ecfc96149e5485a778ad9d", func := "plenum/plenumlaw2.SumTails", spec := "sumTails", apart := false }
def SumTailsSaid : Prop := sumTailsRow.holds Try.pinned (OpenSpec.ofChange sumTailsSpec)

/-- ITS FALSE NEIGHBOUR: 'it returns false'. Refute it at one input. -/
def sumTailsWrong : ChangeSpec := { name := "sumTails", fn := fun _ => fun
  | [d1, d2] => { results := [.lit (.bool false)], args := [d1, d2] }
  | _ => none }
def SumTailsWrongFalsely : Prop := sumTailsRow.holds Try.pinned (OpenSpec.ofChange sumTailsWrong)

/- THE SECOND FORM. 'bulk': how many values and letters a reading holds, each counted each time it is reached (what is shared counts as often as it is met; a slice's spare places count too). A statement '..UptoSaid' is the law's where the arguments, and the package variables that the reading takes, are together of bulk at most 1048576: NARROWER than '..Said'. Prove '..Said' where nothing that the law and all that it calls make is longer than what came in: it says more and counts as full. Else prove '..UptoSaid'. A law counts once. -/
mutual
def uptoBulk {H : Type} : DataW H → Nat
  | .lit (.string bytes) => bytes.length + 1
  | .lit _ => 1
  | .nil => 1
  | .ptr d => uptoBulk d + 1
  | .slice elems spare => uptoBulkAll elems + uptoBulkAll spare + 1
  | .agg parts => uptoBulkAll parts + 1
  | .iface _ d => uptoBulk d + 1
  | .map entries => uptoBulkEntries entries + 1
  | .held _ => 1
def uptoBulkAll {H : Type} : List (DataW H) → Nat
  | [] => 0
  | d :: r => uptoBulk d + uptoBulkAll r
def uptoBulkEntries {H : Type} : List (Lit × DataW H) → Nat
  | [] => 0
  | x :: r => uptoBulkEntry x + uptoBulkEntries r
def uptoBulkEntry {H : Type} : Lit × DataW H → Nat
  | (.string bytes, d) => bytes.length + uptoBulk d + 1
  | (_, d) => uptoBulk d + 1
 end
def uptoSmall : (H : Type) → List (DataW H) → Bool := fun _ ds => decide (uptoBulkAll ds ≤ 1048576)
def OpenSpec.upto (s : _root_.Go.ChangeSpec) : _root_.Go.OpenSpec := { _root_.Go.OpenSpec.ofChange s with cond := some uptoSmall }

/-- 'plenumlaw2.SumAll', WHERE WHAT IT READS IS OF BULK AT MOST 1048576: true; the input reads as it did. -/
def sumAllUptoRow : OpenClaim := { program := "ytfkcmchpddpmgaa", sum := "bfb564745a09d5553b9d09bae288abf5d6ae892737ecfc96149e5485a778ad9d", func := "plenum/plenumlaw2.SumAll", spec := "sumAll", apart := false, narrowed := true }
def SumAllUptoSaid : Prop := sumAllUptoRow.holds Try.pinned (OpenSpec.upto sumAllSpec)

/-- 'plenumlaw2.SumGood', WHERE WHAT IT READS IS OF BULK AT MOST 1048576: true; the input reads as it did. -/
def sumGoodUptoRow : OpenClaim := { program := "ytfkcmchpddpmgaa", sum := "bfb564745a09d5553b9d09bae288abf5d6ae892737ecfc96149e5485a778ad9d", func := "plenum/plenumlaw2.SumGood", spec := "sumGood", apart := false, narrowed := true }
def SumGoodUptoSaid : Prop := sumGoodUptoRow.holds Try.pinned (OpenSpec.upto sumGoodSpec)

/-- 'plenumlaw2.SumTurned', WHERE WHAT IT READS IS OF BULK AT MOST 1048576: true; the input reads as it did. -/
def sumTurnedUptoRow : OpenClaim := { program := "ytfkcmchpddpmgaa", sum := "bfb564745a09d5553b9d09bae288abf5d6ae892737ecfc96149e5485a778ad9d", func := "plenum/plenumlaw2.SumTurned", spec := "sumTurned", apart := false, narrowed := true }
def SumTurnedUptoSaid : Prop := sumTurnedUptoRow.holds Try.pinned (OpenSpec.upto sumTurnedSpec)

/-- 'plenumlaw2.SumWords', WHERE WHAT IT READS IS OF BULK AT MOST 1048576: true; the input reads as it did. -/
def sumWordsUptoRow : OpenClaim := { program := "ytfkcmchpddpmgaa", sum := "bfb564745a09d5553b9d09bae288abf5d6ae892737ecfc96149e5485a778ad9d", func := "plenum/plenumlaw2.SumWords", spec := "sumWords", apart := false, narrowed := true }
def SumWordsUptoSaid : Prop := sumWordsUptoRow.holds Try.pinned (OpenSpec.upto sumWordsSpec)

/-- 'plenumlaw2.SumTails', WHERE WHAT IT READS IS OF BULK AT MOST 1048576: true; the input reads as it did. -/
def sumTailsUptoRow : OpenClaim := { program := "ytfkcmchpddpmgaa", sum := "bfb564745a09d5553b9d09bae288abf5d6ae892737ecfc96149e5485a778ad9d", func := "plenum/plenumlaw2.SumTails", spec := "sumTails", apart := false, narrowed := true }
def SumTailsUptoSaid : Prop := sumTailsUptoRow.holds Try.pinned (OpenSpec.upto sumTailsSpec)

end Rows
end Go.Proofs.Ytfkcmchpddpmgaa
