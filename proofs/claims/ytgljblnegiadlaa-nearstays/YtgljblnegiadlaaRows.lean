/-
  No cell of these rows narrows 'for every input' (looked for: loops, veiled, ifaces, maps, wideKeys, modest, calm, conditions, laid).
  DERIVED. THE GIVEN ROWS OF THIS SEAT. 3 by the template 'for every input the law returns true; each argument reads behind the call as it read before'; 0 by the template 'total and deterministic' (their statements: YtgljblnegiadlaaTotals.lean).
  GIVEN WITH THE SEED: the statements are not yours to turn. If you find one false, say at which input.
  Laid BY PROGRAM, IN A SANDBOX (cutbox-rows.mjs): the forced cells as the released guide's own fill.sh prints them over the translation b0fbc8763b2226df… (all of the seat's roots in one cut). By AI agents, Wed Nov 11 2026. No macro, syntax, notation, axiom, sorry.
-/
import Derived.Test.YtgljblnegiadlaaChecked
import GoSem.Claim
import GoSem.ClaimJoined
import GoSem.ClaimMapViews
import Derived.JoinedTies
import Derived.KernelRfl
namespace Go.Proofs.Ytgljblnegiadlaa
/- THE CELL 'sum', in the pinned program and in every row, IS THE sha256 OF THE DUMP (.gsa) THAT YtgljblnegiadlaaProg.lean LOADS. Nothing in Lean hashes anything: it is a label: what it is worth is what the hold of that sum in a sandbox is worth. -/
noncomputable def Try.pinned : Pinned := { name := "ytgljblnegiadlaa", sum := "b0fbc8763b2226dfe3c030e29796ebb33feae6b9f15faf2ae32384d1cbe1c292", checked := Try.checked }
namespace Rows
def none {H : Type} : Left H := { results := [], args := [] }

/-- 'plenumlaw11.NearAll': WHATEVER THE INPUT: true; the input reads as it did. -/
def nearAllSpec : ChangeSpec := { name := "nearAll", fn := fun _ => fun
  | [d1, d2, d3, d4] => { results := [.lit (.bool true)], args := [d1, d2, d3, d4] }
  | _ => none }
def nearAllRow : OpenClaim := { program := "ytgljblnegiadlaa", sum := "b0fbc8763b2226dfe3c030e29796ebb33feae6b9f15faf2ae32384d1cbe1c292", func := "plenum/plenumlaw11.NearAll", spec := "nearAll", inPlace := ["slices.overlaps[plenum/api.Near]"], unfollowed := true, recurses := true, apart := false }
def NearAllSaid : Prop := nearAllRow.holds Try.pinned (OpenSpec.ofChange nearAllSpec)

/-- ITS FALSE NEIGHBOUR: 'it returns false'. Refute it at one input. -/
def nearAllWrong : ChangeSpec := { name := "nearAll", fn := fun _ => fun
  | [d1, d2, d3, d4] => { results := [.lit (.bool false)], args := [d1, d2, d3, d4] }
  | _ => none }
def NearAllWrongFalsely : Prop := nearAllRow.holds Try.pinned (OpenSpec.ofChange nearAllWrong)

/-- 'plenumlaw11.NearStays': WHATEVER THE INPUT: true; the input reads as it did. -/
def nearStaysSpec : ChangeSpec := { name := "nearStays", fn := fun _ => fun
  | [d] => { results := [.lit (.bool true)], args := [d] }
  | _ => none }
def nearStaysRow : OpenClaim := { program := "ytgljblnegiadlaa", sum := "b0fbc8763b2226dfe3c030e29796ebb33feae6b9f15faf2ae32384d1cbe1c292", func := "plenum/plenumlaw11.NearStays", spec := "nearStays", inPlace := ["slices.overlaps[plenum/api.Near]"], unfollowed := true, recurses := true, apart := false }
def NearStaysSaid : Prop := nearStaysRow.holds Try.pinned (OpenSpec.ofChange nearStaysSpec)

/-- ITS FALSE NEIGHBOUR: 'it returns false'. Refute it at one input. -/
def nearStaysWrong : ChangeSpec := { name := "nearStays", fn := fun _ => fun
  | [d] => { results := [.lit (.bool false)], args := [d] }
  | _ => none }
def NearStaysWrongFalsely : Prop := nearStaysRow.holds Try.pinned (OpenSpec.ofChange nearStaysWrong)

/-- 'plenumlaw11.NearMany': WHATEVER THE INPUT: true; the input reads as it did. -/
def nearManySpec : ChangeSpec := { name := "nearMany", fn := fun _ => fun
  | [d1, d2] => { results := [.lit (.bool true)], args := [d1, d2] }
  | _ => none }
def nearManyRow : OpenClaim := { program := "ytgljblnegiadlaa", sum := "b0fbc8763b2226dfe3c030e29796ebb33feae6b9f15faf2ae32384d1cbe1c292", func := "plenum/plenumlaw11.NearMany", spec := "nearMany", inPlace := ["slices.overlaps[plenum/api.Near]"], unfollowed := true, recurses := true, apart := false }
def NearManySaid : Prop := nearManyRow.holds Try.pinned (OpenSpec.ofChange nearManySpec)

/-- ITS FALSE NEIGHBOUR: 'it returns false'. Refute it at one input. -/
def nearManyWrong : ChangeSpec := { name := "nearMany", fn := fun _ => fun
  | [d1, d2] => { results := [.lit (.bool false)], args := [d1, d2] }
  | _ => none }
def NearManyWrongFalsely : Prop := nearManyRow.holds Try.pinned (OpenSpec.ofChange nearManyWrong)

/- THE SECOND FORM. 'bulk': how many values and letters a reading holds, each counted each time it is reached (what is shared counts as often as it is met; a slice's spare places count too). A statement '..UptoSaid' is the law's where the arguments, and the package variables that the reading takes, are together of bulk at most 1048576: NARROWER than '..Said'. Prove '..Said' where nothing that the law and all that it calls make is longer than what came in: it says more and counts as full. Else prove '..UptoSaid'. A law counts once. -/
mutual
def uptoBulk {H : Type} : DataW H → Nat
  | .lit (.string bytes) => bytes.length + 1
  | .lit _ => 1
  | .nil => 1
  | .ptr d => uptoBulk d + 1
  | .slice elems spare => uptoBulkAll elems + uptoBulkAll spare + 1
  | .agg parts => uptoBulkAll parts + 1
  | .iface _ d => uptoBulk d + 1
  | .map entries => uptoBulkEntries entries + 1
  | .held _ => 1
def uptoBulkAll {H : Type} : List (DataW H) → Nat
  | [] => 0
  | d :: r => uptoBulk d + uptoBulkAll r
def uptoBulkEntries {H : Type} : List (Lit × DataW H) → Nat
  | [] => 0
  | x :: r => uptoBulkEntry x + uptoBulkEntries r
def uptoBulkEntry {H : Type} : Lit × DataW H → Nat
  | (.string bytes, d) => bytes.length + uptoBulk d + 1
  | (_, d) => uptoBulk d + 1
 end
def uptoSmall : (H : Type) → List (DataW H) → Bool := fun _ ds => decide (uptoBulkAll ds ≤ 1048576)
def OpenSpec.upto (s : _root_.Go.ChangeSpec) : _root_.Go.OpenSpec := { _root_.Go.OpenSpec.ofChange s with cond := some uptoSmall }

/-- 'plenumlaw11.NearAll', WHERE WHAT IT READS IS OF BULK AT MOST 1048576: true; the input reads as it did. -/
def nearAllUptoRow : OpenClaim := { program := "ytgljblnegiadlaa", sum := "b0fbc8763b2226dfe3c030e29796ebb33feae6b9f15faf2ae32384d1cbe1c292", func := "plenum/plenumlaw11.NearAll", spec := "nearAll", inPlace := ["slices.overlaps[plenum/api.Near]"], unfollowed := true, recurses := true, apart := false, narrowed := true }
def NearAllUptoSaid : Prop := nearAllUptoRow.holds Try.pinned (OpenSpec.upto nearAllSpec)

/-- 'plenumlaw11.NearStays', WHERE WHAT IT READS IS OF BULK AT MOST 1048576: true; the input reads as it did. -/
def nearStaysUptoRow : OpenClaim := { program := "ytgljblnegiadlaa", sum := "b0fbc8763b2226dfe3c030e29796ebb33feae6b9f15faf2ae32384d1cbe1c292", func := "plenum/plenumlaw11.NearStays", spec := "nearStays", inPlace := ["slices.overlaps[plenum/api.Near]"], unfollowed := true, recurses := true, apart := false, narrowed := true }
def NearStaysUptoSaid : Prop := nearStaysUptoRow.holds Try.pinned (OpenSpec.upto nearStaysSpec)

/-- 'plenumlaw11.NearMany', WHERE WHAT IT READS IS OF BULK AT MOST 1048576: true; the input reads as it did. -/
def nearManyUptoRow : OpenClaim := { program := "ytgljblnegiadlaa", sum := "b0fbc8763b2226dfe3c030e29796ebb33feae6b9f15faf2ae32384d1cbe1c292", func := "plenum/plenumlaw11.NearMany", spec := "nearMany", inPlace := ["slices.overlaps[plenum/api.Near]"], unfollowed := true, recurses := true, apart := false, narrowed := true }
def NearManyUptoSaid : Prop := nearManyUptoRow.holds Try.pinned (OpenSpec.upto nearManySpec)

end Rows
end Go.Proofs.Ytgljblnegiadlaa
