/-
  No cell of these rows narrows 'for every input' (looked for: loops, veiled, ifaces, maps, wideKeys, modest, calm, conditions, laid).
  DERIVED. THE GIVEN ROWS OF THIS SEAT. 4 by the template 'for every input the law returns true; each argument reads behind the call as it read before'; 0 by the template 'total and deterministic' (their statements: YtnnmaelnkoihjaaTotals.lean).
  GIVEN WITH THE SEED: the statements are not yours to turn. If you find one false, say at which input.
  Laid BY PROGRAM, IN A SANDBOX (cutbox-rows.mjs): the forced cells as the released guide's own fill.sh prints them over the translation ae676f169ad0358c… (all of the seat's roots in one cut). By AI agents, Wed Nov 11 2026. No macro, syntax, notation, axiom, sorry.
-/
import Derived.Test.YtnnmaelnkoihjaaChecked
import GoSem.Claim
import GoSem.ClaimJoined
import GoSem.ClaimMapViews
import Derived.JoinedTies
import Derived.KernelRfl
namespace Go.Proofs.Ytnnmaelnkoihjaa
/- THE CELL 'sum', in the pinned program and in every row, IS THE sha256 OF THE DUMP (.gsa) THAT YtnnmaelnkoihjaaProg.lean LOADS. Nothing in Lean hashes anything: it is a label: what it is worth is what the hold of that sum in a sandbox is worth. -/
noncomputable def Try.pinned : Pinned := { name := "ytnnmaelnkoihjaa", sum := "ae676f169ad0358c851c6da27e25b0d47e780f9d253465c7d0c98e080caee365", checked := Try.checked }
namespace Rows
def none {H : Type} : Left H := { results := [], args := [] }

/-- 'plenumlaw4.IgmpAll': WHATEVER THE INPUT: true; the input reads as it did. -/
def igmpAllSpec : ChangeSpec := { name := "igmpAll", fn := fun _ => fun
  | [d1, d2] => { results := [.lit (.bool true)], args := [d1, d2] }
  | _ => none }
def igmpAllRow : OpenClaim := { program := "ytnnmaelnkoihjaa", sum := "ae676f169ad0358c851c6da27e25b0d47e780f9d253465c7d0c98e080caee365", func := "plenum/plenumlaw4.IgmpAll", spec := "igmpAll", apart := false }
def IgmpAllSaid : Prop := igmpAllRow.holds Try.pinned (OpenSpec.ofChange igmpAllSpec)

/-- ITS FALSE NEIGHBOUR: 'it returns false'. Refute it at one input. -/
def igmpAllWrong : ChangeSpec := { name := "igmpAll", fn := fun _ => fun
  | [d1, d2] => { results := [.lit (.bool false)], args := [d1, d2] }
  | _ => none }
def IgmpAllWrongFalsely : Prop := igmpAllRow.holds Try.pinned (OpenSpec.ofChange igmpAllWrong)

/-- 'plenumlaw4.IgmpBack': WHATEVER THE INPUT: true; the input reads as it did. -/
def igmpBackSpec : ChangeSpec := { name := "igmpBack", fn := fun _ => fun
  | [d1, d2] => { results := [.lit (.bool true)], args := [d1, d2] }
  | _ => none }
def igmpBackRow : OpenClaim := { program := "ytnnmaelnkoihjaa", sum := "ae676f169ad0358c851c6da27e25b0d47e780f9d253465c7d0c98e080caee365", func := "plenum/plenumlaw4.IgmpBack", spec := "igmpBack", apart := false }
def IgmpBackSaid : Prop := igmpBackRow.holds Try.pinned (OpenSpec.ofChange igmpBackSpec)

/-- ITS FALSE NEIGHBOUR: 'it returns false'. Refute it at one input. -/
def igmpBackWrong : ChangeSpec := { name := "igmpBack", fn := fun _ => fun
  | [d1, d2] => { results := [.lit (.bool false)], args := [d1, d2] }
  | _ => none }
def IgmpBackWrongFalsely : Prop := igmpBackRow.holds Try.pinned (OpenSpec.ofChange igmpBackWrong)

/-- 'plenumlaw4.IgmpJust': WHATEVER THE INPUT: true; the input reads as it did. -/
def igmpJustSpec : ChangeSpec := { name := "igmpJust", fn := fun _ => fun
  | [d1, d2, d3] => { results := [.lit (.bool true)], args := [d1, d2, d3] }
  | _ => none }
def igmpJustRow : OpenClaim := { program := "ytnnmaelnkoihjaa", sum := "ae676f169ad0358c851c6da27e25b0d47e780f9d253465c7d0c98e080caee365", func := "plenum/plenumlaw4.IgmpJust", spec := "igmpJust", apart := false }
def IgmpJustSaid : Prop := igmpJustRow.holds Try.pinned (OpenSpec.ofChange igmpJustSpec)

/-- ITS FALSE NEIGHBOUR: 'it returns false'. Refute it at one input. -/
def igmpJustWrong : ChangeSpec := { name := "igmpJust", fn := fun _ => fun
  | [d1, d2, d3] => { results := [.lit (.bool false)], args := [d1, d2, d3] }
  | _ => none }
def IgmpJustWrongFalsely : Prop := igmpJustRow.holds Try.pinned (OpenSpec.ofChange igmpJustWrong)

/-- 'plenumlaw4.IgmpKinds': WHATEVER THE INPUT: true; the input reads as it did. -/
def igmpKindsSpec : ChangeSpec := { name := "igmpKinds", fn := fun _ => fun
  | [d1, d2] => { results := [.lit (.bool true)], args := [d1, d2] }
  | _ => none }
def igmpKindsRow : OpenClaim := { program := "ytnnmaelnkoihjaa", sum := "ae676f169ad0358c851c6da27e25b0d47e780f9d253465c7d0c98e080caee365", func := "plenum/plenumlaw4.IgmpKinds", spec := "igmpKinds", apart := false }
def IgmpKindsSaid : Prop := igmpKindsRow.holds Try.pinned (OpenSpec.ofChange igmpKindsSpec)

/-- ITS FALSE NEIGHBOUR: 'it returns false'. Refute it at one input. -/
def igmpKindsWrong : ChangeSpec := { name := "igmpKinds", fn := fun _ => fun
  | [d1, d2] => { results := [.lit (.bool false)], args := [d1, d2] }
  | _ => none }
def IgmpKindsWrongFalsely : Prop := igmpKindsRow.holds Try.pinned (OpenSpec.ofChange igmpKindsWrong)

/- THE SECOND FORM. 'bulk': how many values and letters a reading holds, each counted each time it is reached (what is shared counts as often as it is met; a slice's spare places count too). A statement '..UptoSaid' is the law's where the arguments, and the package variables that the reading takes, are together of bulk at most 1048576: NARROWER than '..Said'. Prove '..Said' where nothing that the law and all that it calls make is longer than what came in: it says more and counts as full. Else prove '..UptoSaid'. A law counts once. -/
mutual
def uptoBulk {H : Type} : DataW H → Nat
  | .lit (.string bytes) => bytes.length + 1
  | .lit _ => 1
  | .nil => 1
  | .ptr d => uptoBulk d + 1
  | .slice elems spare => uptoBulkAll elems + uptoBulkAll spare + 1
  | .agg parts => uptoBulkAll parts + 1
  | .iface _ d => uptoBulk d + 1
  | .map entries => uptoBulkEntries entries + 1
  | .held _ => 1
def uptoBulkAll {H : Type} : List (DataW H) → Nat
  | [] => 0
  | d :: r => uptoBulk d + uptoBulkAll r
def uptoBulkEntries {H : Type} : List (Lit × DataW H) → Nat
  | [] => 0
  | x :: r => uptoBulkEntry x + uptoBulkEntries r
def uptoBulkEntry {H : Type} : Lit × DataW H → Nat
  | (.string bytes, d) => bytes.length + uptoBulk d + 1
  | (_, d) => uptoBulk d + 1
 end
def uptoSmall : (H : Type) → List (DataW H) → Bool := fun _ ds => decide (uptoBulkAll ds ≤ 1048576)
def OpenSpec.upto (s : _root_.Go.ChangeSpec) : _root_.Go.OpenSpec := { _root_.Go.OpenSpec.ofChange s with cond := some uptoSmall }

/-- 'plenumlaw4.IgmpAll', WHERE WHAT IT READS IS OF BULK AT MOST 1048576: true; the input reads as it did. -/
def igmpAllUptoRow : OpenClaim := { program := "ytnnmaelnkoihjaa", sum := "ae676f169ad0358c851c6da27e25b0d47e780f9d253465c7d0c98e080caee365", func := "plenum/plenumlaw4.IgmpAll", spec := "igmpAll", apart := false, narrowed := true }
def IgmpAllUptoSaid : Prop := igmpAllUptoRow.holds Try.pinned (OpenSpec.upto igmpAllSpec)

/-- 'plenumlaw4.IgmpBack', WHERE WHAT IT READS IS OF BULK AT MOST 1048576: true; the input reads as it did. -/
def igmpBackUptoRow : OpenClaim := { program := "ytnnmaelnkoihjaa", sum := "ae676f169ad0358c851c6da27e25b0d47e780f9d253465c7d0c98e080caee365", func := "plenum/plenumlaw4.IgmpBack", spec := "igmpBack", apart := false, narrowed := true }
def IgmpBackUptoSaid : Prop := igmpBackUptoRow.holds Try.pinned (OpenSpec.upto igmpBackSpec)

/-- 'plenumlaw4.IgmpJust', WHERE WHAT IT READS IS OF BULK AT MOST 1048576: true; the input reads as it did. -/
def igmpJustUptoRow : OpenClaim := { program := "ytnnmaelnkoihjaa", sum := "ae676f169ad0358c851c6da27e25b0d47e780f9d253465c7d0c98e080caee365", func := "plenum/plenumlaw4.IgmpJust", spec := "igmpJust", apart := false, narrowed := true }
def IgmpJustUptoSaid : Prop := igmpJustUptoRow.holds Try.pinned (OpenSpec.upto igmpJustSpec)

/-- 'plenumlaw4.IgmpKinds', WHERE WHAT IT READS IS OF BULK AT MOST 1048576: true; the input reads as it did. -/
def igmpKindsUptoRow : OpenClaim := { program := "ytnnmaelnkoihjaa", sum := "ae676f169ad0358c851c6da27e25b0d47e780f9d253465c7d0c98e080caee365", func := "plenum/plenumlaw4.IgmpKinds", spec := "igmpKinds", apart := false, narrowed := true }
def IgmpKindsUptoSaid : Prop := igmpKindsUptoRow.holds Try.pinned (OpenSpec.upto igmpKindsSpec)

end Rows
end Go.Proofs.Ytnnmaelnkoihjaa
