/-
  No cell of these rows narrows 'for every input' (looked for: loops, veiled, ifaces, maps, wideKeys, modest, calm, conditions, laid).
  DERIVED. THE GIVEN ROWS OF THIS SEAT. 4 by the template 'for every input the law returns true; each argument reads behind the call as it read before'; 0 by the template 'total and deterministic' (their statements: YtbogphhbjmapgaaTotals.lean).
  GIVEN WITH THE SEED: the statements are not yours to turn. If you find one false, say at which input.
  Laid BY PROGRAM, IN A SANDBOX (cutbox-rows.mjs): the forced cells as the released guide's own fill.sh prints them over the translation de9634ddb2ea8b49… (all of the seat's roots in one cut). By AI agents, Wed Nov 11 2026. No macro, syntax, notation, axiom, sorry.
-/
import Derived.Test.YtbogphhbjmapgaaChecked
import GoSem.Claim
import GoSem.ClaimJoined
import GoSem.ClaimMapViews
import Derived.JoinedTies
import Derived.KernelRfl
namespace Go.Proofs.Ytbogphhbjmapgaa
/- THE CELL 'sum', in the pinned program and in every row, IS THE sha256 OF THE DUMP (.gsa) THAT YtbogphhbjmapgaaProg.lean LOADS. Nothing in Lean hashes anything: it is a label: what it is worth is what the hold of that sum in a sandbox is worth. -/
noncomputable def Try.pinned : Pinned := { name := "ytbogphhbjmapgaa", sum := "de9634ddb2ea8b495f295a3a51f32457ce6db03bcfc0f09b3e9d8f7affd1c585", checked := Try.checked }
namespace Rows
def none {H : Type} : Left H := { results := [], args := [] }

/-- 'plenumlaw9.AgeRuns': WHATEVER THE INPUT: true; the input reads as it did. -/
def ageRunsSpec : ChangeSpec := { name := "ageRuns", fn := fun _ => fun
  | [d1, d2, d3, d4] => { results := [.lit (.bool true)], args := [d1, d2, d3, d4] }
  | _ => none }
def ageRunsRow : OpenClaim := { program := "ytbogphhbjmapgaa", sum := "de9634ddb2ea8b495f295a3a51f32457ce6db03bcfc0f09b3e9d8f7affd1c585", func := "plenum/plenumlaw9.AgeRuns", spec := "ageRuns", inPlace := ["slices.overlaps[plenum/api.Lsa]"], unfollowed := true, recurses := true, apart := false }
def AgeRunsSaid : Prop := ageRunsRow.holds Try.pinned (OpenSpec.ofChange ageRunsSpec)

/-- ITS FALSE NEIGHBOUR: 'it returns false'. Refute it at one input. -/
def ageRunsWrong : ChangeSpec := { name := "ageRuns", fn := fun _ => fun
  | [d1, d2, d3, d4] => { results := [.lit (.bool false)], args := [d1, d2, d3, d4] }
  | _ => none }
def AgeRunsWrongFalsely : Prop := ageRunsRow.holds Try.pinned (OpenSpec.ofChange ageRunsWrong)

/-- 'plenumlaw9.AgeEnds': WHATEVER THE INPUT: true; the input reads as it did. -/
def ageEndsSpec : ChangeSpec := { name := "ageEnds", fn := fun _ => fun
  | [d1, d2] => { results := [.lit (.bool true)], args := [d1, d2] }
  | _ => none }
def ageEndsRow : OpenClaim := { program := "ytbogphhbjmapgaa", sum := "de9634ddb2ea8b495f295a3a51f32457ce6db03bcfc0f09b3e9d8f7affd1c585", func := "plenum/plenumlaw9.AgeEnds", spec := "ageEnds", inPlace := ["slices.overlaps[plenum/api.Lsa]"], unfollowed := true, recurses := true, apart := false }
def AgeEndsSaid : Prop := ageEndsRow.holds Try.pinned (OpenSpec.ofChange ageEndsSpec)

/-- ITS FALSE NEIGHBOUR: 'it returns false'. Refute it at one input. -/
def ageEndsWrong : ChangeSpec := { name := "ageEnds", fn := fun _ => fun
  | [d1, d2] => { results := [.lit (.bool false)], args := [d1, d2] }
  | _ => none }
def AgeEndsWrongFalsely : Prop := ageEndsRow.holds Try.pinned (OpenSpec.ofChange ageEndsWrong)

/-- 'plenumlaw9.AgeKills': WHATEVER THE INPUT: true; the input reads as it did. -/
def ageKillsSpec : ChangeSpec := { name := "ageKills", fn := fun _ => fun
  | [d1, d2] => { results := [.lit (.bool true)], args := [d1, d2] }
  | _ => none }
def ageKillsRow : OpenClaim := { program := "ytbogphhbjmapgaa", sum := "de9634ddb2ea8b495f295a3a51f32457ce6db03bcfc0f09b3e9d8f7affd1c585", func := "plenum/plenumlaw9.AgeKills", spec := "ageKills", inPlace := ["slices.overlaps[plenum/api.Lsa]"], unfollowed := true, recurses := true, apart := false }
def AgeKillsSaid : Prop := ageKillsRow.holds Try.pinned (OpenSpec.ofChange ageKillsSpec)

/-- ITS FALSE NEIGHBOUR: 'it returns false'. Refute it at one input. -/
def ageKillsWrong : ChangeSpec := { name := "ageKills", fn := fun _ => fun
  | [d1, d2] => { results := [.lit (.bool false)], args := [d1, d2] }
  | _ => none }
def AgeKillsWrongFalsely : Prop := ageKillsRow.holds Try.pinned (OpenSpec.ofChange ageKillsWrong)

/-- 'plenumlaw9.AgeNil': WHATEVER THE INPUT: true; the input reads as it did. -/
def ageNilSpec : ChangeSpec := { name := "ageNil", fn := fun _ => fun
  | [d1, d2] => { results := [.lit (.bool true)], args := [d1, d2] }
  | _ => none }
def ageNilRow : OpenClaim := { program := "ytbogphhbjmapgaa", sum := "de9634ddb2ea8b495f295a3a51f32457ce6db03bcfc0f09b3e9d8f7affd1c585", func := "plenum/plenumlaw9.AgeNil", spec := "ageNil", inPlace := ["slices.overlaps[plenum/api.Lsa]"], unfollowed := true, recurses := true, apart := false }
def AgeNilSaid : Prop := ageNilRow.holds Try.pinned (OpenSpec.ofChange ageNilSpec)

/-- ITS FALSE NEIGHBOUR: 'it returns false'. Refute it at one input. -/
def ageNilWrong : ChangeSpec := { name := "ageNil", fn := fun _ => fun
  | [d1, d2] => { results := [.lit (.bool false)], args := [d1, d2] }
  | _ => none }
def AgeNilWrongFalsely : Prop := ageNilRow.holds Try.pinned (OpenSpec.ofChange ageNilWrong)

/- THE SECOND FORM. 'bulk': how many values and letters a reading holds, each counted each time it is reached (what is shared counts as often as it is met; a slice's spare places count too). A statement '..UptoSaid' is the law's where the arguments, and the package variables that the reading takes, are together of bulk at most 1048576: NARROWER than '..Said'. Prove '..Said' where nothing that the law and all that it calls make is longer than what came in: it says more and counts as full. Else prove '..UptoSaid'. A law counts once. -/
mutual
def uptoBulk {H : Type} : DataW H → Nat
  | .lit (.string bytes) => bytes.length + 1
  | .lit _ => 1
  | .nil => 1
  | .ptr d => uptoBulk d + 1
  | .slice elems spare => uptoBulkAll elems + uptoBulkAll spare + 1
  | .agg parts => uptoBulkAll parts + 1
  | .iface _ d => uptoBulk d + 1
  | .map entries => uptoBulkEntries entries + 1
  | .held _ => 1
def uptoBulkAll {H : Type} : List (DataW H) → Nat
  | [] => 0
  | d :: r => uptoBulk d + uptoBulkAll r
def uptoBulkEntries {H : Type} : List (Lit × DataW H) → Nat
  | [] => 0
  | x :: r => uptoBulkEntry x + uptoBulkEntries r
def uptoBulkEntry {H : Type} : Lit × DataW H → Nat
  | (.string bytes, d) => bytes.length + uptoBulk d + 1
  | (_, d) => uptoBulk d + 1
 end
def uptoSmall : (H : Type) → List (DataW H) → Bool := fun _ ds => decide (uptoBulkAll ds ≤ 1048576)
def OpenSpec.upto (s : _root_.Go.ChangeSpec) : _root_.Go.OpenSpec := { _root_.Go.OpenSpec.ofChange s with cond := some uptoSmall }

/-- 'plenumlaw9.AgeRuns', WHERE WHAT IT READS IS OF BULK AT MOST 1048576: true; the input reads as it did. -/
def ageRunsUptoRow : OpenClaim := { program := "ytbogphhbjmapgaa", sum := "de9634ddb2ea8b495f295a3a51f32457ce6db03bcfc0f09b3e9d8f7affd1c585", func := "plenum/plenumlaw9.AgeRuns", spec := "ageRuns", inPlace := ["slices.overlaps[plenum/api.Lsa]"], unfollowed := true, recurses := true, apart := false, narrowed := true }
def AgeRunsUptoSaid : Prop := ageRunsUptoRow.holds Try.pinned (OpenSpec.upto ageRunsSpec)

/-- 'plenumlaw9.AgeEnds', WHERE WHAT IT READS IS OF BULK AT MOST 1048576: true; the input reads as it did. -/
def ageEndsUptoRow : OpenClaim := { program := "ytbogphhbjmapgaa", sum := "de9634ddb2ea8b495f295a3a51f32457ce6db03bcfc0f09b3e9d8f7affd1c585", func := "plenum/plenumlaw9.AgeEnds", spec := "ageEnds", inPlace := ["slices.overlaps[plenum/api.Lsa]"], unfollowed := true, recurses := true, apart := false, narrowed := true }
def AgeEndsUptoSaid : Prop := ageEndsUptoRow.holds Try.pinned (OpenSpec.upto ageEndsSpec)

/-- 'plenumlaw9.AgeKills', WHERE WHAT IT READS IS OF BULK AT MOST 1048576: true; the input reads as it did. -/
def ageKillsUptoRow : OpenClaim := { program := "ytbogphhbjmapgaa", sum := "de9634ddb2ea8b495f295a3a51f32457ce6db03bcfc0f09b3e9d8f7affd1c585", func := "plenum/plenumlaw9.AgeKills", spec := "ageKills", inPlace := ["slices.overlaps[plenum/api.Lsa]"], unfollowed := true, recurses := true, apart := false, narrowed := true }
def AgeKillsUptoSaid : Prop := ageKillsUptoRow.holds Try.pinned (OpenSpec.upto ageKillsSpec)

/-- 'plenumlaw9.AgeNil', WHERE WHAT IT READS IS OF BULK AT MOST 1048576: true; the input reads as it did. -/
def ageNilUptoRow : OpenClaim := { program := "ytbogphhbjmapgaa", sum := "de9634ddb2ea8b495f295a3a51f32457ce6db03bcfc0f09b3e9d8f7affd1c585", func := "plenum/plenumlaw9.AgeNil", spec := "ageNil", inPlace := ["slices.overlaps[plenum/api.Lsa]"], unfollowed := true, recurses := true, apart := false, narrowed := true }
def AgeNilUptoSaid : Prop := ageNilUptoRow.holds Try.pinned (OpenSpec.upto ageNilSpec)

end Rows
end Go.Proofs.Ytbogphhbjmapgaa
