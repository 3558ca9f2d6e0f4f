/-
  NARROWER THAN 'FOR EVERY INPUT', by the rows' own cells (each row's printed sentence says how): LsaPuts: laid · LsaGets: laid · LsaBack: laid · LsaSeals: laid · LsaTurned: laid · LsaHeads: laid.
  DERIVED. THE GIVEN ROWS OF THIS SEAT. 6 by the template 'for every input the law returns true; each argument reads behind the call as it read before'; 0 by the template 'total and deterministic' (their statements: YtoanjhccbmifmaaDoorTotals.lean).
  GIVEN WITH THE SEED: the statements are not yours to turn. If you find one false, say at which input.
  Laid BY PROGRAM, IN A SANDBOX (cutbox-rows.mjs): the forced cells as the released guide's own fill.sh prints them over the translation 3a4139fbe74485b4… (all of the seat's roots in one cut). By AI agents, Wed Nov 11 2026. No macro, syntax, notation, axiom, sorry.
-/
import Derived.Test.YtoanjhccbmifmaaDoorChecked
import GoSem.Claim
import GoSem.ClaimJoined
import GoSem.ClaimMapViews
import Derived.JoinedTies
import Derived.KernelRfl
namespace Go.Proofs.YtoanjhccbmifmaaDoor
/- THE CELL 'sum', in the pinned program and in every row, IS THE sha256 OF THE DUMP (.gsa) THAT YtoanjhccbmifmaaDoorProg.lean LOADS. Nothing in Lean hashes anything: it is a label: what it is worth is what the hold of that sum in a sandbox is worth. -/
noncomputable def Tryd.pinned : Pinned := { name := "ytoanjhccbmifmaadoor", sum := "3a4139fbe74485b474c1d795fb1ad6d288e94ad54a31942ed957e762bb40c3fd", checked := Tryd.checked }
namespace Rows
def none {H : Type} : Left H := { results := [], args := [] }

/- WHAT THE LISTED PACKAGE-LEVEL VARIABLES READ AS WHEN THE CALL BEGINS. Each datum BY PROGRAM (the guide's laid-datum.mjs) off the statement by which the dump's own 'gosem.cut.vars' lays the variable. In a bare row this is a premise. The card (YtoanjhccbmifmaaDoorCards.lean) ties it to the program's text. -/
def laid_plenum_lsa_errArg {H : Type} : DataW H := .iface "*errors.errorString" (.ptr (.agg [.lit (.string [115, 111, 109, 101, 116, 104, 105, 110, 103, 32, 116, 104, 97, 116, 32, 109, 97, 121, 32, 110, 111, 116, 32, 98, 101])]))
def laid_plenum_lsa_errShort {H : Type} : DataW H := .iface "*errors.errorString" (.ptr (.agg [.lit (.string [98, 121, 116, 101, 115, 32, 116, 104, 97, 116, 32, 101, 110, 100, 32, 116, 111, 111, 32, 115, 111, 111, 110])]))
def laid_plenum_lsa_errForm {H : Type} : DataW H := .iface "*errors.errorString" (.ptr (.agg [.lit (.string [98, 121, 116, 101, 115, 32, 116, 104, 97, 116, 32, 115, 97, 121, 32, 110, 111, 116, 104, 105, 110, 103])]))
def laid_plenum_lsa_errSum {H : Type} : DataW H := .iface "*errors.errorString" (.ptr (.agg [.lit (.string [97, 32, 99, 104, 101, 99, 107, 32, 115, 117, 109, 32, 116, 104, 97, 116, 32, 105, 115, 32, 110, 111, 116, 32, 114, 105, 103, 104, 116])]))
def laid_plenum_lsa_errKind {H : Type} : DataW H := .iface "*errors.errorString" (.ptr (.agg [.lit (.string [97, 32, 107, 105, 110, 100, 32, 116, 104, 97, 116, 32, 105, 115, 32, 110, 111, 116, 32, 107, 110, 111, 119, 110])]))

/-- 'plenumlaw5.LsaPuts': WHATEVER THE INPUT: true; the input reads as it did. -/
def lsaPutsSpec : ChangeSpec := { name := "lsaPuts", fn := fun _ => fun
  | [d1, d2] => { results := [.lit (.bool true)], args := [d1, d2] }
  | _ => none }
def lsaPutsRow : OpenClaim := { program := "ytoanjhccbmifmaadoor", sum := "3a4139fbe74485b474c1d795fb1ad6d288e94ad54a31942ed957e762bb40c3fd", func := "plenum/plenumlaw5.LsaPuts", spec := "lsaPuts", inPlace := ["internal/reflectlite.TypeOf"], unfollowed := true, recurses := true, named := ["plenum/lsa.errArg", "plenum/lsa.errShort", "plenum/lsa.errForm", "plenum/lsa.errSum", "plenum/lsa.errKind"], apart := false, laid := [("plenum/lsa.errArg", laid_plenum_lsa_errArg), ("plenum/lsa.errShort", laid_plenum_lsa_errShort), ("plenum/lsa.errForm", laid_plenum_lsa_errForm), ("plenum/lsa.errSum", laid_plenum_lsa_errSum), ("plenum/lsa.errKind", laid_plenum_lsa_errKind)] }
def LsaPutsSaid : Prop := lsaPutsRow.holds Tryd.pinned (OpenSpec.ofChange lsaPutsSpec)

/-- ITS FALSE NEIGHBOUR: 'it returns false'. Refute it at one input. -/
def lsaPutsWrong : ChangeSpec := { name := "lsaPuts", fn := fun _ => fun
  | [d1, d2] => { results := [.lit (.bool false)], args := [d1, d2] }
  | _ => none }
def LsaPutsWrongFalsely : Prop := lsaPutsRow.holds Tryd.pinned (OpenSpec.ofChange lsaPutsWrong)

/-- 'plenumlaw5.LsaGets': WHATEVER THE INPUT: true; the input reads as it did. -/
def lsaGetsSpec : ChangeSpec := { name := "lsaGets", fn := fun _ => fun
  | [d1, d2, d3] => { results := [.lit (.bool true)], args := [d1, d2, d3] }
  | _ => none }
def lsaGetsRow : OpenClaim := { program := "ytoanjhccbmifmaadoor", sum := "3a4139fbe74485b474c1d795fb1ad6d288e94ad54a31942ed957e762bb40c3fd", func := "plenum/plenumlaw5.LsaGets", spec := "lsaGets", inPlace := ["internal/reflectlite.TypeOf"], unfollowed := true, recurses := true, named := ["plenum/lsa.errArg", "plenum/lsa.errShort", "plenum/lsa.errForm", "plenum/lsa.errSum", "plenum/lsa.errKind"], apart := false, laid := [("plenum/lsa.errArg", laid_plenum_lsa_errArg), ("plenum/lsa.errShort", laid_plenum_lsa_errShort), ("plenum/lsa.errForm", laid_plenum_lsa_errForm), ("plenum/lsa.errSum", laid_plenum_lsa_errSum), ("plenum/lsa.errKind", laid_plenum_lsa_errKind)] }
def LsaGetsSaid : Prop := lsaGetsRow.holds Tryd.pinned (OpenSpec.ofChange lsaGetsSpec)

/-- ITS FALSE NEIGHBOUR: 'it returns false'. Refute it at one input. -/
def lsaGetsWrong : ChangeSpec := { name := "lsaGets", fn := fun _ => fun
  | [d1, d2, d3] => { results := [.lit (.bool false)], args := [d1, d2, d3] }
  | _ => none }
def LsaGetsWrongFalsely : Prop := lsaGetsRow.holds Tryd.pinned (OpenSpec.ofChange lsaGetsWrong)

/-- 'plenumlaw5.LsaBack': WHATEVER THE INPUT: true; the input reads as it did. -/
def lsaBackSpec : ChangeSpec := { name := "lsaBack", fn := fun _ => fun
  | [d] => { results := [.lit (.bool true)], args := [d] }
  | _ => none }
def lsaBackRow : OpenClaim := { program := "ytoanjhccbmifmaadoor", sum := "3a4139fbe74485b474c1d795fb1ad6d288e94ad54a31942ed957e762bb40c3fd", func := "plenum/plenumlaw5.LsaBack", spec := "lsaBack", inPlace := ["internal/reflectlite.TypeOf"], unfollowed := true, recurses := true, named := ["plenum/lsa.errArg", "plenum/lsa.errShort", "plenum/lsa.errForm", "plenum/lsa.errSum", "plenum/lsa.errKind"], apart := false, laid := [("plenum/lsa.errArg", laid_plenum_lsa_errArg), ("plenum/lsa.errShort", laid_plenum_lsa_errShort), ("plenum/lsa.errForm", laid_plenum_lsa_errForm), ("plenum/lsa.errSum", laid_plenum_lsa_errSum), ("plenum/lsa.errKind", laid_plenum_lsa_errKind)] }
def LsaBackSaid : Prop := lsaBackRow.holds Tryd.pinned (OpenSpec.ofChange lsaBackSpec)

/-- ITS FALSE NEIGHBOUR: 'it returns false'. Refute it at one input. -/
def lsaBackWrong : ChangeSpec := { name := "lsaBack", fn := fun _ => fun
  | [d] => { results := [.lit (.bool false)], args := [d] }
  | _ => none }
def LsaBackWrongFalsely : Prop := lsaBackRow.holds Tryd.pinned (OpenSpec.ofChange lsaBackWrong)

/-- 'plenumlaw5.LsaSeals': WHATEVER THE INPUT: true; the input reads as it did. -/
def lsaSealsSpec : ChangeSpec := { name := "lsaSeals", fn := fun _ => fun
  | [d1, d2, d3, d4] => { results := [.lit (.bool true)], args := [d1, d2, d3, d4] }
  | _ => none }
def lsaSealsRow : OpenClaim := { program := "ytoanjhccbmifmaadoor", sum := "3a4139fbe74485b474c1d795fb1ad6d288e94ad54a31942ed957e762bb40c3fd", func := "plenum/plenumlaw5.LsaSeals", spec := "lsaSeals", inPlace := ["internal/reflectlite.TypeOf"], unfollowed := true, recurses := true, named := ["plenum/lsa.errArg", "plenum/lsa.errShort", "plenum/lsa.errForm", "plenum/lsa.errSum", "plenum/lsa.errKind"], apart := false, laid := [("plenum/lsa.errArg", laid_plenum_lsa_errArg), ("plenum/lsa.errShort", laid_plenum_lsa_errShort), ("plenum/lsa.errForm", laid_plenum_lsa_errForm), ("plenum/lsa.errSum", laid_plenum_lsa_errSum), ("plenum/lsa.errKind", laid_plenum_lsa_errKind)] }
def LsaSealsSaid : Prop := lsaSealsRow.holds Tryd.pinned (OpenSpec.ofChange lsaSealsSpec)

/-- ITS FALSE NEIGHBOUR: 'it returns false'. Refute it at one input. -/
def lsaSealsWrong : ChangeSpec := { name := "lsaSeals", fn := fun _ => fun
  | [d1, d2, d3, d4] => { results := [.lit (.bool false)], args := [d1, d2, d3, d4] }
  | _ => none }
def LsaSealsWrongFalsely : Prop := lsaSealsRow.holds Tryd.pinned (OpenSpec.ofChange lsaSealsWrong)

/-- 'plenumlaw5.LsaTurned': WHATEVER THE INPUT: true; the input reads as it did. -/
def lsaTurnedSpec : ChangeSpec := { name := "lsaTurned", fn := fun _ => fun
  | [d1, d2, d3] => { results := [.lit (.bool true)], args := [d1, d2, d3] }
  | _ => none }
def lsaTurnedRow : OpenClaim := { program := "ytoanjhccbmifmaadoor", sum := "3a4139fbe74485b474c1d795fb1ad6d288e94ad54a31942ed957e762bb40c3fd", func := "plenum/plenumlaw5.LsaTurned", spec := "lsaTurned", inPlace := ["internal/reflectlite.TypeOf"], unfollowed := true, recurses := true, named := ["plenum/lsa.errArg", "plenum/lsa.errShort", "plenum/lsa.errForm", "plenum/lsa.errSum", "plenum/lsa.errKind"], apart := false, laid := [("plenum/lsa.errArg", laid_plenum_lsa_errArg), ("plenum/lsa.errShort", laid_plenum_lsa_errShort), ("plenum/lsa.errForm", laid_plenum_lsa_errForm), ("plenum/lsa.errSum", laid_plenum_lsa_errSum), ("plenum/lsa.errKind", laid_plenum_lsa_errKind)] }
def LsaTurnedSaid : Prop := lsaTurnedRow.holds Tryd.pinned (OpenSpec.ofChange lsaTurnedSpec)

/-- ITS FALSE NEIGHBOUR: 'it returns false'. Refute it at one input. -/
def lsaTurnedWrong : ChangeSpec := { name := "lsaTurned", fn := fun _ => fun
  | [d1, d2, d3] => { results := [.lit (.bool false)], args := [d1, d2, d3] }
  | _ => none }
def LsaTurnedWrongFalsely : Prop := lsaTurnedRow.holds Tryd.pinned (OpenSpec.ofChange lsaTurnedWrong)

/-- 'plenumlaw5.LsaHeads': WHATEVER THE INPUT: true; the input reads as it did. -/
def lsaHeadsSpec : ChangeSpec := { name := "lsaHeads", fn := fun _ => fun
  | [d1, d2] => { results := [.lit (.bool true)], args := [d1, d2] }
  | _ => none }
def lsaHeadsRow : OpenClaim := { program := "ytoanjhccbmifmaadoor", sum := "3a4139fbe74485b474c1d795fb1ad6d288e94ad54a31942ed957e762bb40c3fd", func := "plenum/plenumlaw5.LsaHeads", spec := "lsaHeads", inPlace := ["internal/reflectlite.TypeOf"], unfollowed := true, recurses := true, named := ["plenum/lsa.errArg", "plenum/lsa.errShort", "plenum/lsa.errForm", "plenum/lsa.errSum", "plenum/lsa.errKind"], apart := false, laid := [("plenum/lsa.errArg", laid_plenum_lsa_errArg), ("plenum/lsa.errShort", laid_plenum_lsa_errShort), ("plenum/lsa.errForm", laid_plenum_lsa_errForm), ("plenum/lsa.errSum", laid_plenum_lsa_errSum), ("plenum/lsa.errKind", laid_plenum_lsa_errKind)] }
def LsaHeadsSaid : Prop := lsaHeadsRow.holds Tryd.pinned (OpenSpec.ofChange lsaHeadsSpec)

/-- ITS FALSE NEIGHBOUR: 'it returns false'. Refute it at one input. -/
def lsaHeadsWrong : ChangeSpec := { name := "lsaHeads", fn := fun _ => fun
  | [d1, d2] => { results := [.lit (.bool false)], args := [d1, d2] }
  | _ => none }
def LsaHeadsWrongFalsely : Prop := lsaHeadsRow.holds Tryd.pinned (OpenSpec.ofChange lsaHeadsWrong)

/- THE SECOND FORM. 'bulk': how many values and letters a reading holds, each counted each time it is reached (what is shared counts as often as it is met; a slice's spare places count too). A statement '..UptoSaid' is the law's where the arguments, and the package variables that the reading takes, are together of bulk at most 1048576: NARROWER than '..Said'. Prove '..Said' where nothing that the law and all that it calls make is longer than what came in: it says more and counts as full. Else prove '..UptoSaid'. A law counts once. -/
mutual
def uptoBulk {H : Type} : DataW H → Nat
  | .lit (.string bytes) => bytes.length + 1
  | .lit _ => 1
  | .nil => 1
  | .ptr d => uptoBulk d + 1
  | .slice elems spare => uptoBulkAll elems + uptoBulkAll spare + 1
  | .agg parts => uptoBulkAll parts + 1
  | .iface _ d => uptoBulk d + 1
  | .map entries => uptoBulkEntries entries + 1
  | .held _ => 1
def uptoBulkAll {H : Type} : List (DataW H) → Nat
  | [] => 0
  | d :: r => uptoBulk d + uptoBulkAll r
def uptoBulkEntries {H : Type} : List (Lit × DataW H) → Nat
  | [] => 0
  | x :: r => uptoBulkEntry x + uptoBulkEntries r
def uptoBulkEntry {H : Type} : Lit × DataW H → Nat
  | (.string bytes, d) => bytes.length + uptoBulk d + 1
  | (_, d) => uptoBulk d + 1
 end
def uptoSmall : (H : Type) → List (DataW H) → Bool := fun _ ds => decide (uptoBulkAll ds ≤ 1048576)
def OpenSpec.upto (s : _root_.Go.ChangeSpec) : _root_.Go.OpenSpec := { _root_.Go.OpenSpec.ofChange s with cond := some uptoSmall }

/-- 'plenumlaw5.LsaPuts', WHERE WHAT IT READS IS OF BULK AT MOST 1048576: true; the input reads as it did. -/
def lsaPutsUptoRow : OpenClaim := { program := "ytoanjhccbmifmaadoor", sum := "3a4139fbe74485b474c1d795fb1ad6d288e94ad54a31942ed957e762bb40c3fd", func := "plenum/plenumlaw5.LsaPuts", spec := "lsaPuts", inPlace := ["internal/reflectlite.TypeOf"], unfollowed := true, recurses := true, named := ["plenum/lsa.errArg", "plenum/lsa.errShort", "plenum/lsa.errForm", "plenum/lsa.errSum", "plenum/lsa.errKind"], apart := false, laid := [("plenum/lsa.errArg", laid_plenum_lsa_errArg), ("plenum/lsa.errShort", laid_plenum_lsa_errShort), ("plenum/lsa.errForm", laid_plenum_lsa_errForm), ("plenum/lsa.errSum", laid_plenum_lsa_errSum), ("plenum/lsa.errKind", laid_plenum_lsa_errKind)], narrowed := true }
def LsaPutsUptoSaid : Prop := lsaPutsUptoRow.holds Tryd.pinned (OpenSpec.upto lsaPutsSpec)

/-- 'plenumlaw5.LsaGets', WHERE WHAT IT READS IS OF BULK AT MOST 1048576: true; the input reads as it did. -/
def lsaGetsUptoRow : OpenClaim := { program := "ytoanjhccbmifmaadoor", sum := "3a4139fbe74485b474c1d795fb1ad6d288e94ad54a31942ed957e762bb40c3fd", func := "plenum/plenumlaw5.LsaGets", spec := "lsaGets", inPlace := ["internal/reflectlite.TypeOf"], unfollowed := true, recurses := true, named := ["plenum/lsa.errArg", "plenum/lsa.errShort", "plenum/lsa.errForm", "plenum/lsa.errSum", "plenum/lsa.errKind"], apart := false, laid := [("plenum/lsa.errArg", laid_plenum_lsa_errArg), ("plenum/lsa.errShort", laid_plenum_lsa_errShort), ("plenum/lsa.errForm", laid_plenum_lsa_errForm), ("plenum/lsa.errSum", laid_plenum_lsa_errSum), ("plenum/lsa.errKind", laid_plenum_lsa_errKind)], narrowed := true }
def LsaGetsUptoSaid : Prop := lsaGetsUptoRow.holds Tryd.pinned (OpenSpec.upto lsaGetsSpec)

/-- 'plenumlaw5.LsaBack', WHERE WHAT IT READS IS OF BULK AT MOST 1048576: true; the input reads as it did. -/
def lsaBackUptoRow : OpenClaim := { program := "ytoanjhccbmifmaadoor", sum := "3a4139fbe74485b474c1d795fb1ad6d288e94ad54a31942ed957e762bb40c3fd", func := "plenum/plenumlaw5.LsaBack", spec := "lsaBack", inPlace := ["internal/reflectlite.TypeOf"], unfollowed := true, recurses := true, named := ["plenum/lsa.errArg", "plenum/lsa.errShort", "plenum/lsa.errForm", "plenum/lsa.errSum", "plenum/lsa.errKind"], apart := false, laid := [("plenum/lsa.errArg", laid_plenum_lsa_errArg), ("plenum/lsa.errShort", laid_plenum_lsa_errShort), ("plenum/lsa.errForm", laid_plenum_lsa_errForm), ("plenum/lsa.errSum", laid_plenum_lsa_errSum), ("plenum/lsa.errKind", laid_plenum_lsa_errKind)], narrowed := true }
def LsaBackUptoSaid : Prop := lsaBackUptoRow.holds Tryd.pinned (OpenSpec.upto lsaBackSpec)

/-- 'plenumlaw5.LsaSeals', WHERE WHAT IT READS IS OF BULK AT MOST 1048576: true; the input reads as it did. -/
def lsaSealsUptoRow : OpenClaim := { program := "ytoanjhccbmifmaadoor", sum := "3a4139fbe74485b474c1d795fb1ad6d288e94ad54a31942ed957e762bb40c3fd", func := "plenum/plenumlaw5.LsaSeals", spec := "lsaSeals", inPlace := ["internal/reflectlite.TypeOf"], unfollowed := true, recurses := true, named := ["plenum/lsa.errArg", "plenum/lsa.errShort", "plenum/lsa.errForm", "plenum/lsa.errSum", "plenum/lsa.errKind"], apart := false, laid := [("plenum/lsa.errArg", laid_plenum_lsa_errArg), ("plenum/lsa.errShort", laid_plenum_lsa_errShort), ("plenum/lsa.errForm", laid_plenum_lsa_errForm), ("plenum/lsa.errSum", laid_plenum_lsa_errSum), ("plenum/lsa.errKind", laid_plenum_lsa_errKind)], narrowed := true }
def LsaSealsUptoSaid : Prop := lsaSealsUptoRow.holds Tryd.pinned (OpenSpec.upto lsaSealsSpec)

/-- 'plenumlaw5.LsaTurned', WHERE WHAT IT READS IS OF BULK AT MOST 1048576: true; the input reads as it did. -/
def lsaTurnedUptoRow : OpenClaim := { program := "ytoanjhccbmifmaadoor", sum := "3a4139fbe74485b474c1d795fb1ad6d288e94ad54a31942ed957e762bb40c3fd", func := "plenum/plenumlaw5.LsaTurned", spec := "lsaTurned", inPlace := ["internal/reflectlite.TypeOf"], unfollowed := true, recurses := true, named := ["plenum/lsa.errArg", "plenum/lsa.errShort", "plenum/lsa.errForm", "plenum/lsa.errSum", "plenum/lsa.errKind"], apart := false, laid := [("plenum/lsa.errArg", laid_plenum_lsa_errArg), ("plenum/lsa.errShort", laid_plenum_lsa_errShort), ("plenum/lsa.errForm", laid_plenum_lsa_errForm), ("plenum/lsa.errSum", laid_plenum_lsa_errSum), ("plenum/lsa.errKind", laid_plenum_lsa_errKind)], narrowed := true }
def LsaTurnedUptoSaid : Prop := lsaTurnedUptoRow.holds Tryd.pinned (OpenSpec.upto lsaTurnedSpec)

/-- 'plenumlaw5.LsaHeads', WHERE WHAT IT READS IS OF BULK AT MOST 1048576: true; the input reads as it did. -/
def lsaHeadsUptoRow : OpenClaim := { program := "ytoanjhccbmifmaadoor", sum := "3a4139fbe74485b474c1d795fb1ad6d288e94ad54a31942ed957e762bb40c3fd", func := "plenum/plenumlaw5.LsaHeads", spec := "lsaHeads", inPlace := ["internal/reflectlite.TypeOf"], unfollowed := true, recurses := true, named := ["plenum/lsa.errArg", "plenum/lsa.errShort", "plenum/lsa.errForm", "plenum/lsa.errSum", "plenum/lsa.errKind"], apart := false, laid := [("plenum/lsa.errArg", laid_plenum_lsa_errArg), ("plenum/lsa.errShort", laid_plenum_lsa_errShort), ("plenum/lsa.errForm", laid_plenum_lsa_errForm), ("plenum/lsa.errSum", laid_plenum_lsa_errSum), ("plenum/lsa.errKind", laid_plenum_lsa_errKind)], narrowed := true }
def LsaHeadsUptoSaid : Prop := lsaHeadsUptoRow.holds Tryd.pinned (OpenSpec.upto lsaHeadsSpec)

end Rows
end Go.Proofs.YtoanjhccbmifmaaDoor
