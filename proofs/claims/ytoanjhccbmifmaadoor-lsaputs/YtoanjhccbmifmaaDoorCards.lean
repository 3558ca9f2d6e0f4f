/-
  DERIVED. GIVEN WITH THE SEED: THE CARDS: each row of YtoanjhccbmifmaaDoorRows.lean that lists a variable, with what it lists TIED to the program's text (the seventh form; the later family's looks); each row that meets fmt, with fmt's text TOLD by the authors' own Lean function (tested against real Go, not proved from fmt's source: count such statements apart). THE CARD IS WHAT COUNTS. Prove the row's statement (the work); the ties are given (YtoanjhccbmifmaaDoorTie.lean); close each card by the builder's one call (the guide's Derived/Test/ToyasCard.lean, 'card_holds'). Laid BY PROGRAM, IN A SANDBOX (cutbox-door.mjs). By AI agents, Wed Nov 11 2026. No macro, syntax, notation, axiom, sorry.
-/
import Derived.Test.YtoanjhccbmifmaaDoorRows
import GoSem.ClaimSeven
namespace Go.Proofs.YtoanjhccbmifmaaDoor
namespace Rows

/-- THE TIED CARD OF 'plenumlaw5.LsaPuts'. -/
def lsaPutsCard : Claim7 := { stood := { row := lsaPutsRow, standIns := [], harness := (true, "70e898fd0f108a6428b19a33a8f03c852631a4b126a9818a285c4805b2c955bb"), looks := true }, kinds := [], alts := [], laidByText := true, laidKinds := [.sentinel, .sentinel, .sentinel, .sentinel, .sentinel], laidTests := true, laidLooks := .later }
def LsaPutsCardSaid : Prop := Claim7.holds Tryd.pinned (.plain (OpenSpec.ofChange lsaPutsSpec)) lsaPutsCard

/-- THE TIED CARD OF 'plenumlaw5.LsaGets'. -/
def lsaGetsCard : Claim7 := { stood := { row := lsaGetsRow, standIns := [], harness := (true, "70e898fd0f108a6428b19a33a8f03c852631a4b126a9818a285c4805b2c955bb"), looks := true }, kinds := [], alts := [], laidByText := true, laidKinds := [.sentinel, .sentinel, .sentinel, .sentinel, .sentinel], laidTests := true, laidLooks := .later }
def LsaGetsCardSaid : Prop := Claim7.holds Tryd.pinned (.plain (OpenSpec.ofChange lsaGetsSpec)) lsaGetsCard

/-- THE TIED CARD OF 'plenumlaw5.LsaBack'. -/
def lsaBackCard : Claim7 := { stood := { row := lsaBackRow, standIns := [], harness := (true, "70e898fd0f108a6428b19a33a8f03c852631a4b126a9818a285c4805b2c955bb"), looks := true }, kinds := [], alts := [], laidByText := true, laidKinds := [.sentinel, .sentinel, .sentinel, .sentinel, .sentinel], laidTests := true, laidLooks := .later }
def LsaBackCardSaid : Prop := Claim7.holds Tryd.pinned (.plain (OpenSpec.ofChange lsaBackSpec)) lsaBackCard

/-- THE TIED CARD OF 'plenumlaw5.LsaSeals'. -/
def lsaSealsCard : Claim7 := { stood := { row := lsaSealsRow, standIns := [], harness := (true, "70e898fd0f108a6428b19a33a8f03c852631a4b126a9818a285c4805b2c955bb"), looks := true }, kinds := [], alts := [], laidByText := true, laidKinds := [.sentinel, .sentinel, .sentinel, .sentinel, .sentinel], laidTests := true, laidLooks := .later }
def LsaSealsCardSaid : Prop := Claim7.holds Tryd.pinned (.plain (OpenSpec.ofChange lsaSealsSpec)) lsaSealsCard

/-- THE TIED CARD OF 'plenumlaw5.LsaTurned'. -/
def lsaTurnedCard : Claim7 := { stood := { row := lsaTurnedRow, standIns := [], harness := (true, "70e898fd0f108a6428b19a33a8f03c852631a4b126a9818a285c4805b2c955bb"), looks := true }, kinds := [], alts := [], laidByText := true, laidKinds := [.sentinel, .sentinel, .sentinel, .sentinel, .sentinel], laidTests := true, laidLooks := .later }
def LsaTurnedCardSaid : Prop := Claim7.holds Tryd.pinned (.plain (OpenSpec.ofChange lsaTurnedSpec)) lsaTurnedCard

/-- THE TIED CARD OF 'plenumlaw5.LsaHeads'. -/
def lsaHeadsCard : Claim7 := { stood := { row := lsaHeadsRow, standIns := [], harness := (true, "70e898fd0f108a6428b19a33a8f03c852631a4b126a9818a285c4805b2c955bb"), looks := true }, kinds := [], alts := [], laidByText := true, laidKinds := [.sentinel, .sentinel, .sentinel, .sentinel, .sentinel], laidTests := true, laidLooks := .later }
def LsaHeadsCardSaid : Prop := Claim7.holds Tryd.pinned (.plain (OpenSpec.ofChange lsaHeadsSpec)) lsaHeadsCard

/-- THE SECOND FORM's CARD OF 'plenumlaw5.LsaPuts'. -/
def lsaPutsUptoCard : Claim7 := { stood := { row := lsaPutsUptoRow, standIns := [], harness := (true, "70e898fd0f108a6428b19a33a8f03c852631a4b126a9818a285c4805b2c955bb"), looks := true }, kinds := [], alts := [], laidByText := true, laidKinds := [.sentinel, .sentinel, .sentinel, .sentinel, .sentinel], laidTests := true, laidLooks := .later }
def LsaPutsUptoCardSaid : Prop := Claim7.holds Tryd.pinned (.plain (OpenSpec.upto lsaPutsSpec)) lsaPutsUptoCard

/-- THE SECOND FORM's CARD OF 'plenumlaw5.LsaGets'. -/
def lsaGetsUptoCard : Claim7 := { stood := { row := lsaGetsUptoRow, standIns := [], harness := (true, "70e898fd0f108a6428b19a33a8f03c852631a4b126a9818a285c4805b2c955bb"), looks := true }, kinds := [], alts := [], laidByText := true, laidKinds := [.sentinel, .sentinel, .sentinel, .sentinel, .sentinel], laidTests := true, laidLooks := .later }
def LsaGetsUptoCardSaid : Prop := Claim7.holds Tryd.pinned (.plain (OpenSpec.upto lsaGetsSpec)) lsaGetsUptoCard

/-- THE SECOND FORM's CARD OF 'plenumlaw5.LsaBack'. -/
def lsaBackUptoCard : Claim7 := { stood := { row := lsaBackUptoRow, standIns := [], harness := (true, "70e898fd0f108a6428b19a33a8f03c852631a4b126a9818a285c4805b2c955bb"), looks := true }, kinds := [], alts := [], laidByText := true, laidKinds := [.sentinel, .sentinel, .sentinel, .sentinel, .sentinel], laidTests := true, laidLooks := .later }
def LsaBackUptoCardSaid : Prop := Claim7.holds Tryd.pinned (.plain (OpenSpec.upto lsaBackSpec)) lsaBackUptoCard

/-- THE SECOND FORM's CARD OF 'plenumlaw5.LsaSeals'. -/
def lsaSealsUptoCard : Claim7 := { stood := { row := lsaSealsUptoRow, standIns := [], harness := (true, "70e898fd0f108a6428b19a33a8f03c852631a4b126a9818a285c4805b2c955bb"), looks := true }, kinds := [], alts := [], laidByText := true, laidKinds := [.sentinel, .sentinel, .sentinel, .sentinel, .sentinel], laidTests := true, laidLooks := .later }
def LsaSealsUptoCardSaid : Prop := Claim7.holds Tryd.pinned (.plain (OpenSpec.upto lsaSealsSpec)) lsaSealsUptoCard

/-- THE SECOND FORM's CARD OF 'plenumlaw5.LsaTurned'. -/
def lsaTurnedUptoCard : Claim7 := { stood := { row := lsaTurnedUptoRow, standIns := [], harness := (true, "70e898fd0f108a6428b19a33a8f03c852631a4b126a9818a285c4805b2c955bb"), looks := true }, kinds := [], alts := [], laidByText := true, laidKinds := [.sentinel, .sentinel, .sentinel, .sentinel, .sentinel], laidTests := true, laidLooks := .later }
def LsaTurnedUptoCardSaid : Prop := Claim7.holds Tryd.pinned (.plain (OpenSpec.upto lsaTurnedSpec)) lsaTurnedUptoCard

/-- THE SECOND FORM's CARD OF 'plenumlaw5.LsaHeads'. -/
def lsaHeadsUptoCard : Claim7 := { stood := { row := lsaHeadsUptoRow, standIns := [], harness := (true, "70e898fd0f108a6428b19a33a8f03c852631a4b126a9818a285c4805b2c955bb"), looks := true }, kinds := [], alts := [], laidByText := true, laidKinds := [.sentinel, .sentinel, .sentinel, .sentinel, .sentinel], laidTests := true, laidLooks := .later }
def LsaHeadsUptoCardSaid : Prop := Claim7.holds Tryd.pinned (.plain (OpenSpec.upto lsaHeadsSpec)) lsaHeadsUptoCard
end Rows
end Go.Proofs.YtoanjhccbmifmaaDoor
