/-
  DERIVED. GIVEN WITH THE SEED: THE CARDS: each row of YtlodoinmippebaaDoorRows.lean that lists a variable, with what it lists TIED to the program's text (the seventh form; the later family's looks); each row that meets fmt, with fmt's text TOLD by the authors' own Lean function (tested against real Go, not proved from fmt's source: count such statements apart). THE CARD IS WHAT COUNTS. Prove the row's statement (the work); the ties are given (YtlodoinmippebaaDoorTie.lean); close each card by the builder's one call (the guide's Derived/Test/ToyasCard.lean, 'card_holds'). Laid BY PROGRAM, IN A SANDBOX (cutbox-door.mjs). By AI agents, Wed Nov 11 2026. No macro, syntax, notation, axiom, sorry.
-/
import Derived.Test.YtlodoinmippebaaDoorRows
import GoSem.ClaimSeven
namespace Go.Proofs.YtlodoinmippebaaDoor
namespace Rows

/-- THE TIED CARD OF 'warrantlaw12.PackPrograms'. -/
def packProgramsCard : Claim7 := { stood := { row := packProgramsRow, standIns := [], harness := (true, "6ce7e80bce96684092ed2e8c7db83c01e5661425b802e5e5341a2c0a398580b8"), looks := true }, kinds := [], alts := [], laidByText := true, laidKinds := [.data, .data, .data], laidTests := true, laidLooks := .later }
def PackProgramsCardSaid : Prop := Claim7.holds Tryd.pinned (.plain (OpenSpec.ofChange packProgramsSpec)) packProgramsCard

/-- THE TIED CARD OF 'warrantlaw12.PackOfs'. -/
def packOfsCard : Claim7 := { stood := { row := packOfsRow, standIns := [], harness := (true, "6ce7e80bce96684092ed2e8c7db83c01e5661425b802e5e5341a2c0a398580b8"), looks := true }, kinds := [], alts := [], laidByText := true, laidKinds := [.data, .data, .data], laidTests := true, laidLooks := .later }
def PackOfsCardSaid : Prop := Claim7.holds Tryd.pinned (.plain (OpenSpec.ofChange packOfsSpec)) packOfsCard

/-- THE TIED CARD OF 'warrantlaw12.PackFaithful'. -/
def packFaithfulCard : Claim7 := { stood := { row := packFaithfulRow, standIns := [], harness := (true, "6ce7e80bce96684092ed2e8c7db83c01e5661425b802e5e5341a2c0a398580b8"), looks := true }, kinds := [], alts := [], laidByText := true, laidKinds := [.data, .data, .data], laidTests := true, laidLooks := .later }
def PackFaithfulCardSaid : Prop := Claim7.holds Tryd.pinned (.plain (OpenSpec.ofChange packFaithfulSpec)) packFaithfulCard

/-- THE TIED CARD OF 'warrantlaw12.PackAgain'. -/
def packAgainCard : Claim7 := { stood := { row := packAgainRow, standIns := [], harness := (true, "6ce7e80bce96684092ed2e8c7db83c01e5661425b802e5e5341a2c0a398580b8"), looks := true }, kinds := [], alts := [], laidByText := true, laidKinds := [.data, .data, .data], laidTests := true, laidLooks := .later }
def PackAgainCardSaid : Prop := Claim7.holds Tryd.pinned (.plain (OpenSpec.ofChange packAgainSpec)) packAgainCard

/-- THE TIED CARD OF 'warrantlaw12.PackRefuses'. -/
def packRefusesCard : Claim7 := { stood := { row := packRefusesRow, standIns := [], harness := (true, "6ce7e80bce96684092ed2e8c7db83c01e5661425b802e5e5341a2c0a398580b8"), looks := true }, kinds := [], alts := [], laidByText := true, laidKinds := [.data, .data, .data], laidTests := true, laidLooks := .later }
def PackRefusesCardSaid : Prop := Claim7.holds Tryd.pinned (.plain (OpenSpec.ofChange packRefusesSpec)) packRefusesCard

/-- THE SECOND FORM's CARD OF 'warrantlaw12.PackPrograms'. -/
def packProgramsUptoCard : Claim7 := { stood := { row := packProgramsUptoRow, standIns := [], harness := (true, "6ce7e80bce96684092ed2e8c7db83c01e5661425b802e5e5341a2c0a398580b8"), looks := true }, kinds := [], alts := [], laidByText := true, laidKinds := [.data, .data, .data], laidTests := true, laidLooks := .later }
def PackProgramsUptoCardSaid : Prop := Claim7.holds Tryd.pinned (.plain (OpenSpec.upto packProgramsSpec)) packProgramsUptoCard

/-- THE SECOND FORM's CARD OF 'warrantlaw12.PackOfs'. -/
def packOfsUptoCard : Claim7 := { stood := { row := packOfsUptoRow, standIns := [], harness := (true, "6ce7e80bce96684092ed2e8c7db83c01e5661425b802e5e5341a2c0a398580b8"), looks := true }, kinds := [], alts := [], laidByText := true, laidKinds := [.data, .data, .data], laidTests := true, laidLooks := .later }
def PackOfsUptoCardSaid : Prop := Claim7.holds Tryd.pinned (.plain (OpenSpec.upto packOfsSpec)) packOfsUptoCard

/-- THE SECOND FORM's CARD OF 'warrantlaw12.PackFaithful'. -/
def packFaithfulUptoCard : Claim7 := { stood := { row := packFaithfulUptoRow, standIns := [], harness := (true, "6ce7e80bce96684092ed2e8c7db83c01e5661425b802e5e5341a2c0a398580b8"), looks := true }, kinds := [], alts := [], laidByText := true, laidKinds := [.data, .data, .data], laidTests := true, laidLooks := .later }
def PackFaithfulUptoCardSaid : Prop := Claim7.holds Tryd.pinned (.plain (OpenSpec.upto packFaithfulSpec)) packFaithfulUptoCard

/-- THE SECOND FORM's CARD OF 'warrantlaw12.PackAgain'. -/
def packAgainUptoCard : Claim7 := { stood := { row := packAgainUptoRow, standIns := [], harness := (true, "6ce7e80bce96684092ed2e8c7db83c01e5661425b802e5e5341a2c0a398580b8"), looks := true }, kinds := [], alts := [], laidByText := true, laidKinds := [.data, .data, .data], laidTests := true, laidLooks := .later }
def PackAgainUptoCardSaid : Prop := Claim7.holds Tryd.pinned (.plain (OpenSpec.upto packAgainSpec)) packAgainUptoCard

/-- THE SECOND FORM's CARD OF 'warrantlaw12.PackRefuses'. -/
def packRefusesUptoCard : Claim7 := { stood := { row := packRefusesUptoRow, standIns := [], harness := (true, "6ce7e80bce96684092ed2e8c7db83c01e5661425b802e5e5341a2c0a398580b8"), looks := true }, kinds := [], alts := [], laidByText := true, laidKinds := [.data, .data, .data], laidTests := true, laidLooks := .later }
def PackRefusesUptoCardSaid : Prop := Claim7.holds Tryd.pinned (.plain (OpenSpec.upto packRefusesSpec)) packRefusesUptoCard
end Rows
end Go.Proofs.YtlodoinmippebaaDoor
