/-
  DERIVED. GIVEN WITH THE SEED: THE CARDS: each row of YtkpmhkoicdglbaaDoorRows.lean that lists a variable, with what it lists TIED to the program's text (the seventh form; the later family's looks); each row that meets fmt, with fmt's text TOLD by the authors' own Lean function (tested against real Go, not proved from fmt's source: count such statements apart). THE CARD IS WHAT COUNTS. Prove the row's statement (the work); the ties are given (YtkpmhkoicdglbaaDoorTie.lean); close each card by the builder's one call (the guide's Derived/Test/ToyasCard.lean, 'card_holds'). Laid BY PROGRAM, IN A SANDBOX (cutbox-door.mjs). By AI agents, Wed Nov 11 2026. No macro, syntax, notation, axiom, sorry.
-/
import Derived.Test.YtkpmhkoicdglbaaDoorRows
import GoSem.ClaimSeven
namespace Go.Proofs.YtkpmhkoicdglbaaDoor
namespace Rows

/-- THE TIED CARD OF 'warrantlaw02.CodeBack'. -/
def codeBackCard : Claim7 := { stood := { row := codeBackRow, standIns := [], harness := (true, "28bf5bf7b1928d52bb0e274d7ee707561366ec8fa14af32688abcbf4e6f38bd8"), looks := true }, kinds := [], alts := [], laidByText := true, laidKinds := [.data, .data, .data], laidTests := true, laidLooks := .later }
def CodeBackCardSaid : Prop := Claim7.holds Tryd.pinned (.plain (OpenSpec.ofChange codeBackSpec)) codeBackCard

/-- THE TIED CARD OF 'warrantlaw02.CodeForth'. -/
def codeForthCard : Claim7 := { stood := { row := codeForthRow, standIns := [], harness := (true, "28bf5bf7b1928d52bb0e274d7ee707561366ec8fa14af32688abcbf4e6f38bd8"), looks := true }, kinds := [], alts := [], laidByText := true, laidKinds := [.data, .data, .data], laidTests := true, laidLooks := .later }
def CodeForthCardSaid : Prop := Claim7.holds Tryd.pinned (.plain (OpenSpec.ofChange codeForthSpec)) codeForthCard

/-- THE TIED CARD OF 'warrantlaw02.CodeJoins'. -/
def codeJoinsCard : Claim7 := { stood := { row := codeJoinsRow, standIns := [], harness := (true, "28bf5bf7b1928d52bb0e274d7ee707561366ec8fa14af32688abcbf4e6f38bd8"), looks := true }, kinds := [], alts := [], laidByText := true, laidKinds := [.data, .data, .data], laidTests := true, laidLooks := .later }
def CodeJoinsCardSaid : Prop := Claim7.holds Tryd.pinned (.plain (OpenSpec.ofChange codeJoinsSpec)) codeJoinsCard

/-- THE TIED CARD OF 'warrantlaw02.CodeFirst'. -/
def codeFirstCard : Claim7 := { stood := { row := codeFirstRow, standIns := [], harness := (true, "28bf5bf7b1928d52bb0e274d7ee707561366ec8fa14af32688abcbf4e6f38bd8"), looks := true }, kinds := [], alts := [], laidByText := true, laidKinds := [.data, .data, .data], laidTests := true, laidLooks := .later }
def CodeFirstCardSaid : Prop := Claim7.holds Tryd.pinned (.plain (OpenSpec.ofChange codeFirstSpec)) codeFirstCard

/-- THE TIED CARD OF 'warrantlaw02.CodeAlone'. -/
def codeAloneCard : Claim7 := { stood := { row := codeAloneRow, standIns := [], harness := (true, "28bf5bf7b1928d52bb0e274d7ee707561366ec8fa14af32688abcbf4e6f38bd8"), looks := true }, kinds := [], alts := [], laidByText := true, laidKinds := [.data, .data, .data], laidTests := true, laidLooks := .later }
def CodeAloneCardSaid : Prop := Claim7.holds Tryd.pinned (.plain (OpenSpec.ofChange codeAloneSpec)) codeAloneCard

/-- THE TIED CARD OF 'warrantlaw02.CodeUnlike'. -/
def codeUnlikeCard : Claim7 := { stood := { row := codeUnlikeRow, standIns := [], harness := (true, "28bf5bf7b1928d52bb0e274d7ee707561366ec8fa14af32688abcbf4e6f38bd8"), looks := true }, kinds := [], alts := [], laidByText := true, laidKinds := [.data, .data, .data], laidTests := true, laidLooks := .later }
def CodeUnlikeCardSaid : Prop := Claim7.holds Tryd.pinned (.plain (OpenSpec.ofChange codeUnlikeSpec)) codeUnlikeCard

/-- THE TIED CARD OF 'warrantlaw02.CodeTurned'. -/
def codeTurnedCard : Claim7 := { stood := { row := codeTurnedRow, standIns := [], harness := (true, "28bf5bf7b1928d52bb0e274d7ee707561366ec8fa14af32688abcbf4e6f38bd8"), looks := true }, kinds := [], alts := [], laidByText := true, laidKinds := [.data, .data, .data], laidTests := true, laidLooks := .later }
def CodeTurnedCardSaid : Prop := Claim7.holds Tryd.pinned (.plain (OpenSpec.ofChange codeTurnedSpec)) codeTurnedCard

/-- THE SECOND FORM's CARD OF 'warrantlaw02.CodeBack'. -/
def codeBackUptoCard : Claim7 := { stood := { row := codeBackUptoRow, standIns := [], harness := (true, "28bf5bf7b1928d52bb0e274d7ee707561366ec8fa14af32688abcbf4e6f38bd8"), looks := true }, kinds := [], alts := [], laidByText := true, laidKinds := [.data, .data, .data], laidTests := true, laidLooks := .later }
def CodeBackUptoCardSaid : Prop := Claim7.holds Tryd.pinned (.plain (OpenSpec.upto codeBackSpec)) codeBackUptoCard

/-- THE SECOND FORM's CARD OF 'warrantlaw02.CodeForth'. -/
def codeForthUptoCard : Claim7 := { stood := { row := codeForthUptoRow, standIns := [], harness := (true, "28bf5bf7b1928d52bb0e274d7ee707561366ec8fa14af32688abcbf4e6f38bd8"), looks := true }, kinds := [], alts := [], laidByText := true, laidKinds := [.data, .data, .data], laidTests := true, laidLooks := .later }
def CodeForthUptoCardSaid : Prop := Claim7.holds Tryd.pinned (.plain (OpenSpec.upto codeForthSpec)) codeForthUptoCard

/-- THE SECOND FORM's CARD OF 'warrantlaw02.CodeJoins'. -/
def codeJoinsUptoCard : Claim7 := { stood := { row := codeJoinsUptoRow, standIns := [], harness := (true, "28bf5bf7b1928d52bb0e274d7ee707561366ec8fa14af32688abcbf4e6f38bd8"), looks := true }, kinds := [], alts := [], laidByText := true, laidKinds := [.data, .data, .data], laidTests := true, laidLooks := .later }
def CodeJoinsUptoCardSaid : Prop := Claim7.holds Tryd.pinned (.plain (OpenSpec.upto codeJoinsSpec)) codeJoinsUptoCard

/-- THE SECOND FORM's CARD OF 'warrantlaw02.CodeFirst'. -/
def codeFirstUptoCard : Claim7 := { stood := { row := codeFirstUptoRow, standIns := [], harness := (true, "28bf5bf7b1928d52bb0e274d7ee707561366ec8fa14af32688abcbf4e6f38bd8"), looks := true }, kinds := [], alts := [], laidByText := true, laidKinds := [.data, .data, .data], laidTests := true, laidLooks := .later }
def CodeFirstUptoCardSaid : Prop := Claim7.holds Tryd.pinned (.plain (OpenSpec.upto codeFirstSpec)) codeFirstUptoCard

/-- THE SECOND FORM's CARD OF 'warrantlaw02.CodeAlone'. -/
def codeAloneUptoCard : Claim7 := { stood := { row := codeAloneUptoRow, standIns := [], harness := (true, "28bf5bf7b1928d52bb0e274d7ee707561366ec8fa14af32688abcbf4e6f38bd8"), looks := true }, kinds := [], alts := [], laidByText := true, laidKinds := [.data, .data, .data], laidTests := true, laidLooks := .later }
def CodeAloneUptoCardSaid : Prop := Claim7.holds Tryd.pinned (.plain (OpenSpec.upto codeAloneSpec)) codeAloneUptoCard

/-- THE SECOND FORM's CARD OF 'warrantlaw02.CodeUnlike'. -/
def codeUnlikeUptoCard : Claim7 := { stood := { row := codeUnlikeUptoRow, standIns := [], harness := (true, "28bf5bf7b1928d52bb0e274d7ee707561366ec8fa14af32688abcbf4e6f38bd8"), looks := true }, kinds := [], alts := [], laidByText := true, laidKinds := [.data, .data, .data], laidTests := true, laidLooks := .later }
def CodeUnlikeUptoCardSaid : Prop := Claim7.holds Tryd.pinned (.plain (OpenSpec.upto codeUnlikeSpec)) codeUnlikeUptoCard

/-- THE SECOND FORM's CARD OF 'warrantlaw02.CodeTurned'. -/
def codeTurnedUptoCard : Claim7 := { stood := { row := codeTurnedUptoRow, standIns := [], harness := (true, "28bf5bf7b1928d52bb0e274d7ee707561366ec8fa14af32688abcbf4e6f38bd8"), looks := true }, kinds := [], alts := [], laidByText := true, laidKinds := [.data, .data, .data], laidTests := true, laidLooks := .later }
def CodeTurnedUptoCardSaid : Prop := Claim7.holds Tryd.pinned (.plain (OpenSpec.upto codeTurnedSpec)) codeTurnedUptoCard
end Rows
end Go.Proofs.YtkpmhkoicdglbaaDoor
