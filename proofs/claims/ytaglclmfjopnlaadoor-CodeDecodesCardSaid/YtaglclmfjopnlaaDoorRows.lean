/-
  NARROWER THAN 'FOR EVERY INPUT', by the rows' own cells (each row's printed sentence says how): CodeDecodes: laid · CodeEncodes: laid · CodeChecks: laid · CodeRights: laid · CodeUnits: laid.
  DERIVED. THE GIVEN ROWS OF THIS SEAT. 5 by the template 'for every input the law returns true; each argument reads behind the call as it read before'; 0 by the template 'total and deterministic' (their statements: YtaglclmfjopnlaaDoorTotals.lean).
  GIVEN WITH THE SEED: the statements are not yours to turn. If you find one false, say at which input.
  Laid BY PROGRAM, IN A SANDBOX (cutbox-rows.mjs): the forced cells as the released guide's own fill.sh prints them over the translation d847922b82a72455… (all of the seat's roots in one cut). By AI agents, Wed Nov 11 2026. No macro, syntax, notation, axiom, sorry.
-/
import Derived.Test.YtaglclmfjopnlaaDoorChecked
import GoSem.Claim
import GoSem.ClaimJoined
import GoSem.ClaimMapViews
import Derived.JoinedTies
import Derived.KernelRfl
namespace Go.Proofs.YtaglclmfjopnlaaDoor
/- THE CELL 'sum', in the pinned program and in every row, IS THE sha256 OF THE DUMP (.gsa) THAT YtaglclmfjopnlaaDoorProg.lean LOADS. Nothing in Lean hashes anything: it is a label: what it is worth is what the hold of that sum in a sandbox is worth. -/
noncomputable def Tryd.pinned : Pinned := { name := "ytaglclmfjopnlaadoor", sum := "d847922b82a72455d529a350dd0e358ffef7b21423f343bc53b7721aa6b4de1d", checked := Tryd.checked }
namespace Rows
def none {H : Type} : Left H := { results := [], args := [] }

/- WHAT THE LISTED PACKAGE-LEVEL VARIABLES READ AS WHEN THE CALL BEGINS. Each datum BY PROGRAM (the guide's laid-datum.mjs) off the statement by which the dump's own 'gosem.cut.vars' lays the variable. In a bare row this is a premise. The card (YtaglclmfjopnlaaDoorCards.lean) ties it to the program's text. -/
def laid_warrant_code_sizes {H : Type} : DataW H := .agg [.lit (.int .i64 4), .lit (.int .i64 2), .lit (.int .i64 1), .lit (.int .i64 8)]
def laid_warrant_code_joinings {H : Type} : DataW H := .agg [.lit (.int .i64 1), .lit (.int .i64 2), .lit (.int .i64 3), .lit (.int .i64 4), .lit (.int .i64 8), .lit (.int .i64 9), .lit (.int .i64 11), .lit (.int .i64 12), .lit (.int .i64 14), .lit (.int .i64 5), .lit (.int .i64 10), .lit (.int .i64 15), .lit (.int .i64 13)]
def laid_warrant_code_jumps {H : Type} : DataW H := .agg [.lit (.int .i64 26), .lit (.int .i64 27), .lit (.int .i64 29), .lit (.int .i64 30), .lit (.int .i64 37), .lit (.int .i64 28), .lit (.int .i64 33), .lit (.int .i64 34), .lit (.int .i64 38), .lit (.int .i64 39), .lit (.int .i64 31), .lit (.int .i64 32), .lit (.int .i64 35), .lit (.int .i64 36)]
def laid_warrant_warrantlaw02_mark {H : Type} : DataW H := .agg [.lit (.int .i64 (-77)), .lit (.bool false), .lit (.bool false), .lit (.int .i64 (-77)), .lit (.int .i64 (-77)), .lit (.int .i64 (-77)), .lit (.int .i64 (-77)), .lit (.int .i64 (-77))]

/-- 'warrantlaw02.CodeDecodes': WHATEVER THE INPUT: true; the input reads as it did. -/
def codeDecodesSpec : ChangeSpec := { name := "codeDecodes", fn := fun _ => fun
  | [d] => { results := [.lit (.bool true)], args := [d] }
  | _ => none }
def codeDecodesRow : OpenClaim := { program := "ytaglclmfjopnlaadoor", sum := "d847922b82a72455d529a350dd0e358ffef7b21423f343bc53b7721aa6b4de1d", func := "warrant/warrantlaw02.CodeDecodes", spec := "codeDecodes", unfollowed := true, recurses := true, named := ["warrant/code.sizes", "warrant/code.joinings", "warrant/code.jumps"], apart := false, laid := [("warrant/code.sizes", laid_warrant_code_sizes), ("warrant/code.joinings", laid_warrant_code_joinings), ("warrant/code.jumps", laid_warrant_code_jumps)] }
def CodeDecodesSaid : Prop := codeDecodesRow.holds Tryd.pinned (OpenSpec.ofChange codeDecodesSpec)

/-- ITS FALSE NEIGHBOUR: 'it returns false'. Refute it at one input. -/
def codeDecodesWrong : ChangeSpec := { name := "codeDecodes", fn := fun _ => fun
  | [d] => { results := [.lit (.bool false)], args := [d] }
  | _ => none }
def CodeDecodesWrongFalsely : Prop := codeDecodesRow.holds Tryd.pinned (OpenSpec.ofChange codeDecodesWrong)

/-- 'warrantlaw02.CodeEncodes': WHATEVER THE INPUT: true; the input reads as it did. -/
def codeEncodesSpec : ChangeSpec := { name := "codeEncodes", fn := fun _ => fun
  | [d] => { results := [.lit (.bool true)], args := [d] }
  | _ => none }
def codeEncodesRow : OpenClaim := { program := "ytaglclmfjopnlaadoor", sum := "d847922b82a72455d529a350dd0e358ffef7b21423f343bc53b7721aa6b4de1d", func := "warrant/warrantlaw02.CodeEncodes", spec := "codeEncodes", unfollowed := true, recurses := true, named := ["warrant/code.sizes", "warrant/code.joinings", "warrant/code.jumps", "warrant/warrantlaw02.mark"], apart := false, laid := [("warrant/code.sizes", laid_warrant_code_sizes), ("warrant/code.joinings", laid_warrant_code_joinings), ("warrant/code.jumps", laid_warrant_code_jumps), ("warrant/warrantlaw02.mark", laid_warrant_warrantlaw02_mark)] }
def CodeEncodesSaid : Prop := codeEncodesRow.holds Tryd.pinned (OpenSpec.ofChange codeEncodesSpec)

/-- ITS FALSE NEIGHBOUR: 'it returns false'. Refute it at one input. -/
def codeEncodesWrong : ChangeSpec := { name := "codeEncodes", fn := fun _ => fun
  | [d] => { results := [.lit (.bool false)], args := [d] }
  | _ => none }
def CodeEncodesWrongFalsely : Prop := codeEncodesRow.holds Tryd.pinned (OpenSpec.ofChange codeEncodesWrong)

/-- 'warrantlaw02.CodeChecks': WHATEVER THE INPUT: true; the input reads as it did. -/
def codeChecksSpec : ChangeSpec := { name := "codeChecks", fn := fun _ => fun
  | [d] => { results := [.lit (.bool true)], args := [d] }
  | _ => none }
def codeChecksRow : OpenClaim := { program := "ytaglclmfjopnlaadoor", sum := "d847922b82a72455d529a350dd0e358ffef7b21423f343bc53b7721aa6b4de1d", func := "warrant/warrantlaw02.CodeChecks", spec := "codeChecks", unfollowed := true, recurses := true, named := ["warrant/code.sizes", "warrant/code.joinings", "warrant/code.jumps", "warrant/warrantlaw02.mark"], apart := false, laid := [("warrant/code.sizes", laid_warrant_code_sizes), ("warrant/code.joinings", laid_warrant_code_joinings), ("warrant/code.jumps", laid_warrant_code_jumps), ("warrant/warrantlaw02.mark", laid_warrant_warrantlaw02_mark)] }
def CodeChecksSaid : Prop := codeChecksRow.holds Tryd.pinned (OpenSpec.ofChange codeChecksSpec)

/-- ITS FALSE NEIGHBOUR: 'it returns false'. Refute it at one input. -/
def codeChecksWrong : ChangeSpec := { name := "codeChecks", fn := fun _ => fun
  | [d] => { results := [.lit (.bool false)], args := [d] }
  | _ => none }
def CodeChecksWrongFalsely : Prop := codeChecksRow.holds Tryd.pinned (OpenSpec.ofChange codeChecksWrong)

/-- 'warrantlaw02.CodeRights': WHATEVER THE INPUT: true; the input reads as it did. -/
def codeRightsSpec : ChangeSpec := { name := "codeRights", fn := fun _ => fun
  | [d] => { results := [.lit (.bool true)], args := [d] }
  | _ => none }
def codeRightsRow : OpenClaim := { program := "ytaglclmfjopnlaadoor", sum := "d847922b82a72455d529a350dd0e358ffef7b21423f343bc53b7721aa6b4de1d", func := "warrant/warrantlaw02.CodeRights", spec := "codeRights", unfollowed := true, recurses := true, named := ["warrant/code.sizes", "warrant/code.joinings", "warrant/code.jumps"], apart := false, laid := [("warrant/code.sizes", laid_warrant_code_sizes), ("warrant/code.joinings", laid_warrant_code_joinings), ("warrant/code.jumps", laid_warrant_code_jumps)] }
def CodeRightsSaid : Prop := codeRightsRow.holds Tryd.pinned (OpenSpec.ofChange codeRightsSpec)

/-- ITS FALSE NEIGHBOUR: 'it returns false'. Refute it at one input. -/
def codeRightsWrong : ChangeSpec := { name := "codeRights", fn := fun _ => fun
  | [d] => { results := [.lit (.bool false)], args := [d] }
  | _ => none }
def CodeRightsWrongFalsely : Prop := codeRightsRow.holds Tryd.pinned (OpenSpec.ofChange codeRightsWrong)

/-- 'warrantlaw02.CodeUnits': WHATEVER THE INPUT: true; the input reads as it did. -/
def codeUnitsSpec : ChangeSpec := { name := "codeUnits", fn := fun _ => fun
  | [d] => { results := [.lit (.bool true)], args := [d] }
  | _ => none }
def codeUnitsRow : OpenClaim := { program := "ytaglclmfjopnlaadoor", sum := "d847922b82a72455d529a350dd0e358ffef7b21423f343bc53b7721aa6b4de1d", func := "warrant/warrantlaw02.CodeUnits", spec := "codeUnits", unfollowed := true, recurses := true, named := ["warrant/code.sizes", "warrant/code.joinings", "warrant/code.jumps", "warrant/warrantlaw02.mark"], apart := false, laid := [("warrant/code.sizes", laid_warrant_code_sizes), ("warrant/code.joinings", laid_warrant_code_joinings), ("warrant/code.jumps", laid_warrant_code_jumps), ("warrant/warrantlaw02.mark", laid_warrant_warrantlaw02_mark)] }
def CodeUnitsSaid : Prop := codeUnitsRow.holds Tryd.pinned (OpenSpec.ofChange codeUnitsSpec)

/-- ITS FALSE NEIGHBOUR: 'it returns false'. Refute it at one input. -/
def codeUnitsWrong : ChangeSpec := { name := "codeUnits", fn := fun _ => fun
  | [d] => { results := [.lit (.bool false)], args := [d] }
  | _ => none }
def CodeUnitsWrongFalsely : Prop := codeUnitsRow.holds Tryd.pinned (OpenSpec.ofChange codeUnitsWrong)

/- THE SECOND FORM. 'bulk': how many values and letters a reading holds, each counted each time it is reached (what is shared counts as often as it is met; a slice's spare places count too). A statement '..UptoSaid' is the law's where the arguments, and the package variables that the reading takes, are together of bulk at most 1048576: NARROWER than '..Said'. Prove '..Said' where nothing that the law and all that it calls make is longer than what came in: it says more and counts as full. Else prove '..UptoSaid'. A law counts once. -/
mutual
def uptoBulk {H : Type} : DataW H → Nat
  | .lit (.string bytes) => bytes.length + 1
  | .lit _ => 1
  | .nil => 1
  | .ptr d => uptoBulk d + 1
  | .slice elems spare => uptoBulkAll elems + uptoBulkAll spare + 1
  | .agg parts => uptoBulkAll parts + 1
  | .iface _ d => uptoBulk d + 1
  | .map entries => uptoBulkEntries entries + 1
  | .held _ => 1
def uptoBulkAll {H : Type} : List (DataW H) → Nat
  | [] => 0
  | d :: r => uptoBulk d + uptoBulkAll r
def uptoBulkEntries {H : Type} : List (Lit × DataW H) → Nat
  | [] => 0
  | x :: r => uptoBulkEntry x + uptoBulkEntries r
def uptoBulkEntry {H : Type} : Lit × DataW H → Nat
  | (.string bytes, d) => bytes.length + uptoBulk d + 1
  | (_, d) => uptoBulk d + 1
 end
def uptoSmall : (H : Type) → List (DataW H) → Bool := fun _ ds => decide (uptoBulkAll ds ≤ 1048576)
def OpenSpec.upto (s : _root_.Go.ChangeSpec) : _root_.Go.OpenSpec := { _root_.Go.OpenSpec.ofChange s with cond := some uptoSmall }

/-- 'warrantlaw02.CodeDecodes', WHERE WHAT IT READS IS OF BULK AT MOST 1048576: true; the input reads as it did. -/
def codeDecodesUptoRow : OpenClaim := { program := "ytaglclmfjopnlaadoor", sum := "d847922b82a72455d529a350dd0e358ffef7b21423f343bc53b7721aa6b4de1d", func := "warrant/warrantlaw02.CodeDecodes", spec := "codeDecodes", unfollowed := true, recurses := true, named := ["warrant/code.sizes", "warrant/code.joinings", "warrant/code.jumps"], apart := false, laid := [("warrant/code.sizes", laid_warrant_code_sizes), ("warrant/code.joinings", laid_warrant_code_joinings), ("warrant/code.jumps", laid_warrant_code_jumps)], narrowed := true }
def CodeDecodesUptoSaid : Prop := codeDecodesUptoRow.holds Tryd.pinned (OpenSpec.upto codeDecodesSpec)

/-- 'warrantlaw02.CodeEncodes', WHERE WHAT IT READS IS OF BULK AT MOST 1048576: true; the input reads as it did. -/
def codeEncodesUptoRow : OpenClaim := { program := "ytaglclmfjopnlaadoor", sum := "d847922b82a72455d529a350dd0e358ffef7b21423f343bc53b7721aa6b4de1d", func := "warrant/warrantlaw02.CodeEncodes", spec := "codeEncodes", unfollowed := true, recurses := true, named := ["warrant/code.sizes", "warrant/code.joinings", "warrant/code.jumps", "warrant/warrantlaw02.mark"], apart := false, laid := [("warrant/code.sizes", laid_warrant_code_sizes), ("warrant/code.joinings", laid_warrant_code_joinings), ("warrant/code.jumps", laid_warrant_code_jumps), ("warrant/warrantlaw02.mark", laid_warrant_warrantlaw02_mark)], narrowed := true }
def CodeEncodesUptoSaid : Prop := codeEncodesUptoRow.holds Tryd.pinned (OpenSpec.upto codeEncodesSpec)

/-- 'warrantlaw02.CodeChecks', WHERE WHAT IT READS IS OF BULK AT MOST 1048576: true; the input reads as it did. -/
def codeChecksUptoRow : OpenClaim := { program := "ytaglclmfjopnlaadoor", sum := "d847922b82a72455d529a350dd0e358ffef7b21423f343bc53b7721aa6b4de1d", func := "warrant/warrantlaw02.CodeChecks", spec := "codeChecks", unfollowed := true, recurses := true, named := ["warrant/code.sizes", "warrant/code.joinings", "warrant/code.jumps", "warrant/warrantlaw02.mark"], apart := false, laid := [("warrant/code.sizes", laid_warrant_code_sizes), ("warrant/code.joinings", laid_warrant_code_joinings), ("warrant/code.jumps", laid_warrant_code_jumps), ("warrant/warrantlaw02.mark", laid_warrant_warrantlaw02_mark)], narrowed := true }
def CodeChecksUptoSaid : Prop := codeChecksUptoRow.holds Tryd.pinned (OpenSpec.upto codeChecksSpec)

/-- 'warrantlaw02.CodeRights', WHERE WHAT IT READS IS OF BULK AT MOST 1048576: true; the input reads as it did. -/
def codeRightsUptoRow : OpenClaim := { program := "ytaglclmfjopnlaadoor", sum := "d847922b82a72455d529a350dd0e358ffef7b21423f343bc53b7721aa6b4de1d", func := "warrant/warrantlaw02.CodeRights", spec := "codeRights", unfollowed := true, recurses := true, named := ["warrant/code.sizes", "warrant/code.joinings", "warrant/code.jumps"], apart := false, laid := [("warrant/code.sizes", laid_warrant_code_sizes), ("warrant/code.joinings", laid_warrant_code_joinings), ("warrant/code.jumps", laid_warrant_code_jumps)], narrowed := true }
def CodeRightsUptoSaid : Prop := codeRightsUptoRow.holds Tryd.pinned (OpenSpec.upto codeRightsSpec)

/-- 'warrantlaw02.CodeUnits', WHERE WHAT IT READS IS OF BULK AT MOST 1048576: true; the input reads as it did. -/
def codeUnitsUptoRow : OpenClaim := { program := "ytaglclmfjopnlaadoor", sum := "d847922b82a72455d529a350dd0e358ffef7b21423f343bc53b7721aa6b4de1d", func := "warrant/warrantlaw02.CodeUnits", spec := "codeUnits", unfollowed := true, recurses := true, named := ["warrant/code.sizes", "warrant/code.joinings", "warrant/code.jumps", "warrant/warrantlaw02.mark"], apart := false, laid := [("warrant/code.sizes", laid_warrant_code_sizes), ("warrant/code.joinings", laid_warrant_code_joinings), ("warrant/code.jumps", laid_warrant_code_jumps), ("warrant/warrantlaw02.mark", laid_warrant_warrantlaw02_mark)], narrowed := true }
def CodeUnitsUptoSaid : Prop := codeUnitsUptoRow.holds Tryd.pinned (OpenSpec.upto codeUnitsSpec)

end Rows
end Go.Proofs.YtaglclmfjopnlaaDoor
