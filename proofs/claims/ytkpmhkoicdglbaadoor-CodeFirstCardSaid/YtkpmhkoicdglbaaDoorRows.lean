/-
  NARROWER THAN 'FOR EVERY INPUT', by the rows' own cells (each row's printed sentence says how): CodeBack: laid · CodeForth: laid · CodeJoins: laid · CodeFirst: laid · CodeAlone: laid · CodeUnlike: laid · CodeTurned: laid.
  DERIVED. THE GIVEN ROWS OF THIS SEAT. 7 by the template 'for every input the law returns true; each argument reads behind the call as it read before'; 0 by the template 'total and deterministic' (their statements: YtkpmhkoicdglbaaDoorTotals.lean).
  GIVEN WITH THE SEED: the statements are not yours to turn. If you find one false, say at which input.
  Laid BY PROGRAM, IN A SANDBOX (cutbox-rows.mjs): the forced cells as the released guide's own fill.sh prints them over the translation 7ec5443bde6e049a… (all of the seat's roots in one cut). By AI agents, Wed Nov 11 2026. No macro, syntax, notation, axiom, sorry.
-/
import Derived.Test.YtkpmhkoicdglbaaDoorChecked
import GoSem.Claim
import GoSem.ClaimJoined
import GoSem.ClaimMapViews
import Derived.JoinedTies
import Derived.KernelRfl
namespace Go.Proofs.YtkpmhkoicdglbaaDoor
/- THE CELL 'sum', in the pinned program and in every row, IS THE sha256 OF THE DUMP (.gsa) THAT YtkpmhkoicdglbaaDoorProg.lean LOADS. Nothing in Lean hashes anything: it is a label: what it is worth is what the hold of that sum in a sandbox is worth. -/
noncomputable def Tryd.pinned : Pinned := { name := "ytkpmhkoicdglbaadoor", sum := "7ec5443bde6e049ab3136fbe2669799656458fdf9a2173c7cf2ef6fae9b6201a", checked := Tryd.checked }
namespace Rows
def none {H : Type} : Left H := { results := [], args := [] }

/- WHAT THE LISTED PACKAGE-LEVEL VARIABLES READ AS WHEN THE CALL BEGINS. Each datum BY PROGRAM (the guide's laid-datum.mjs) off the statement by which the dump's own 'gosem.cut.vars' lays the variable. In a bare row this is a premise. The card (YtkpmhkoicdglbaaDoorCards.lean) ties it to the program's text. -/
def laid_warrant_code_sizes {H : Type} : DataW H := .agg [.lit (.int .i64 4), .lit (.int .i64 2), .lit (.int .i64 1), .lit (.int .i64 8)]
def laid_warrant_code_joinings {H : Type} : DataW H := .agg [.lit (.int .i64 1), .lit (.int .i64 2), .lit (.int .i64 3), .lit (.int .i64 4), .lit (.int .i64 8), .lit (.int .i64 9), .lit (.int .i64 11), .lit (.int .i64 12), .lit (.int .i64 14), .lit (.int .i64 5), .lit (.int .i64 10), .lit (.int .i64 15), .lit (.int .i64 13)]
def laid_warrant_code_jumps {H : Type} : DataW H := .agg [.lit (.int .i64 26), .lit (.int .i64 27), .lit (.int .i64 29), .lit (.int .i64 30), .lit (.int .i64 37), .lit (.int .i64 28), .lit (.int .i64 33), .lit (.int .i64 34), .lit (.int .i64 38), .lit (.int .i64 39), .lit (.int .i64 31), .lit (.int .i64 32), .lit (.int .i64 35), .lit (.int .i64 36)]

/-- 'warrantlaw02.CodeBack': WHATEVER THE INPUT: true; the input reads as it did. -/
def codeBackSpec : ChangeSpec := { name := "codeBack", fn := fun _ => fun
  | [d] => { results := [.lit (.bool true)], args := [d] }
  | _ => none }
def codeBackRow : OpenClaim := { program := "ytkpmhkoicdglbaadoor", sum := "7ec5443bde6e049ab3136fbe2669799656458fdf9a2173c7cf2ef6fae9b6201a", func := "warrant/warrantlaw02.CodeBack", spec := "codeBack", unfollowed := true, recurses := true, named := ["warrant/code.sizes", "warrant/code.joinings", "warrant/code.jumps"], apart := false, laid := [("warrant/code.sizes", laid_warrant_code_sizes), ("warrant/code.joinings", laid_warrant_code_joinings), ("warrant/code.jumps", laid_warrant_code_jumps)] }
def CodeBackSaid : Prop := codeBackRow.holds Tryd.pinned (OpenSpec.ofChange codeBackSpec)

/-- ITS FALSE NEIGHBOUR: 'it returns false'. Refute it at one input. -/
def codeBackWrong : ChangeSpec := { name := "codeBack", fn := fun _ => fun
  | [d] => { results := [.lit (.bool false)], args := [d] }
  | _ => none }
def CodeBackWrongFalsely : Prop := codeBackRow.holds Tryd.pinned (OpenSpec.ofChange codeBackWrong)

/-- 'warrantlaw02.CodeForth': WHATEVER THE INPUT: true; the input reads as it did. -/
def codeForthSpec : ChangeSpec := { name := "codeForth", fn := fun _ => fun
  | [d] => { results := [.lit (.bool true)], args := [d] }
  | _ => none }
def codeForthRow : OpenClaim := { program := "ytkpmhkoicdglbaadoor", sum := "7ec5443bde6e049ab3136fbe2669799656458fdf9a2173c7cf2ef6fae9b6201a", func := "warrant/warrantlaw02.CodeForth", spec := "codeForth", unfollowed := true, recurses := true, named := ["warrant/code.sizes", "warrant/code.joinings", "warrant/code.jumps"], apart := false, laid := [("warrant/code.sizes", laid_warrant_code_sizes), ("warrant/code.joinings", laid_warrant_code_joinings), ("warrant/code.jumps", laid_warrant_code_jumps)] }
def CodeForthSaid : Prop := codeForthRow.holds Tryd.pinned (OpenSpec.ofChange codeForthSpec)

/-- ITS FALSE NEIGHBOUR: 'it returns false'. Refute it at one input. -/
def codeForthWrong : ChangeSpec := { name := "codeForth", fn := fun _ => fun
  | [d] => { results := [.lit (.bool false)], args := [d] }
  | _ => none }
def CodeForthWrongFalsely : Prop := codeForthRow.holds Tryd.pinned (OpenSpec.ofChange codeForthWrong)

/-- 'warrantlaw02.CodeJoins': WHATEVER THE INPUT: true; the input reads as it did. -/
def codeJoinsSpec : ChangeSpec := { name := "codeJoins", fn := fun _ => fun
  | [d1, d2] => { results := [.lit (.bool true)], args := [d1, d2] }
  | _ => none }
def codeJoinsRow : OpenClaim := { program := "ytkpmhkoicdglbaadoor", sum := "7ec5443bde6e049ab3136fbe2669799656458fdf9a2173c7cf2ef6fae9b6201a", func := "warrant/warrantlaw02.CodeJoins", spec := "codeJoins", unfollowed := true, recurses := true, named := ["warrant/code.sizes", "warrant/code.joinings", "warrant/code.jumps"], apart := false, laid := [("warrant/code.sizes", laid_warrant_code_sizes), ("warrant/code.joinings", laid_warrant_code_joinings), ("warrant/code.jumps", laid_warrant_code_jumps)] }
def CodeJoinsSaid : Prop := codeJoinsRow.holds Tryd.pinned (OpenSpec.ofChange codeJoinsSpec)

/-- ITS FALSE NEIGHBOUR: 'it returns false'. Refute it at one input. -/
def codeJoinsWrong : ChangeSpec := { name := "codeJoins", fn := fun _ => fun
  | [d1, d2] => { results := [.lit (.bool false)], args := [d1, d2] }
  | _ => none }
def CodeJoinsWrongFalsely : Prop := codeJoinsRow.holds Tryd.pinned (OpenSpec.ofChange codeJoinsWrong)

/-- 'warrantlaw02.CodeFirst': WHATEVER THE INPUT: true; the input reads as it did. -/
def codeFirstSpec : ChangeSpec := { name := "codeFirst", fn := fun _ => fun
  | [d] => { results := [.lit (.bool true)], args := [d] }
  | _ => none }
def codeFirstRow : OpenClaim := { program := "ytkpmhkoicdglbaadoor", sum := "7ec5443bde6e049ab3136fbe2669799656458fdf9a2173c7cf2ef6fae9b6201a", func := "warrant/warrantlaw02.CodeFirst", spec := "codeFirst", unfollowed := true, recurses := true, named := ["warrant/code.sizes", "warrant/code.joinings", "warrant/code.jumps"], apart := false, laid := [("warrant/code.sizes", laid_warrant_code_sizes), ("warrant/code.joinings", laid_warrant_code_joinings), ("warrant/code.jumps", laid_warrant_code_jumps)] }
def CodeFirstSaid : Prop := codeFirstRow.holds Tryd.pinned (OpenSpec.ofChange codeFirstSpec)

/-- ITS FALSE NEIGHBOUR: 'it returns false'. Refute it at one input. -/
def codeFirstWrong : ChangeSpec := { name := "codeFirst", fn := fun _ => fun
  | [d] => { results := [.lit (.bool false)], args := [d] }
  | _ => none }
def CodeFirstWrongFalsely : Prop := codeFirstRow.holds Tryd.pinned (OpenSpec.ofChange codeFirstWrong)

/-- 'warrantlaw02.CodeAlone': WHATEVER THE INPUT: true; the input reads as it did. -/
def codeAloneSpec : ChangeSpec := { name := "codeAlone", fn := fun _ => fun
  | [d] => { results := [.lit (.bool true)], args := [d] }
  | _ => none }
def codeAloneRow : OpenClaim := { program := "ytkpmhkoicdglbaadoor", sum := "7ec5443bde6e049ab3136fbe2669799656458fdf9a2173c7cf2ef6fae9b6201a", func := "warrant/warrantlaw02.CodeAlone", spec := "codeAlone", unfollowed := true, recurses := true, named := ["warrant/code.sizes", "warrant/code.joinings", "warrant/code.jumps"], apart := false, laid := [("warrant/code.sizes", laid_warrant_code_sizes), ("warrant/code.joinings", laid_warrant_code_joinings), ("warrant/code.jumps", laid_warrant_code_jumps)] }
def CodeAloneSaid : Prop := codeAloneRow.holds Tryd.pinned (OpenSpec.ofChange codeAloneSpec)

/-- ITS FALSE NEIGHBOUR: 'it returns false'. Refute it at one input. -/
def codeAloneWrong : ChangeSpec := { name := "codeAlone", fn := fun _ => fun
  | [d] => { results := [.lit (.bool false)], args := [d] }
  | _ => none }
def CodeAloneWrongFalsely : Prop := codeAloneRow.holds Tryd.pinned (OpenSpec.ofChange codeAloneWrong)

/-- 'warrantlaw02.CodeUnlike': WHATEVER THE INPUT: true; the input reads as it did. -/
def codeUnlikeSpec : ChangeSpec := { name := "codeUnlike", fn := fun _ => fun
  | [d1, d2] => { results := [.lit (.bool true)], args := [d1, d2] }
  | _ => none }
def codeUnlikeRow : OpenClaim := { program := "ytkpmhkoicdglbaadoor", sum := "7ec5443bde6e049ab3136fbe2669799656458fdf9a2173c7cf2ef6fae9b6201a", func := "warrant/warrantlaw02.CodeUnlike", spec := "codeUnlike", unfollowed := true, recurses := true, named := ["warrant/code.sizes", "warrant/code.joinings", "warrant/code.jumps"], apart := false, laid := [("warrant/code.sizes", laid_warrant_code_sizes), ("warrant/code.joinings", laid_warrant_code_joinings), ("warrant/code.jumps", laid_warrant_code_jumps)] }
def CodeUnlikeSaid : Prop := codeUnlikeRow.holds Tryd.pinned (OpenSpec.ofChange codeUnlikeSpec)

/-- ITS FALSE NEIGHBOUR: 'it returns false'. Refute it at one input. -/
def codeUnlikeWrong : ChangeSpec := { name := "codeUnlike", fn := fun _ => fun
  | [d1, d2] => { results := [.lit (.bool false)], args := [d1, d2] }
  | _ => none }
def CodeUnlikeWrongFalsely : Prop := codeUnlikeRow.holds Tryd.pinned (OpenSpec.ofChange codeUnlikeWrong)

/-- 'warrantlaw02.CodeTurned': WHATEVER THE INPUT: true; the input reads as it did. -/
def codeTurnedSpec : ChangeSpec := { name := "codeTurned", fn := fun _ => fun
  | [d1, d2, d3] => { results := [.lit (.bool true)], args := [d1, d2, d3] }
  | _ => none }
def codeTurnedRow : OpenClaim := { program := "ytkpmhkoicdglbaadoor", sum := "7ec5443bde6e049ab3136fbe2669799656458fdf9a2173c7cf2ef6fae9b6201a", func := "warrant/warrantlaw02.CodeTurned", spec := "codeTurned", unfollowed := true, recurses := true, named := ["warrant/code.sizes", "warrant/code.joinings", "warrant/code.jumps"], apart := false, laid := [("warrant/code.sizes", laid_warrant_code_sizes), ("warrant/code.joinings", laid_warrant_code_joinings), ("warrant/code.jumps", laid_warrant_code_jumps)] }
def CodeTurnedSaid : Prop := codeTurnedRow.holds Tryd.pinned (OpenSpec.ofChange codeTurnedSpec)

/-- ITS FALSE NEIGHBOUR: 'it returns false'. Refute it at one input. -/
def codeTurnedWrong : ChangeSpec := { name := "codeTurned", fn := fun _ => fun
  | [d1, d2, d3] => { results := [.lit (.bool false)], args := [d1, d2, d3] }
  | _ => none }
def CodeTurnedWrongFalsely : Prop := codeTurnedRow.holds Tryd.pinned (OpenSpec.ofChange codeTurnedWrong)

/- THE SECOND FORM. 'bulk': how many values and letters a reading holds, each counted each time it is reached (what is shared counts as often as it is met; a slice's spare places count too). A statement '..UptoSaid' is the law's where the arguments, and the package variables that the reading takes, are together of bulk at most 1048576: NARROWER than '..Said'. Prove '..Said' where nothing that the law and all that it calls make is longer than what came in: it says more and counts as full. Else prove '..UptoSaid'. A law counts once. -/
mutual
def uptoBulk {H : Type} : DataW H → Nat
  | .lit (.string bytes) => bytes.length + 1
  | .lit _ => 1
  | .nil => 1
  | .ptr d => uptoBulk d + 1
  | .slice elems spare => uptoBulkAll elems + uptoBulkAll spare + 1
  | .agg parts => uptoBulkAll parts + 1
  | .iface _ d => uptoBulk d + 1
  | .map entries => uptoBulkEntries entries + 1
  | .held _ => 1
def uptoBulkAll {H : Type} : List (DataW H) → Nat
  | [] => 0
  | d :: r => uptoBulk d + uptoBulkAll r
def uptoBulkEntries {H : Type} : List (Lit × DataW H) → Nat
  | [] => 0
  | x :: r => uptoBulkEntry x + uptoBulkEntries r
def uptoBulkEntry {H : Type} : Lit × DataW H → Nat
  | (.string bytes, d) => bytes.length + uptoBulk d + 1
  | (_, d) => uptoBulk d + 1
 end
def uptoSmall : (H : Type) → List (DataW H) → Bool := fun _ ds => decide (uptoBulkAll ds ≤ 1048576)
def OpenSpec.upto (s : _root_.Go.ChangeSpec) : _root_.Go.OpenSpec := { _root_.Go.OpenSpec.ofChange s with cond := some uptoSmall }

/-- 'warrantlaw02.CodeBack', WHERE WHAT IT READS IS OF BULK AT MOST 1048576: true; the input reads as it did. -/
def codeBackUptoRow : OpenClaim := { program := "ytkpmhkoicdglbaadoor", sum := "7ec5443bde6e049ab3136fbe2669799656458fdf9a2173c7cf2ef6fae9b6201a", func := "warrant/warrantlaw02.CodeBack", spec := "codeBack", unfollowed := true, recurses := true, named := ["warrant/code.sizes", "warrant/code.joinings", "warrant/code.jumps"], apart := false, laid := [("warrant/code.sizes", laid_warrant_code_sizes), ("warrant/code.joinings", laid_warrant_code_joinings), ("warrant/code.jumps", laid_warrant_code_jumps)], narrowed := true }
def CodeBackUptoSaid : Prop := codeBackUptoRow.holds Tryd.pinned (OpenSpec.upto codeBackSpec)

/-- 'warrantlaw02.CodeForth', WHERE WHAT IT READS IS OF BULK AT MOST 1048576: true; the input reads as it did. -/
def codeForthUptoRow : OpenClaim := { program := "ytkpmhkoicdglbaadoor", sum := "7ec5443bde6e049ab3136fbe2669799656458fdf9a2173c7cf2ef6fae9b6201a", func := "warrant/warrantlaw02.CodeForth", spec := "codeForth", unfollowed := true, recurses := true, named := ["warrant/code.sizes", "warrant/code.joinings", "warrant/code.jumps"], apart := false, laid := [("warrant/code.sizes", laid_warrant_code_sizes), ("warrant/code.joinings", laid_warrant_code_joinings), ("warrant/code.jumps", laid_warrant_code_jumps)], narrowed := true }
def CodeForthUptoSaid : Prop := codeForthUptoRow.holds Tryd.pinned (OpenSpec.upto codeForthSpec)

/-- 'warrantlaw02.CodeJoins', WHERE WHAT IT READS IS OF BULK AT MOST 1048576: true; the input reads as it did. -/
def codeJoinsUptoRow : OpenClaim := { program := "ytkpmhkoicdglbaadoor", sum := "7ec5443bde6e049ab3136fbe2669799656458fdf9a2173c7cf2ef6fae9b6201a", func := "warrant/warrantlaw02.CodeJoins", spec := "codeJoins", unfollowed := true, recurses := true, named := ["warrant/code.sizes", "warrant/code.joinings", "warrant/code.jumps"], apart := false, laid := [("warrant/code.sizes", laid_warrant_code_sizes), ("warrant/code.joinings", laid_warrant_code_joinings), ("warrant/code.jumps", laid_warrant_code_jumps)], narrowed := true }
def CodeJoinsUptoSaid : Prop := codeJoinsUptoRow.holds Tryd.pinned (OpenSpec.upto codeJoinsSpec)

/-- 'warrantlaw02.CodeFirst', WHERE WHAT IT READS IS OF BULK AT MOST 1048576: true; the input reads as it did. -/
def codeFirstUptoRow : OpenClaim := { program := "ytkpmhkoicdglbaadoor", sum := "7ec5443bde6e049ab3136fbe2669799656458fdf9a2173c7cf2ef6fae9b6201a", func := "warrant/warrantlaw02.CodeFirst", spec := "codeFirst", unfollowed := true, recurses := true, named := ["warrant/code.sizes", "warrant/code.joinings", "warrant/code.jumps"], apart := false, laid := [("warrant/code.sizes", laid_warrant_code_sizes), ("warrant/code.joinings", laid_warrant_code_joinings), ("warrant/code.jumps", laid_warrant_code_jumps)], narrowed := true }
def CodeFirstUptoSaid : Prop := codeFirstUptoRow.holds Tryd.pinned (OpenSpec.upto codeFirstSpec)

/-- 'warrantlaw02.CodeAlone', WHERE WHAT IT READS IS OF BULK AT MOST 1048576: true; the input reads as it did. -/
def codeAloneUptoRow : OpenClaim := { program := "ytkpmhkoicdglbaadoor", sum := "7ec5443bde6e049ab3136fbe2669799656458fdf9a2173c7cf2ef6fae9b6201a", func := "warrant/warrantlaw02.CodeAlone", spec := "codeAlone", unfollowed := true, recurses := true, named := ["warrant/code.sizes", "warrant/code.joinings", "warrant/code.jumps"], apart := false, laid := [("warrant/code.sizes", laid_warrant_code_sizes), ("warrant/code.joinings", laid_warrant_code_joinings), ("warrant/code.jumps", laid_warrant_code_jumps)], narrowed := true }
def CodeAloneUptoSaid : Prop := codeAloneUptoRow.holds Tryd.pinned (OpenSpec.upto codeAloneSpec)

/-- 'warrantlaw02.CodeUnlike', WHERE WHAT IT READS IS OF BULK AT MOST 1048576: true; the input reads as it did. -/
def codeUnlikeUptoRow : OpenClaim := { program := "ytkpmhkoicdglbaadoor", sum := "7ec5443bde6e049ab3136fbe2669799656458fdf9a2173c7cf2ef6fae9b6201a", func := "warrant/warrantlaw02.CodeUnlike", spec := "codeUnlike", unfollowed := true, recurses := true, named := ["warrant/code.sizes", "warrant/code.joinings", "warrant/code.jumps"], apart := false, laid := [("warrant/code.sizes", laid_warrant_code_sizes), ("warrant/code.joinings", laid_warrant_code_joinings), ("warrant/code.jumps", laid_warrant_code_jumps)], narrowed := true }
def CodeUnlikeUptoSaid : Prop := codeUnlikeUptoRow.holds Tryd.pinned (OpenSpec.upto codeUnlikeSpec)

/-- 'warrantlaw02.CodeTurned', WHERE WHAT IT READS IS OF BULK AT MOST 1048576: true; the input reads as it did. -/
def codeTurnedUptoRow : OpenClaim := { program := "ytkpmhkoicdglbaadoor", sum := "7ec5443bde6e049ab3136fbe2669799656458fdf9a2173c7cf2ef6fae9b6201a", func := "warrant/warrantlaw02.CodeTurned", spec := "codeTurned", unfollowed := true, recurses := true, named := ["warrant/code.sizes", "warrant/code.joinings", "warrant/code.jumps"], apart := false, laid := [("warrant/code.sizes", laid_warrant_code_sizes), ("warrant/code.joinings", laid_warrant_code_joinings), ("warrant/code.jumps", laid_warrant_code_jumps)], narrowed := true }
def CodeTurnedUptoSaid : Prop := codeTurnedUptoRow.holds Tryd.pinned (OpenSpec.upto codeTurnedSpec)

end Rows
end Go.Proofs.YtkpmhkoicdglbaaDoor
