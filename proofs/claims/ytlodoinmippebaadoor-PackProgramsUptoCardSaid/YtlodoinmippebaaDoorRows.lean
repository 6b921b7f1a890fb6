/-
  NARROWER THAN 'FOR EVERY INPUT', by the rows' own cells (each row's printed sentence says how): PackPrograms: laid · PackOfs: laid · PackFaithful: laid · PackAgain: laid · PackRefuses: laid.
  DERIVED. THE GIVEN ROWS OF THIS SEAT. 5 by the template 'for every input the law returns true; each argument reads behind the call as it read before'; 0 by the template 'total and deterministic' (their statements: YtlodoinmippebaaDoorTotals.lean).
  GIVEN WITH THE SEED: the statements are not yours to turn. If you find one false, say at which input.
  Laid BY PROGRAM, IN A SANDBOX (cutbox-rows.mjs): the forced cells as the released guide's own fill.sh prints them over the translation e84809203181dd7d… (all of the seat's roots in one cut). By AI agents, Wed Nov 11 2026. No macro, syntax, notation, axiom, sorry.
-/
import Derived.Test.YtlodoinmippebaaDoorChecked
import GoSem.Claim
import GoSem.ClaimJoined
import GoSem.ClaimMapViews
import Derived.JoinedTies
import Derived.KernelRfl
namespace Go.Proofs.YtlodoinmippebaaDoor
/- THE CELL 'sum', in the pinned program and in every row, IS THE sha256 OF THE DUMP (.gsa) THAT YtlodoinmippebaaDoorProg.lean LOADS. Nothing in Lean hashes anything: it is a label: what it is worth is what the hold of that sum in a sandbox is worth. -/
noncomputable def Tryd.pinned : Pinned := { name := "ytlodoinmippebaadoor", sum := "e84809203181dd7dace3d738bdc38fefd1ed61b143b7bf5732c729d68c51bfdf", checked := Tryd.checked }
namespace Rows
def none {H : Type} : Left H := { results := [], args := [] }

/- WHAT THE LISTED PACKAGE-LEVEL VARIABLES READ AS WHEN THE CALL BEGINS. Each datum BY PROGRAM (the guide's laid-datum.mjs) off the statement by which the dump's own 'gosem.cut.vars' lays the variable. In a bare row this is a premise. The card (YtlodoinmippebaaDoorCards.lean) ties it to the program's text. -/
def laid_warrant_code_sizes {H : Type} : DataW H := .agg [.lit (.int .i64 4), .lit (.int .i64 2), .lit (.int .i64 1), .lit (.int .i64 8)]
def laid_warrant_code_joinings {H : Type} : DataW H := .agg [.lit (.int .i64 1), .lit (.int .i64 2), .lit (.int .i64 3), .lit (.int .i64 4), .lit (.int .i64 8), .lit (.int .i64 9), .lit (.int .i64 11), .lit (.int .i64 12), .lit (.int .i64 14), .lit (.int .i64 5), .lit (.int .i64 10), .lit (.int .i64 15), .lit (.int .i64 13)]
def laid_warrant_code_jumps {H : Type} : DataW H := .agg [.lit (.int .i64 26), .lit (.int .i64 27), .lit (.int .i64 29), .lit (.int .i64 30), .lit (.int .i64 37), .lit (.int .i64 28), .lit (.int .i64 33), .lit (.int .i64 34), .lit (.int .i64 38), .lit (.int .i64 39), .lit (.int .i64 31), .lit (.int .i64 32), .lit (.int .i64 35), .lit (.int .i64 36)]

/-- 'warrantlaw12.PackPrograms': WHATEVER THE INPUT: true; the input reads as it did. -/
def packProgramsSpec : ChangeSpec := { name := "packPrograms", fn := fun _ => fun
  | [d] => { results := [.lit (.bool true)], args := [d] }
  | _ => none }
def packProgramsRow : OpenClaim := { program := "ytlodoinmippebaadoor", sum := "e84809203181dd7dace3d738bdc38fefd1ed61b143b7bf5732c729d68c51bfdf", func := "warrant/warrantlaw12.PackPrograms", spec := "packPrograms", unfollowed := true, recurses := true, named := ["warrant/code.joinings", "warrant/code.jumps", "warrant/code.sizes"], apart := false, laid := [("warrant/code.sizes", laid_warrant_code_sizes), ("warrant/code.joinings", laid_warrant_code_joinings), ("warrant/code.jumps", laid_warrant_code_jumps)] }
def PackProgramsSaid : Prop := packProgramsRow.holds Tryd.pinned (OpenSpec.ofChange packProgramsSpec)

/-- ITS FALSE NEIGHBOUR: 'it returns false'. Refute it at one input. -/
def packProgramsWrong : ChangeSpec := { name := "packPrograms", fn := fun _ => fun
  | [d] => { results := [.lit (.bool false)], args := [d] }
  | _ => none }
def PackProgramsWrongFalsely : Prop := packProgramsRow.holds Tryd.pinned (OpenSpec.ofChange packProgramsWrong)

/-- 'warrantlaw12.PackOfs': WHATEVER THE INPUT: true; the input reads as it did. -/
def packOfsSpec : ChangeSpec := { name := "packOfs", fn := fun _ => fun
  | [d] => { results := [.lit (.bool true)], args := [d] }
  | _ => none }
def packOfsRow : OpenClaim := { program := "ytlodoinmippebaadoor", sum := "e84809203181dd7dace3d738bdc38fefd1ed61b143b7bf5732c729d68c51bfdf", func := "warrant/warrantlaw12.PackOfs", spec := "packOfs", unfollowed := true, recurses := true, named := ["warrant/code.sizes", "warrant/code.joinings", "warrant/code.jumps"], apart := false, laid := [("warrant/code.sizes", laid_warrant_code_sizes), ("warrant/code.joinings", laid_warrant_code_joinings), ("warrant/code.jumps", laid_warrant_code_jumps)] }
def PackOfsSaid : Prop := packOfsRow.holds Tryd.pinned (OpenSpec.ofChange packOfsSpec)

/-- ITS FALSE NEIGHBOUR: 'it returns false'. Refute it at one input. -/
def packOfsWrong : ChangeSpec := { name := "packOfs", fn := fun _ => fun
  | [d] => { results := [.lit (.bool false)], args := [d] }
  | _ => none }
def PackOfsWrongFalsely : Prop := packOfsRow.holds Tryd.pinned (OpenSpec.ofChange packOfsWrong)

/-- 'warrantlaw12.PackFaithful': WHATEVER THE INPUT: true; the input reads as it did. -/
def packFaithfulSpec : ChangeSpec := { name := "packFaithful", fn := fun _ => fun
  | [d] => { results := [.lit (.bool true)], args := [d] }
  | _ => none }
def packFaithfulRow : OpenClaim := { program := "ytlodoinmippebaadoor", sum := "e84809203181dd7dace3d738bdc38fefd1ed61b143b7bf5732c729d68c51bfdf", func := "warrant/warrantlaw12.PackFaithful", spec := "packFaithful", unfollowed := true, recurses := true, named := ["warrant/code.joinings", "warrant/code.jumps", "warrant/code.sizes"], apart := false, laid := [("warrant/code.sizes", laid_warrant_code_sizes), ("warrant/code.joinings", laid_warrant_code_joinings), ("warrant/code.jumps", laid_warrant_code_jumps)] }
def PackFaithfulSaid : Prop := packFaithfulRow.holds Tryd.pinned (OpenSpec.ofChange packFaithfulSpec)

/-- ITS FALSE NEIGHBOUR: 'it returns false'. Refute it at one input. -/
def packFaithfulWrong : ChangeSpec := { name := "packFaithful", fn := fun _ => fun
  | [d] => { results := [.lit (.bool false)], args := [d] }
  | _ => none }
def PackFaithfulWrongFalsely : Prop := packFaithfulRow.holds Tryd.pinned (OpenSpec.ofChange packFaithfulWrong)

/-- 'warrantlaw12.PackAgain': WHATEVER THE INPUT: true; the input reads as it did. -/
def packAgainSpec : ChangeSpec := { name := "packAgain", fn := fun _ => fun
  | [d] => { results := [.lit (.bool true)], args := [d] }
  | _ => none }
def packAgainRow : OpenClaim := { program := "ytlodoinmippebaadoor", sum := "e84809203181dd7dace3d738bdc38fefd1ed61b143b7bf5732c729d68c51bfdf", func := "warrant/warrantlaw12.PackAgain", spec := "packAgain", unfollowed := true, recurses := true, named := ["warrant/code.sizes", "warrant/code.joinings", "warrant/code.jumps"], apart := false, laid := [("warrant/code.sizes", laid_warrant_code_sizes), ("warrant/code.joinings", laid_warrant_code_joinings), ("warrant/code.jumps", laid_warrant_code_jumps)] }
def PackAgainSaid : Prop := packAgainRow.holds Tryd.pinned (OpenSpec.ofChange packAgainSpec)

/-- ITS FALSE NEIGHBOUR: 'it returns false'. Refute it at one input. -/
def packAgainWrong : ChangeSpec := { name := "packAgain", fn := fun _ => fun
  | [d] => { results := [.lit (.bool false)], args := [d] }
  | _ => none }
def PackAgainWrongFalsely : Prop := packAgainRow.holds Tryd.pinned (OpenSpec.ofChange packAgainWrong)

/-- 'warrantlaw12.PackRefuses': WHATEVER THE INPUT: true; the input reads as it did. -/
def packRefusesSpec : ChangeSpec := { name := "packRefuses", fn := fun _ => fun
  | [d1, d2, d3] => { results := [.lit (.bool true)], args := [d1, d2, d3] }
  | _ => none }
def packRefusesRow : OpenClaim := { program := "ytlodoinmippebaadoor", sum := "e84809203181dd7dace3d738bdc38fefd1ed61b143b7bf5732c729d68c51bfdf", func := "warrant/warrantlaw12.PackRefuses", spec := "packRefuses", unfollowed := true, recurses := true, named := ["warrant/code.sizes", "warrant/code.joinings", "warrant/code.jumps"], apart := false, laid := [("warrant/code.sizes", laid_warrant_code_sizes), ("warrant/code.joinings", laid_warrant_code_joinings), ("warrant/code.jumps", laid_warrant_code_jumps)] }
def PackRefusesSaid : Prop := packRefusesRow.holds Tryd.pinned (OpenSpec.ofChange packRefusesSpec)

/-- ITS FALSE NEIGHBOUR: 'it returns false'. Refute it at one input. -/
def packRefusesWrong : ChangeSpec := { name := "packRefuses", fn := fun _ => fun
  | [d1, d2, d3] => { results := [.lit (.bool false)], args := [d1, d2, d3] }
  | _ => none }
def PackRefusesWrongFalsely : Prop := packRefusesRow.holds Tryd.pinned (OpenSpec.ofChange packRefusesWrong)

/- THE SECOND FORM. 'bulk': how many values and letters a reading holds, each counted each time it is reached (what is shared counts as often as it is met; a slice's spare places count too). A statement '..UptoSaid' is the law's where the arguments, and the package variables that the reading takes, are together of bulk at most 1048576: NARROWER than '..Said'. Prove '..Said' where nothing that the law and all that it calls make is longer than what came in: it says more and counts as full. Else prove '..UptoSaid'. A law counts once. -/
mutual
def uptoBulk {H : Type} : DataW H → Nat
  | .lit (.string bytes) => bytes.length + 1
  | .lit _ => 1
  | .nil => 1
  | .ptr d => uptoBulk d + 1
  | .slice elems spare => uptoBulkAll elems + uptoBulkAll spare + 1
  | .agg parts => uptoBulkAll parts + 1
  | .iface _ d => uptoBulk d + 1
  | .map entries => uptoBulkEntries entries + 1
  | .held _ => 1
def uptoBulkAll {H : Type} : List (DataW H) → Nat
  | [] => 0
  | d :: r => uptoBulk d + uptoBulkAll r
def uptoBulkEntries {H : Type} : List (Lit × DataW H) → Nat
  | [] => 0
  | x :: r => uptoBulkEntry x + uptoBulkEntries r
def uptoBulkEntry {H : Type} : Lit × DataW H → Nat
  | (.string bytes, d) => bytes.length + uptoBulk d + 1
  | (_, d) => uptoBulk d + 1
 end
def uptoSmall : (H : Type) → List (DataW H) → Bool := fun _ ds => decide (uptoBulkAll ds ≤ 1048576)
def OpenSpec.upto (s : _root_.Go.ChangeSpec) : _root_.Go.OpenSpec := { _root_.Go.OpenSpec.ofChange s with cond := some uptoSmall }

/-- 'warrantlaw12.PackPrograms', WHERE WHAT IT READS IS OF BULK AT MOST 1048576: true; the input reads as it did. -/
def packProgramsUptoRow : OpenClaim := { program := "ytlodoinmippebaadoor", sum := "e84809203181dd7dace3d738bdc38fefd1ed61b143b7bf5732c729d68c51bfdf", func := "warrant/warrantlaw12.PackPrograms", spec := "packPrograms", unfollowed := true, recurses := true, named := ["warrant/code.joinings", "warrant/code.jumps", "warrant/code.sizes"], apart := false, laid := [("warrant/code.sizes", laid_warrant_code_sizes), ("warrant/code.joinings", laid_warrant_code_joinings), ("warrant/code.jumps", laid_warrant_code_jumps)], narrowed := true }
def PackProgramsUptoSaid : Prop := packProgramsUptoRow.holds Tryd.pinned (OpenSpec.upto packProgramsSpec)

/-- 'warrantlaw12.PackOfs', WHERE WHAT IT READS IS OF BULK AT MOST 1048576: true; the input reads as it did. -/
def packOfsUptoRow : OpenClaim := { program := "ytlodoinmippebaadoor", sum := "e84809203181dd7dace3d738bdc38fefd1ed61b143b7bf5732c729d68c51bfdf", func := "warrant/warrantlaw12.PackOfs", spec := "packOfs", unfollowed := true, recurses := true, named := ["warrant/code.sizes", "warrant/code.joinings", "warrant/code.jumps"], apart := false, laid := [("warrant/code.sizes", laid_warrant_code_sizes), ("warrant/code.joinings", laid_warrant_code_joinings), ("warrant/code.jumps", laid_warrant_code_jumps)], narrowed := true }
def PackOfsUptoSaid : Prop := packOfsUptoRow.holds Tryd.pinned (OpenSpec.upto packOfsSpec)

/-- 'warrantlaw12.PackFaithful', WHERE WHAT IT READS IS OF BULK AT MOST 1048576: true; the input reads as it did. -/
def packFaithfulUptoRow : OpenClaim := { program := "ytlodoinmippebaadoor", sum := "e84809203181dd7dace3d738bdc38fefd1ed61b143b7bf5732c729d68c51bfdf", func := "warrant/warrantlaw12.PackFaithful", spec := "packFaithful", unfollowed := true, recurses := true, named := ["warrant/code.joinings", "warrant/code.jumps", "warrant/code.sizes"], apart := false, laid := [("warrant/code.sizes", laid_warrant_code_sizes), ("warrant/code.joinings", laid_warrant_code_joinings), ("warrant/code.jumps", laid_warrant_code_jumps)], narrowed := true }
def PackFaithfulUptoSaid : Prop := packFaithfulUptoRow.holds Tryd.pinned (OpenSpec.upto packFaithfulSpec)

/-- 'warrantlaw12.PackAgain', WHERE WHAT IT READS IS OF BULK AT MOST 1048576: true; the input reads as it did. -/
def packAgainUptoRow : OpenClaim := { program := "ytlodoinmippebaadoor", sum := "e84809203181dd7dace3d738bdc38fefd1ed61b143b7bf5732c729d68c51bfdf", func := "warrant/warrantlaw12.PackAgain", spec := "packAgain", unfollowed := true, recurses := true, named := ["warrant/code.sizes", "warrant/code.joinings", "warrant/code.jumps"], apart := false, laid := [("warrant/code.sizes", laid_warrant_code_sizes), ("warrant/code.joinings", laid_warrant_code_joinings), ("warrant/code.jumps", laid_warrant_code_jumps)], narrowed := true }
def PackAgainUptoSaid : Prop := packAgainUptoRow.holds Tryd.pinned (OpenSpec.upto packAgainSpec)

/-- 'warrantlaw12.PackRefuses', WHERE WHAT IT READS IS OF BULK AT MOST 1048576: true; the input reads as it did. -/
def packRefusesUptoRow : OpenClaim := { program := "ytlodoinmippebaadoor", sum := "e84809203181dd7dace3d738bdc38fefd1ed61b143b7bf5732c729d68c51bfdf", func := "warrant/warrantlaw12.PackRefuses", spec := "packRefuses", unfollowed := true, recurses := true, named := ["warrant/code.sizes", "warrant/code.joinings", "warrant/code.jumps"], apart := false, laid := [("warrant/code.sizes", laid_warrant_code_sizes), ("warrant/code.joinings", laid_warrant_code_joinings), ("warrant/code.jumps", laid_warrant_code_jumps)], narrowed := true }
def PackRefusesUptoSaid : Prop := packRefusesUptoRow.holds Tryd.pinned (OpenSpec.upto packRefusesSpec)

end Rows
end Go.Proofs.YtlodoinmippebaaDoor
