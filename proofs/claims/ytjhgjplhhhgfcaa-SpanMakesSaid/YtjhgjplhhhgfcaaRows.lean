/-
  No cell of these rows narrows 'for every input' (looked for: loops, veiled, ifaces, maps, wideKeys, modest, calm, conditions, laid).
  DERIVED. THE GIVEN ROWS OF THIS SEAT. 7 by the template 'for every input the law returns true; each argument reads behind the call as it read before'; 0 by the template 'total and deterministic' (their statements: YtjhgjplhhhgfcaaTotals.lean).
  GIVEN WITH THE SEED: the statements are not yours to turn. If you find one false, say at which input.
  Laid BY PROGRAM, IN A SANDBOX (cutbox-rows.mjs): the forced cells as the released guide's own fill.sh prints them over the translation 9b431a78180e043b… (all of the seat's roots in one cut). By AI agents, Wed Nov 11 2026. No macro, syntax, notation, axiom, sorry.
-/
import Derived.Test.YtjhgjplhhhgfcaaChecked
import GoSem.Claim
import GoSem.ClaimJoined
import GoSem.ClaimMapViews
import Derived.JoinedTies
import Derived.KernelRfl
namespace Go.Proofs.Ytjhgjplhhhgfcaa
/- THE CELL 'sum', in the pinned program and in every row, IS THE sha256 OF THE DUMP (.gsa) THAT YtjhgjplhhhgfcaaProg.lean LOADS. Nothing in Lean hashes anything: it is a label: what it is worth is what the hold of that sum in a sandbox is worth. -/
noncomputable def Try.pinned : Pinned := { name := "ytjhgjplhhhgfcaa", sum := "9b431a78180e043b5fd841cc36887bace2bbda147a6f2cc2ac1bd193756f6dbc", checked := Try.checked }
namespace Rows
def none {H : Type} : Left H := { results := [], args := [] }

/-- 'warrantlaw06.SpanNames': WHATEVER THE INPUT: true; the input reads as it did. -/
def spanNamesSpec : ChangeSpec := { name := "spanNames", fn := fun _ => fun
  | [] => { results := [.lit (.bool true)], args := [] }
  | _ => none }
def spanNamesRow : OpenClaim := { program := "ytjhgjplhhhgfcaa", sum := "9b431a78180e043b5fd841cc36887bace2bbda147a6f2cc2ac1bd193756f6dbc", func := "warrant/warrantlaw06.SpanNames", spec := "spanNames", unfollowed := true, recurses := true, apart := false }
def SpanNamesSaid : Prop := spanNamesRow.holds Try.pinned (OpenSpec.ofChange spanNamesSpec)

/-- ITS FALSE NEIGHBOUR: 'it returns false'. Refute it at one input. -/
def spanNamesWrong : ChangeSpec := { name := "spanNames", fn := fun _ => fun
  | [] => { results := [.lit (.bool false)], args := [] }
  | _ => none }
def SpanNamesWrongFalsely : Prop := spanNamesRow.holds Try.pinned (OpenSpec.ofChange spanNamesWrong)

/-- 'warrantlaw06.SpanMakes': WHATEVER THE INPUT: true; the input reads as it did. -/
def spanMakesSpec : ChangeSpec := { name := "spanMakes", fn := fun _ => fun
  | [d1, d2, d3, d4, d5] => { results := [.lit (.bool true)], args := [d1, d2, d3, d4, d5] }
  | _ => none }
def spanMakesRow : OpenClaim := { program := "ytjhgjplhhhgfcaa", sum := "9b431a78180e043b5fd841cc36887bace2bbda147a6f2cc2ac1bd193756f6dbc", func := "warrant/warrantlaw06.SpanMakes", spec := "spanMakes", apart := false }
def SpanMakesSaid : Prop := spanMakesRow.holds Try.pinned (OpenSpec.ofChange spanMakesSpec)

/-- ITS FALSE NEIGHBOUR: 'it returns false'. Refute it at one input. -/
def spanMakesWrong : ChangeSpec := { name := "spanMakes", fn := fun _ => fun
  | [d1, d2, d3, d4, d5] => { results := [.lit (.bool false)], args := [d1, d2, d3, d4, d5] }
  | _ => none }
def SpanMakesWrongFalsely : Prop := spanMakesRow.holds Try.pinned (OpenSpec.ofChange spanMakesWrong)

/-- 'warrantlaw06.SpanHolds': WHATEVER THE INPUT: true; the input reads as it did. -/
def spanHoldsSpec : ChangeSpec := { name := "spanHolds", fn := fun _ => fun
  | [d1, d2, d3, d4, d5, d6] => { results := [.lit (.bool true)], args := [d1, d2, d3, d4, d5, d6] }
  | _ => none }
def spanHoldsRow : OpenClaim := { program := "ytjhgjplhhhgfcaa", sum := "9b431a78180e043b5fd841cc36887bace2bbda147a6f2cc2ac1bd193756f6dbc", func := "warrant/warrantlaw06.SpanHolds", spec := "spanHolds", unfollowed := true, recurses := true, apart := false }
def SpanHoldsSaid : Prop := spanHoldsRow.holds Try.pinned (OpenSpec.ofChange spanHoldsSpec)

/-- ITS FALSE NEIGHBOUR: 'it returns false'. Refute it at one input. -/
def spanHoldsWrong : ChangeSpec := { name := "spanHolds", fn := fun _ => fun
  | [d1, d2, d3, d4, d5, d6] => { results := [.lit (.bool false)], args := [d1, d2, d3, d4, d5, d6] }
  | _ => none }
def SpanHoldsWrongFalsely : Prop := spanHoldsRow.holds Try.pinned (OpenSpec.ofChange spanHoldsWrong)

/-- 'warrantlaw06.SpanTurned': WHATEVER THE INPUT: true; the input reads as it did. -/
def spanTurnedSpec : ChangeSpec := { name := "spanTurned", fn := fun _ => fun
  | [d1, d2, d3, d4] => { results := [.lit (.bool true)], args := [d1, d2, d3, d4] }
  | _ => none }
def spanTurnedRow : OpenClaim := { program := "ytjhgjplhhhgfcaa", sum := "9b431a78180e043b5fd841cc36887bace2bbda147a6f2cc2ac1bd193756f6dbc", func := "warrant/warrantlaw06.SpanTurned", spec := "spanTurned", unfollowed := true, recurses := true, apart := false }
def SpanTurnedSaid : Prop := spanTurnedRow.holds Try.pinned (OpenSpec.ofChange spanTurnedSpec)

/-- ITS FALSE NEIGHBOUR: 'it returns false'. Refute it at one input. -/
def spanTurnedWrong : ChangeSpec := { name := "spanTurned", fn := fun _ => fun
  | [d1, d2, d3, d4] => { results := [.lit (.bool false)], args := [d1, d2, d3, d4] }
  | _ => none }
def SpanTurnedWrongFalsely : Prop := spanTurnedRow.holds Try.pinned (OpenSpec.ofChange spanTurnedWrong)

/-- 'warrantlaw06.SpanZeros': WHATEVER THE INPUT: true; the input reads as it did. -/
def spanZerosSpec : ChangeSpec := { name := "spanZeros", fn := fun _ => fun
  | [d1, d2, d3] => { results := [.lit (.bool true)], args := [d1, d2, d3] }
  | _ => none }
def spanZerosRow : OpenClaim := { program := "ytjhgjplhhhgfcaa", sum := "9b431a78180e043b5fd841cc36887bace2bbda147a6f2cc2ac1bd193756f6dbc", func := "warrant/warrantlaw06.SpanZeros", spec := "spanZeros", unfollowed := true, recurses := true, apart := false }
def SpanZerosSaid : Prop := spanZerosRow.holds Try.pinned (OpenSpec.ofChange spanZerosSpec)

/-- ITS FALSE NEIGHBOUR: 'it returns false'. Refute it at one input. -/
def spanZerosWrong : ChangeSpec := { name := "spanZeros", fn := fun _ => fun
  | [d1, d2, d3] => { results := [.lit (.bool false)], args := [d1, d2, d3] }
  | _ => none }
def SpanZerosWrongFalsely : Prop := spanZerosRow.holds Try.pinned (OpenSpec.ofChange spanZerosWrong)

/-- 'warrantlaw06.SpanSingle': WHATEVER THE INPUT: true; the input reads as it did. -/
def spanSingleSpec : ChangeSpec := { name := "spanSingle", fn := fun _ => fun
  | [d1, d2, d3, d4] => { results := [.lit (.bool true)], args := [d1, d2, d3, d4] }
  | _ => none }
def spanSingleRow : OpenClaim := { program := "ytjhgjplhhhgfcaa", sum := "9b431a78180e043b5fd841cc36887bace2bbda147a6f2cc2ac1bd193756f6dbc", func := "warrant/warrantlaw06.SpanSingle", spec := "spanSingle", unfollowed := true, recurses := true, apart := false }
def SpanSingleSaid : Prop := spanSingleRow.holds Try.pinned (OpenSpec.ofChange spanSingleSpec)

/-- ITS FALSE NEIGHBOUR: 'it returns false'. Refute it at one input. -/
def spanSingleWrong : ChangeSpec := { name := "spanSingle", fn := fun _ => fun
  | [d1, d2, d3, d4] => { results := [.lit (.bool false)], args := [d1, d2, d3, d4] }
  | _ => none }
def SpanSingleWrongFalsely : Prop := spanSingleRow.holds Try.pinned (OpenSpec.ofChange spanSingleWrong)

/-- 'warrantlaw06.SpanLoads': WHATEVER THE INPUT: true; the input reads as it did. -/
def spanLoadsSpec : ChangeSpec := { name := "spanLoads", fn := fun _ => fun
  | [d1, d2] => { results := [.lit (.bool true)], args := [d1, d2] }
  | _ => none }
def spanLoadsRow : OpenClaim := { program := "ytjhgjplhhhgfcaa", sum := "9b431a78180e043b5fd841cc36887bace2bbda147a6f2cc2ac1bd193756f6dbc", func := "warrant/warrantlaw06.SpanLoads", spec := "spanLoads", unfollowed := true, recurses := true, apart := false }
def SpanLoadsSaid : Prop := spanLoadsRow.holds Try.pinned (OpenSpec.ofChange spanLoadsSpec)

/-- ITS FALSE NEIGHBOUR: 'it returns false'. Refute it at one input. -/
def spanLoadsWrong : ChangeSpec := { name := "spanLoads", fn := fun _ => fun
  | [d1, d2] => { results := [.lit (.bool false)], args := [d1, d2] }
  | _ => none }
def SpanLoadsWrongFalsely : Prop := spanLoadsRow.holds Try.pinned (OpenSpec.ofChange spanLoadsWrong)

/- THE SECOND FORM. 'bulk': how many values and letters a reading holds, each counted each time it is reached (what is shared counts as often as it is met; a slice's spare places count too). A statement '..UptoSaid' is the law's where the arguments, and the package variables that the reading takes, are together of bulk at most 1048576: NARROWER than '..Said'. Prove '..Said' where nothing that the law and all that it calls make is longer than what came in: it says more and counts as full. Else prove '..UptoSaid'. A law counts once. -/
mutual
def uptoBulk {H : Type} : DataW H → Nat
  | .lit (.string bytes) => bytes.length + 1
  | .lit _ => 1
  | .nil => 1
  | .ptr d => uptoBulk d + 1
  | .slice elems spare => uptoBulkAll elems + uptoBulkAll spare + 1
  | .agg parts => uptoBulkAll parts + 1
  | .iface _ d => uptoBulk d + 1
  | .map entries => uptoBulkEntries entries + 1
  | .held _ => 1
def uptoBulkAll {H : Type} : List (DataW H) → Nat
  | [] => 0
  | d :: r => uptoBulk d + uptoBulkAll r
def uptoBulkEntries {H : Type} : List (Lit × DataW H) → Nat
  | [] => 0
  | x :: r => uptoBulkEntry x + uptoBulkEntries r
def uptoBulkEntry {H : Type} : Lit × DataW H → Nat
  | (.string bytes, d) => bytes.length + uptoBulk d + 1
  | (_, d) => uptoBulk d + 1
 end
def uptoSmall : (H : Type) → List (DataW H) → Bool := fun _ ds => decide (uptoBulkAll ds ≤ 1048576)
def OpenSpec.upto (s : _root_.Go.ChangeSpec) : _root_.Go.OpenSpec := { _root_.Go.OpenSpec.ofChange s with cond := some uptoSmall }

/-- 'warrantlaw06.SpanNames', WHERE WHAT IT READS IS OF BULK AT MOST 1048576: true; the input reads as it did. -/
def spanNamesUptoRow : OpenClaim := { program := "ytjhgjplhhhgfcaa", sum := "9b431a78180e043b5fd841cc36887bace2bbda147a6f2cc2ac1bd193756f6dbc", func := "warrant/warrantlaw06.SpanNames", spec := "spanNames", unfollowed := true, recurses := true, apart := false, narrowed := true }
def SpanNamesUptoSaid : Prop := spanNamesUptoRow.holds Try.pinned (OpenSpec.upto spanNamesSpec)

/-- 'warrantlaw06.SpanMakes', WHERE WHAT IT READS IS OF BULK AT MOST 1048576: true; the input reads as it did. -/
def spanMakesUptoRow : OpenClaim := { program := "ytjhgjplhhhgfcaa", sum := "9b431a78180e043b5fd841cc36887bace2bbda147a6f2cc2ac1bd193756f6dbc", func := "warrant/warrantlaw06.SpanMakes", spec := "spanMakes", apart := false, narrowed := true }
def SpanMakesUptoSaid : Prop := spanMakesUptoRow.holds Try.pinned (OpenSpec.upto spanMakesSpec)

/-- 'warrantlaw06.SpanHolds', WHERE WHAT IT READS IS OF BULK AT MOST 1048576: true; the input reads as it did. -/
def spanHoldsUptoRow : OpenClaim := { program := "ytjhgjplhhhgfcaa", sum := "9b431a78180e043b5fd841cc36887bace2bbda147a6f2cc2ac1bd193756f6dbc", func := "warrant/warrantlaw06.SpanHolds", spec := "spanHolds", unfollowed := true, recurses := true, apart := false, narrowed := true }
def SpanHoldsUptoSaid : Prop := spanHoldsUptoRow.holds Try.pinned (OpenSpec.upto spanHoldsSpec)

/-- 'warrantlaw06.SpanTurned', WHERE WHAT IT READS IS OF BULK AT MOST 1048576: true; the input reads as it did. -/
def spanTurnedUptoRow : OpenClaim := { program := "ytjhgjplhhhgfcaa", sum := "9b431a78180e043b5fd841cc36887bace2bbda147a6f2cc2ac1bd193756f6dbc", func := "warrant/warrantlaw06.SpanTurned", spec := "spanTurned", unfollowed := true, recurses := true, apart := false, narrowed := true }
def SpanTurnedUptoSaid : Prop := spanTurnedUptoRow.holds Try.pinned (OpenSpec.upto spanTurnedSpec)

/-- 'warrantlaw06.SpanZeros', WHERE WHAT IT READS IS OF BULK AT MOST 1048576: true; the input reads as it did. -/
def spanZerosUptoRow : OpenClaim := { program := "ytjhgjplhhhgfcaa", sum := "9b431a78180e043b5fd841cc36887bace2bbda147a6f2cc2ac1bd193756f6dbc", func := "warrant/warrantlaw06.SpanZeros", spec := "spanZeros", unfollowed := true, recurses := true, apart := false, narrowed := true }
def SpanZerosUptoSaid : Prop := spanZerosUptoRow.holds Try.pinned (OpenSpec.upto spanZerosSpec)

/-- 'warrantlaw06.SpanSingle', WHERE WHAT IT READS IS OF BULK AT MOST 1048576: true; the input reads as it did. -/
def spanSingleUptoRow : OpenClaim := { program := "ytjhgjplhhhgfcaa", sum := "9b431a78180e043b5fd841cc36887bace2bbda147a6f2cc2ac1bd193756f6dbc", func := "warrant/warrantlaw06.SpanSingle", spec := "spanSingle", unfollowed := true, recurses := true, apart := false, narrowed := true }
def SpanSingleUptoSaid : Prop := spanSingleUptoRow.holds Try.pinned (OpenSpec.upto spanSingleSpec)

/-- 'warrantlaw06.SpanLoads', WHERE WHAT IT READS IS OF BULK AT MOST 1048576: true; the input reads as it did. -/
def spanLoadsUptoRow : OpenClaim := { program := "ytjhgjplhhhgfcaa", sum := "9b431a78180e043b5fd841cc36887bace2bbda147a6f2cc2ac1bd193756f6dbc", func := "warrant/warrantlaw06.SpanLoads", spec := "spanLoads", unfollowed := true, recurses := true, apart := false, narrowed := true }
def SpanLoadsUptoSaid : Prop := spanLoadsUptoRow.holds Try.pinned (OpenSpec.upto spanLoadsSpec)

end Rows
end Go.Proofs.Ytjhgjplhhhgfcaa
