/-
  No cell of these rows narrows 'for every input' (looked for: loops, veiled, ifaces, maps, wideKeys, modest, calm, conditions, laid).
  DERIVED. THE GIVEN ROWS OF THIS SEAT. 3 by the template 'for every input the law returns true; each argument reads behind the call as it read before'; 0 by the template 'total and deterministic' (their statements: YtejcijbohnlbgaaTotals.lean).
  GIVEN WITH THE SEED: the statements are not yours to turn. If you find one false, say at which input.
  Laid BY PROGRAM, IN A SANDBOX (cutbox-rows.mjs): the forced cells as the released guide's own fill.sh prints them over the translation a239d7d7498da6df… (all of the seat's roots in one cut). By AI agents, Wed Nov 11 2026. No macro, syntax, notation, axiom, sorry.
-/
import Derived.Test.YtejcijbohnlbgaaChecked
import GoSem.Claim
import GoSem.ClaimJoined
import GoSem.ClaimMapViews
import Derived.JoinedTies
import Derived.KernelRfl
namespace Go.Proofs.Ytejcijbohnlbgaa
/- THE CELL 'sum', in the pinned program and in every row, IS THE sha256 OF THE DUMP (.gsa) THAT YtejcijbohnlbgaaProg.lean LOADS. Nothing in Lean hashes anything: it is a label: what it is worth is what the hold of that sum in a sandbox is worth. -/
noncomputable def Try.pinned : Pinned := { name := "ytejcijbohnlbgaa", sum := "a239d7d7498da6dff1cc7befe46dfd46cdca7253b056209d2487e127a3be9038", checked := Try.checked }
namespace Rows
def none {H : Type} : Left H := { results := [], args := [] }

/-- 'warrantlaw05.ZoneKept': WHATEVER THE INPUT: true; the input reads as it did. -/
def zoneKeptSpec : ChangeSpec := { name := "zoneKept", fn := fun _ => fun
  | [d1, d2, d3] => { results := [.lit (.bool true)], args := [d1, d2, d3] }
  | _ => none }
def zoneKeptRow : OpenClaim := { program := "ytejcijbohnlbgaa", sum := "a239d7d7498da6dff1cc7befe46dfd46cdca7253b056209d2487e127a3be9038", func := "warrant/warrantlaw05.ZoneKept", spec := "zoneKept", unfollowed := true, recurses := true, apart := false }
def ZoneKeptSaid : Prop := zoneKeptRow.holds Try.pinned (OpenSpec.ofChange zoneKeptSpec)

/-- ITS FALSE NEIGHBOUR: 'it returns false'. Refute it at one input. -/
def zoneKeptWrong : ChangeSpec := { name := "zoneKept", fn := fun _ => fun
  | [d1, d2, d3] => { results := [.lit (.bool false)], args := [d1, d2, d3] }
  | _ => none }
def ZoneKeptWrongFalsely : Prop := zoneKeptRow.holds Try.pinned (OpenSpec.ofChange zoneKeptWrong)

/-- 'warrantlaw09.ShapeNames': WHATEVER THE INPUT: true; the input reads as it did. -/
def shapeNamesSpec : ChangeSpec := { name := "shapeNames", fn := fun _ => fun
  | [] => { results := [.lit (.bool true)], args := [] }
  | _ => none }
def shapeNamesRow : OpenClaim := { program := "ytejcijbohnlbgaa", sum := "a239d7d7498da6dff1cc7befe46dfd46cdca7253b056209d2487e127a3be9038", func := "warrant/warrantlaw09.ShapeNames", spec := "shapeNames", unfollowed := true, recurses := true, apart := false }
def ShapeNamesSaid : Prop := shapeNamesRow.holds Try.pinned (OpenSpec.ofChange shapeNamesSpec)

/-- ITS FALSE NEIGHBOUR: 'it returns false'. Refute it at one input. -/
def shapeNamesWrong : ChangeSpec := { name := "shapeNames", fn := fun _ => fun
  | [] => { results := [.lit (.bool false)], args := [] }
  | _ => none }
def ShapeNamesWrongFalsely : Prop := shapeNamesRow.holds Try.pinned (OpenSpec.ofChange shapeNamesWrong)

/-- 'warrantlaw09.ShapeBegins': WHATEVER THE INPUT: true; the input reads as it did. -/
def shapeBeginsSpec : ChangeSpec := { name := "shapeBegins", fn := fun _ => fun
  | [d1, d2, d3, d4] => { results := [.lit (.bool true)], args := [d1, d2, d3, d4] }
  | _ => none }
def shapeBeginsRow : OpenClaim := { program := "ytejcijbohnlbgaa", sum := "a239d7d7498da6dff1cc7befe46dfd46cdca7253b056209d2487e127a3be9038", func := "warrant/warrantlaw09.ShapeBegins", spec := "shapeBegins", unfollowed := true, recurses := true, apart := false }
def ShapeBeginsSaid : Prop := shapeBeginsRow.holds Try.pinned (OpenSpec.ofChange shapeBeginsSpec)

/-- ITS FALSE NEIGHBOUR: 'it returns false'. Refute it at one input. -/
def shapeBeginsWrong : ChangeSpec := { name := "shapeBegins", fn := fun _ => fun
  | [d1, d2, d3, d4] => { results := [.lit (.bool false)], args := [d1, d2, d3, d4] }
  | _ => none }
def ShapeBeginsWrongFalsely : Prop := shapeBeginsRow.holds Try.pinned (OpenSpec.ofChange shapeBeginsWrong)

/- THE SECOND FORM. 'bulk': how many values and letters a reading holds, each counted each time it is reached (what is shared counts as often as it is met; a slice's spare places count too). A statement '..UptoSaid' is the law's where the arguments, and the package variables that the reading takes, are together of bulk at most 1048576: NARROWER than '..Said'. Prove '..Said' where nothing that the law and all that it calls make is longer than what came in: it says more and counts as full. Else prove '..UptoSaid'. A law counts once. -/
mutual
def uptoBulk {H : Type} : DataW H → Nat
  | .lit (.string bytes) => bytes.length + 1
  | .lit _ => 1
  | .nil => 1
  | .ptr d => uptoBulk d + 1
  | .slice elems spare => uptoBulkAll elems + uptoBulkAll spare + 1
  | .agg parts => uptoBulkAll parts + 1
  | .iface _ d => uptoBulk d + 1
  | .map entries => uptoBulkEntries entries + 1
  | .held _ => 1
def uptoBulkAll {H : Type} : List (DataW H) → Nat
  | [] => 0
  | d :: r => uptoBulk d + uptoBulkAll r
def uptoBulkEntries {H : Type} : List (Lit × DataW H) → Nat
  | [] => 0
  | x :: r => uptoBulkEntry x + uptoBulkEntries r
def uptoBulkEntry {H : Type} : Lit × DataW H → Nat
  | (.string bytes, d) => bytes.length + uptoBulk d + 1
  | (_, d) => uptoBulk d + 1
 end
def uptoSmall : (H : Type) → List (DataW H) → Bool := fun _ ds => decide (uptoBulkAll ds ≤ 1048576)
def OpenSpec.upto (s : _root_.Go.ChangeSpec) : _root_.Go.OpenSpec := { _root_.Go.OpenSpec.ofChange s with cond := some uptoSmall }

/-- 'warrantlaw05.ZoneKept', WHERE WHAT IT READS IS OF BULK AT MOST 1048576: true; the input reads as it did. -/
def zoneKeptUptoRow : OpenClaim := { program := "ytejcijbohnlbgaa", sum := "a239d7d7498da6dff1cc7befe46dfd46cdca7253b056209d2487e127a3be9038", func := "warrant/warrantlaw05.ZoneKept", spec := "zoneKept", unfollowed := true, recurses := true, apart := false, narrowed := true }
def ZoneKeptUptoSaid : Prop := zoneKeptUptoRow.holds Try.pinned (OpenSpec.upto zoneKeptSpec)

/-- 'warrantlaw09.ShapeNames', WHERE WHAT IT READS IS OF BULK AT MOST 1048576: true; the input reads as it did. -/
def shapeNamesUptoRow : OpenClaim := { program := "ytejcijbohnlbgaa", sum := "a239d7d7498da6dff1cc7befe46dfd46cdca7253b056209d2487e127a3be9038", func := "warrant/warrantlaw09.ShapeNames", spec := "shapeNames", unfollowed := true, recurses := true, apart := false, narrowed := true }
def ShapeNamesUptoSaid : Prop := shapeNamesUptoRow.holds Try.pinned (OpenSpec.upto shapeNamesSpec)

/-- 'warrantlaw09.ShapeBegins', WHERE WHAT IT READS IS OF BULK AT MOST 1048576: true; the input reads as it did. -/
def shapeBeginsUptoRow : OpenClaim := { program := "ytejcijbohnlbgaa", sum := "a239d7d7498da6dff1cc7befe46dfd46cdca7253b056209d2487e127a3be9038", func := "warrant/warrantlaw09.ShapeBegins", spec := "shapeBegins", unfollowed := true, recurses := true, apart := false, narrowed := true }
def ShapeBeginsUptoSaid : Prop := shapeBeginsUptoRow.holds Try.pinned (OpenSpec.upto shapeBeginsSpec)

end Rows
end Go.Proofs.Ytejcijbohnlbgaa
