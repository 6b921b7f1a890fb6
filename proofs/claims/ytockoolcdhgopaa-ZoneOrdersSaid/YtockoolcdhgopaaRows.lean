/-
  No cell of these rows narrows 'for every input' (looked for: loops, veiled, ifaces, maps, wideKeys, modest, calm, conditions, laid).
  DERIVED. THE GIVEN ROWS OF THIS SEAT. 5 by the template 'for every input the law returns true; each argument reads behind the call as it read before'; 0 by the template 'total and deterministic' (their statements: YtockoolcdhgopaaTotals.lean).
  GIVEN WITH THE SEED: the statements are not yours to turn. If you find one false, say at which input.
  Laid BY PROGRAM, IN A SANDBOX (cutbox-rows.mjs): the forced cells as the released guide's own fill.sh prints them over the translation 6e75f6c83289de3d… (all of the seat's roots in one cut). By AI agents, Wed Nov 11 2026. No macro, syntax, notation, axiom, sorry.
-/
import Derived.Test.YtockoolcdhgopaaChecked
import GoSem.Claim
import GoSem.ClaimJoined
import GoSem.ClaimMapViews
import Derived.JoinedTies
import Derived.KernelRfl
namespace Go.Proofs.Ytockoolcdhgopaa
/- THE CELL 'sum', in the pinned program and in every row, IS THE sha256 OF THE DUMP (.gsa) THAT YtockoolcdhgopaaProg.lean LOADS. Nothing in Lean hashes anything: it is a label: what it is worth is what the hold of that sum in a sandbox is worth. -/
noncomputable def Try.pinned : Pinned := { name := "ytockoolcdhgopaa", sum := "6e75f6c83289de3d087aface4c3a5155d2c185d564e033a86f06eedc6bc94cbd", checked := Try.checked }
namespace Rows
def none {H : Type} : Left H := { results := [], args := [] }

/-- 'warrantlaw05.ZonePuts': WHATEVER THE INPUT: true; the input reads as it did. -/
def zonePutsSpec : ChangeSpec := { name := "zonePuts", fn := fun _ => fun
  | [d1, d2, d3, d4, d5, d6] => { results := [.lit (.bool true)], args := [d1, d2, d3, d4, d5, d6] }
  | _ => none }
def zonePutsRow : OpenClaim := { program := "ytockoolcdhgopaa", sum := "6e75f6c83289de3d087aface4c3a5155d2c185d564e033a86f06eedc6bc94cbd", func := "warrant/warrantlaw05.ZonePuts", spec := "zonePuts", unfollowed := true, recurses := true, apart := false }
def ZonePutsSaid : Prop := zonePutsRow.holds Try.pinned (OpenSpec.ofChange zonePutsSpec)

/-- ITS FALSE NEIGHBOUR: 'it returns false'. Refute it at one input. -/
def zonePutsWrong : ChangeSpec := { name := "zonePuts", fn := fun _ => fun
  | [d1, d2, d3, d4, d5, d6] => { results := [.lit (.bool false)], args := [d1, d2, d3, d4, d5, d6] }
  | _ => none }
def ZonePutsWrongFalsely : Prop := zonePutsRow.holds Try.pinned (OpenSpec.ofChange zonePutsWrong)

/-- 'warrantlaw05.ZoneOrders': WHATEVER THE INPUT: true; the input reads as it did. -/
def zoneOrdersSpec : ChangeSpec := { name := "zoneOrders", fn := fun _ => fun
  | [d1, d2] => { results := [.lit (.bool true)], args := [d1, d2] }
  | _ => none }
def zoneOrdersRow : OpenClaim := { program := "ytockoolcdhgopaa", sum := "6e75f6c83289de3d087aface4c3a5155d2c185d564e033a86f06eedc6bc94cbd", func := "warrant/warrantlaw05.ZoneOrders", spec := "zoneOrders", unfollowed := true, recurses := true, apart := false }
def ZoneOrdersSaid : Prop := zoneOrdersRow.holds Try.pinned (OpenSpec.ofChange zoneOrdersSpec)

/-- ITS FALSE NEIGHBOUR: 'it returns false'. Refute it at one input. -/
def zoneOrdersWrong : ChangeSpec := { name := "zoneOrders", fn := fun _ => fun
  | [d1, d2] => { results := [.lit (.bool false)], args := [d1, d2] }
  | _ => none }
def ZoneOrdersWrongFalsely : Prop := zoneOrdersRow.holds Try.pinned (OpenSpec.ofChange zoneOrdersWrong)

/-- 'warrantlaw05.ZoneKept': WHATEVER THE INPUT: true; the input reads as it did. -/
def zoneKeptSpec : ChangeSpec := { name := "zoneKept", fn := fun _ => fun
  | [d1, d2, d3] => { results := [.lit (.bool true)], args := [d1, d2, d3] }
  | _ => none }
def zoneKeptRow : OpenClaim := { program := "ytockoolcdhgopaa", sum := "6e75f6c83289de3d087aface4c3a5155d2c185d564e033a86f06eedc6bc94cbd", func := "warrant/warrantlaw05.ZoneKept", spec := "zoneKept", unfollowed := true, recurses := true, apart := false }
def ZoneKeptSaid : Prop := zoneKeptRow.holds Try.pinned (OpenSpec.ofChange zoneKeptSpec)

/-- ITS FALSE NEIGHBOUR: 'it returns false'. Refute it at one input. -/
def zoneKeptWrong : ChangeSpec := { name := "zoneKept", fn := fun _ => fun
  | [d1, d2, d3] => { results := [.lit (.bool false)], args := [d1, d2, d3] }
  | _ => none }
def ZoneKeptWrongFalsely : Prop := zoneKeptRow.holds Try.pinned (OpenSpec.ofChange zoneKeptWrong)

/-- 'warrantlaw05.ZoneLoses': WHATEVER THE INPUT: true; the input reads as it did. -/
def zoneLosesSpec : ChangeSpec := { name := "zoneLoses", fn := fun _ => fun
  | [d1, d2, d3, d4, d5] => { results := [.lit (.bool true)], args := [d1, d2, d3, d4, d5] }
  | _ => none }
def zoneLosesRow : OpenClaim := { program := "ytockoolcdhgopaa", sum := "6e75f6c83289de3d087aface4c3a5155d2c185d564e033a86f06eedc6bc94cbd", func := "warrant/warrantlaw05.ZoneLoses", spec := "zoneLoses", unfollowed := true, recurses := true, apart := false }
def ZoneLosesSaid : Prop := zoneLosesRow.holds Try.pinned (OpenSpec.ofChange zoneLosesSpec)

/-- ITS FALSE NEIGHBOUR: 'it returns false'. Refute it at one input. -/
def zoneLosesWrong : ChangeSpec := { name := "zoneLoses", fn := fun _ => fun
  | [d1, d2, d3, d4, d5] => { results := [.lit (.bool false)], args := [d1, d2, d3, d4, d5] }
  | _ => none }
def ZoneLosesWrongFalsely : Prop := zoneLosesRow.holds Try.pinned (OpenSpec.ofChange zoneLosesWrong)

/-- 'warrantlaw05.ZoneRenews': WHATEVER THE INPUT: true; the input reads as it did. -/
def zoneRenewsSpec : ChangeSpec := { name := "zoneRenews", fn := fun _ => fun
  | [d1, d2, d3, d4, d5] => { results := [.lit (.bool true)], args := [d1, d2, d3, d4, d5] }
  | _ => none }
def zoneRenewsRow : OpenClaim := { program := "ytockoolcdhgopaa", sum := "6e75f6c83289de3d087aface4c3a5155d2c185d564e033a86f06eedc6bc94cbd", func := "warrant/warrantlaw05.ZoneRenews", spec := "zoneRenews", unfollowed := true, recurses := true, apart := false }
def ZoneRenewsSaid : Prop := zoneRenewsRow.holds Try.pinned (OpenSpec.ofChange zoneRenewsSpec)

/-- ITS FALSE NEIGHBOUR: 'it returns false'. Refute it at one input. -/
def zoneRenewsWrong : ChangeSpec := { name := "zoneRenews", fn := fun _ => fun
  | [d1, d2, d3, d4, d5] => { results := [.lit (.bool false)], args := [d1, d2, d3, d4, d5] }
  | _ => none }
def ZoneRenewsWrongFalsely : Prop := zoneRenewsRow.holds Try.pinned (OpenSpec.ofChange zoneRenewsWrong)

/- THE SECOND FORM. 'bulk': how many values and letters a reading holds, each counted each time it is reached (what is shared counts as often as it is met; a slice's spare places count too). A statement '..UptoSaid' is the law's where the arguments, and the package variables that the reading takes, are together of bulk at most 1048576: NARROWER than '..Said'. Prove '..Said' where nothing that the law and all that it calls make is longer than what came in: it says more and counts as full. Else prove '..UptoSaid'. A law counts once. -/
mutual
def uptoBulk {H : Type} : DataW H → Nat
  | .lit (.string bytes) => bytes.length + 1
  | .lit _ => 1
  | .nil => 1
  | .ptr d => uptoBulk d + 1
  | .slice elems spare => uptoBulkAll elems + uptoBulkAll spare + 1
  | .agg parts => uptoBulkAll parts + 1
  | .iface _ d => uptoBulk d + 1
  | .map entries => uptoBulkEntries entries + 1
  | .held _ => 1
def uptoBulkAll {H : Type} : List (DataW H) → Nat
  | [] => 0
  | d :: r => uptoBulk d + uptoBulkAll r
def uptoBulkEntries {H : Type} : List (Lit × DataW H) → Nat
  | [] => 0
  | x :: r => uptoBulkEntry x + uptoBulkEntries r
def uptoBulkEntry {H : Type} : Lit × DataW H → Nat
  | (.string bytes, d) => bytes.length + uptoBulk d + 1
  | (_, d) => uptoBulk d + 1
 end
def uptoSmall : (H : Type) → List (DataW H) → Bool := fun _ ds => decide (uptoBulkAll ds ≤ 1048576)
def OpenSpec.upto (s : _root_.Go.ChangeSpec) : _root_.Go.OpenSpec := { _root_.Go.OpenSpec.ofChange s with cond := some uptoSmall }

/-- 'warrantlaw05.ZonePuts', WHERE WHAT IT READS IS OF BULK AT MOST 1048576: true; the input reads as it did. -/
def zonePutsUptoRow : OpenClaim := { program := "ytockoolcdhgopaa", sum := "6e75f6c83289de3d087aface4c3a5155d2c185d564e033a86f06eedc6bc94cbd", func := "warrant/warrantlaw05.ZonePuts", spec := "zonePuts", unfollowed := true, recurses := true, apart := false, narrowed := true }
def ZonePutsUptoSaid : Prop := zonePutsUptoRow.holds Try.pinned (OpenSpec.upto zonePutsSpec)

/-- 'warrantlaw05.ZoneOrders', WHERE WHAT IT READS IS OF BULK AT MOST 1048576: true; the input reads as it did. -/
def zoneOrdersUptoRow : OpenClaim := { program := "ytockoolcdhgopaa", sum := "6e75f6c83289de3d087aface4c3a5155d2c185d564e033a86f06eedc6bc94cbd", func := "warrant/warrantlaw05.ZoneOrders", spec := "zoneOrders", unfollowed := true, recurses := true, apart := false, narrowed := true }
def ZoneOrdersUptoSaid : Prop := zoneOrdersUptoRow.holds Try.pinned (OpenSpec.upto zoneOrdersSpec)

/-- 'warrantlaw05.ZoneKept', WHERE WHAT IT READS IS OF BULK AT MOST 1048576: true; the input reads as it did. -/
def zoneKeptUptoRow : OpenClaim := { program := "ytockoolcdhgopaa", sum := "6e75f6c83289de3d087aface4c3a5155d2c185d564e033a86f06eedc6bc94cbd", func := "warrant/warrantlaw05.ZoneKept", spec := "zoneKept", unfollowed := true, recurses := true, apart := false, narrowed := true }
def ZoneKeptUptoSaid : Prop := zoneKeptUptoRow.holds Try.pinned (OpenSpec.upto zoneKeptSpec)

/-- 'warrantlaw05.ZoneLoses', WHERE WHAT IT READS IS OF BULK AT MOST 1048576: true; the input reads as it did. -/
def zoneLosesUptoRow : OpenClaim := { program := "ytockoolcdhgopaa", sum := "6e75f6c83289de3d087aface4c3a5155d2c185d564e033a86f06eedc6bc94cbd", func := "warrant/warrantlaw05.ZoneLoses", spec := "zoneLoses", unfollowed := true, recurses := true, apart := false, narrowed := true }
def ZoneLosesUptoSaid : Prop := zoneLosesUptoRow.holds Try.pinned (OpenSpec.upto zoneLosesSpec)

/-- 'warrantlaw05.ZoneRenews', WHERE WHAT IT READS IS OF BULK AT MOST 1048576: true; the input reads as it did. -/
def zoneRenewsUptoRow : OpenClaim := { program := "ytockoolcdhgopaa", sum := "6e75f6c83289de3d087aface4c3a5155d2c185d564e033a86f06eedc6bc94cbd", func := "warrant/warrantlaw05.ZoneRenews", spec := "zoneRenews", unfollowed := true, recurses := true, apart := false, narrowed := true }
def ZoneRenewsUptoSaid : Prop := zoneRenewsUptoRow.holds Try.pinned (OpenSpec.upto zoneRenewsSpec)

end Rows
end Go.Proofs.Ytockoolcdhgopaa
