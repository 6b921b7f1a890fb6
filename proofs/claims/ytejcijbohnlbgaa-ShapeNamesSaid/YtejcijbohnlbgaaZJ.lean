/- awake: one answer that the document tells. -/
import Derived.Test.YtejcijbohnlbgaaZI
namespace Go.Proofs.Ytejcijbohnlbgaa
open Go.ChangeShapes Go.WideShapes Go.ChangeAt Go.RowKit
open Zon
set_option linter.unusedVariables false
set_option maxRecDepth 100000
theorem consAt_new (w : World) (e : TypeId) (L : List Con) (cs : Array Value) (h : cs.toList = L.flatMap Con.cells) : ConsAt (w.alloc (.cells cs e)) (some ⟨w.heap.size, 0, none⟩) L := by
  refine consAt_cells (by simp) fun m v hm => ?_
  rw [Nat.zero_add, cell_of_row _ w.heap.size m _ e (0, 0) (heap_alloc_new w _)]
  rw [← h] at hm
  simpa using hm
theorem zoneAt_new {w : World} {g : Nat} (h : ZB w g false topT) : ZoneAt w g (some topT) := ⟨h, okT_top⟩
theorem MadeE.yes {w w' : World} {E : Int} {z : Zn} {e : Ending} (h : MadeE w E z e w') (hE : E = 0) : ∃ g, e = .returned (.tuple #[.pointer (some ⟨g, 0, none⟩), .int .i64 0]) ∧ w.heap.size ≤ g ∧ ZoneAt w' g z ∧ Below w.heap.size w w' := by
  rcases h with ⟨_, h⟩ | ⟨h, _⟩
  · exact h
  · exact absurd hE h
theorem MadeE.no {w w' : World} {E : Int} {z : Zn} {e : Ending} (h : MadeE w E z e w') (hE : E ≠ 0) : e = .returned (.tuple #[.pointer none, .int .i64 E]) ∧ Below w.heap.size w w' := by
  rcases h with ⟨h, _⟩ | ⟨_, h⟩
  · exact absurd h hE
  · exact h
def awL : List Con := [⟨2, 3, 1⟩, ⟨3, 4, 2⟩]
def awR : List Con := [⟨2, 3, 1⟩, ⟨2, 4, 3⟩, ⟨3, 4, 2⟩]
set_option maxHeartbeats 2000000 in
theorem awake_any (w : World) : Calls Try.prog 12 #[] w (True_ w) := by
  go_enter Try.func12, Try.ntmps12
  go_wp2_with fail
  go_at_call 8
  refine (new_any w).mono ?_
  rintro e w2 ⟨g, rfl, hg, hz, hB⟩
  have HB := Lib.hid hB
  have HW := Lib.hid (With_any (w2.alloc (.cells #[.int .i64 2, .int .i64 3, .int .i64 1, .int .i64 3, .int .i64 4, .int .i64 2] 45)) g (some topT) (some ⟨w2.heap.size, 0, none⟩) 2 2 awL ((zoneAt_new hz).up (below_box _ _)) rfl (by omega) (consAt_new w2 _ awL _ rfl))
  clear hz hB hg
  go_wp2_with fail
  go_at_call 9
  refine HW.out.mono ?_
  rintro e w3 h3
  obtain ⟨g3, rfl, hg3, hz3, hB3⟩ := h3.yes (by decide)
  have HB3 := Lib.hid (HB.out.trans (((below_box w2 _).trans (hB3.mono (by simp))).mono HB.out.size))
  have HC := Lib.hid (Cons_any w3 g3 _ hz3)
  clear hB3 hz3 hg3 HW HB h3
  go_wp2_with fail
  go_at_call 22
  refine HC.out.mono ?_
  rintro e w4 ⟨v, rfl, hO, hB4⟩
  have hm : consZ (withZ (some topT) awL) = awR := awake_math
  rw [hm] at hO
  obtain ⟨A, c, rfl, -, hA, -⟩ := hO.consAt
  have HA := Lib.hid hA
  have HB4 := Lib.hid (HB3.out.trans (hB4.mono HB3.out.size))
  have HS := Lib.hid (same_yes (w4.alloc (.cells #[.int .i64 2, .int .i64 3, .int .i64 1, .int .i64 2, .int .i64 4, .int .i64 3, .int .i64 3, .int .i64 4, .int .i64 2] 99)) A (some ⟨w4.heap.size, 0, none⟩) 3 c 3 awR rfl (by omega) (hA.below (below_box _ _)) (consAt_new w4 _ awR _ rfl))
  clear hA hB4 hO HC hm
  go_wp2_with fail
  go_at_call 24
  refine HS.out.mono ?_
  rintro e w5 ⟨rfl, hB5⟩
  have HB5 := Lib.hid (HB4.out.trans (((below_box w4 _).trans (hB5.mono (by simp))).mono HB4.out.size))
  clear hB5 HS HB4
  go_wp2_with fail
  go_ret
  exact ⟨rfl, HB5.out⟩
end Go.Proofs.Ytejcijbohnlbgaa
