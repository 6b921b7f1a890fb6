/- ZoneNames: the walk of the law. -/
import Derived.Test.YtilofjbobmeniaaRZK
namespace Go.Proofs.YtilofjbobmeniaaR
open Go.ChangeShapes Go.WideShapes Go.ChangeAt Go.RowKit
open Zon
set_option linter.unusedVariables false
set_option maxRecDepth 100000
theorem names_cons : consZ (some topT) = [] := by decide +kernel
theorem names_b33 : bnd (topT 3 3) = some 0 := rfl
theorem names_w1 : wrongL [⟨2, 2, -1⟩] = 0 := by decide
theorem names_z1 : withZ (some topT) [⟨2, 2, -1⟩] = none := rfl
theorem names_w2 : wrongL [⟨2, 0, 5⟩, ⟨60, 0, 1⟩] = 50 := by decide
theorem names_w3 : wrongL [⟨2, 0, 1152921504606846977⟩] = 51 := by decide
def Got (w : World) (g : Nat) (z : Zn) (w' : World) : Prop := w.heap.size ≤ g ∧ ZoneAt w' g z ∧ Below w.heap.size w w'
set_option maxHeartbeats 4000000 in
theorem zoneNames_walk (w : World) : Calls Try.prog 3 #[] w (True_ w) := by
  go_enter Try.func3, Try.ntmps3
  go_wp2_with fail
  go_at_call 13
  refine (awake_any w).mono ?_
  rintro e w1 ⟨rfl, hB1⟩
  have HB1 := Lib.hid hB1
  clear hB1
  go_wp2_with fail
  go_at_call 14
  refine (new_any w1).mono ?_
  rintro e w2 ⟨g2, rfl, hg2, hz2, hB2⟩
  have HB2 := Lib.hid (HB1.out.trans (hB2.mono HB1.out.size))
  have HC := Lib.hid (Cons_any w2 g2 (some topT) (zoneAt_new hz2))
  clear hB2 HB1 hz2 hg2
  go_wp2_with fail
  go_at_call 15
  refine HC.out.mono ?_
  rintro e w3 ⟨v, rfl, hO, hB3⟩
  rw [names_cons] at hO
  obtain ⟨A, c, rfl, -⟩ := hO.form
  have HB3 := Lib.hid (HB2.out.trans (hB3.mono HB2.out.size))
  clear hB3 HB2 hO HC
  go_wp2_with fail
  go_at_call 14
  refine (new_any w3).mono ?_
  rintro e w4 ⟨g4, rfl, hg4, hz4, hB4⟩
  have HB4 := Lib.hid (HB3.out.trans (hB4.mono HB3.out.size))
  have HC := Lib.hid (Bound_at w4 g4 3 3 topT (zoneAt_new hz4) (by omega) (by omega))
  clear hB4 HB3 hz4 hg4
  go_wp2_with fail
  go_at_call 16
  refine HC.out.mono ?_
  rintro e w5 ⟨rfl, hB5⟩
  rw [names_b33, show bv (some 0) = .agg #[.bool true, .int .i64 0] from rfl]
  have HB5 := Lib.hid (HB4.out.trans (hB5.mono HB4.out.size))
  clear hB5 HB4 HC
  go_wp2_with fail
  go_at_call 14
  refine (new_any w5).mono ?_
  rintro e w6 ⟨g6, rfl, hg6, hz6, hB6⟩
  have HB6 := Lib.hid (HB5.out.trans (hB6.mono HB5.out.size))
  have HC := Lib.hid (Bound_no w6 g6 0 60 _ (zoneAt_new hz6) (.inr (.inr (by decide))))
  clear hB6 HB5 hz6 hg6
  go_wp2_with fail
  go_at_call 16
  refine HC.out.mono ?_
  rintro e w7 ⟨rfl, hB7⟩
  rw [show bv none = .agg #[.bool false, .int .i64 0] from rfl]
  have HB7 := Lib.hid (HB6.out.trans (hB7.mono HB6.out.size))
  clear hB7 HB6 HC
  go_wp2_with fail
  go_at_call 14
  refine (new_any w7).mono ?_
  rintro e w8 ⟨g8, rfl, hg8, hz8, hB8⟩
  have HB8 := Lib.hid (HB7.out.trans (hB8.mono HB7.out.size))
  have HW := Lib.hid (With_any (w8.alloc (.cells #[.int .i64 2, .int .i64 2, .int .i64 (-1)] 34)) g8 (some topT) (some ⟨w8.heap.size, 0, none⟩) 1 1 [⟨2, 2, -1⟩] ((zoneAt_new hz8).up (below_box _ _)) rfl (by omega) (consAt_new w8 _ _ _ rfl))
  clear hB8 HB7 hz8 hg8
  go_wp2_with fail
  go_at_call 17
  refine HW.out.mono ?_
  rintro e w9 h9
  obtain ⟨g9, rfl, hg9, hz9, hB9⟩ := h9.yes names_w1
  rw [names_z1] at hz9
  have HZ9 := Lib.hid hz9
  have HB9 := Lib.hid (HB8.out.trans (((below_box w8 _).trans (hB9.mono (by simp))).mono HB8.out.size))
  clear hB9 h9 HB8 hz9 HW hg9
  go_wp2_with fail
  go_at_call 14
  refine (new_any w9).mono ?_
  rintro e wa ⟨ga, rfl, hga, hza, hBa⟩
  have HZa := Lib.hid (HZ9.out.up hBa)
  have HBa := Lib.hid (HB9.out.trans (hBa.mono HB9.out.size))
  have HW := Lib.hid (With_any (wa.alloc (.cells #[.int .i64 2, .int .i64 0, .int .i64 5, .int .i64 60, .int .i64 0, .int .i64 1] 34)) ga (some topT) (some ⟨wa.heap.size, 0, none⟩) 2 2 [⟨2, 0, 5⟩, ⟨60, 0, 1⟩] ((zoneAt_new hza).up (below_box _ _)) rfl (by omega) (consAt_new wa _ _ _ rfl))
  clear hBa HB9 hza hga HZ9
  go_wp2_with fail
  go_at_call 17
  refine HW.out.mono ?_
  rintro e wb hb
  obtain ⟨rfl, hBb⟩ := hb.no (by rw [names_w2]; decide)
  rw [names_w2]
  have HZb := Lib.hid ((HZa.out.up (below_box wa _)).up hBb)
  have HBb := Lib.hid (HBa.out.trans (((below_box wa _).trans (hBb.mono (by simp))).mono HBa.out.size))
  clear hBb hb HBa HZa HW
  go_wp2_with fail
  go_at_call 14
  refine (new_any wb).mono ?_
  rintro e wc ⟨gc, rfl, hgc, hzc, hBc⟩
  have HZc := Lib.hid (HZb.out.up hBc)
  have HBc := Lib.hid (HBb.out.trans (hBc.mono HBb.out.size))
  have HW := Lib.hid (With_any (wc.alloc (.cells #[.int .i64 2, .int .i64 0, .int .i64 1152921504606846977] 34)) gc (some topT) (some ⟨wc.heap.size, 0, none⟩) 1 1 [⟨2, 0, 1152921504606846977⟩] ((zoneAt_new hzc).up (below_box _ _)) rfl (by omega) (consAt_new wc _ _ _ rfl))
  clear hBc HBb hzc hgc HZb
  go_wp2_with fail
  go_at_call 17
  refine HW.out.mono ?_
  rintro e wd hd
  obtain ⟨rfl, hBd⟩ := hd.no (by rw [names_w3]; decide)
  rw [names_w3]
  have HZd := Lib.hid ((HZc.out.up (below_box wc _)).up hBd)
  have HBd := Lib.hid (HBc.out.trans (((below_box wc _).trans (hBd.mono (by simp))).mono HBc.out.size))
  have HE := Lib.hid (Empty_any wd g9 none HZd.out)
  clear hBd hd HBc HZc HW
  go_wp2_with fail
  go_at_call 18
  refine HE.out.mono ?_
  rintro e we ⟨rfl, rfl⟩
  rw [show voidB none = true from rfl]
  go_wp2_with fail
  go_ret
  exact ⟨rfl, HBd.out⟩
end Go.Proofs.YtilofjbobmeniaaR
