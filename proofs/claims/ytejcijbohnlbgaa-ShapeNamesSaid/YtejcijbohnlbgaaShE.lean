/- Package shape: a shape in memory; Dead, Tag. -/
import Derived.Test.YtejcijbohnlbgaaShD
import Derived.Test.YtejcijbohnlbgaaZK
namespace Go.Proofs.Ytejcijbohnlbgaa
open Go.ChangeShapes Go.WideShapes Go.ChangeAt Go.RowKit
open Zon
set_option linter.unusedVariables false
set_option linter.unusedSimpArgs false
set_option maxRecDepth 100000
theorem three_arrT (p q r : Value) : (#[p, q, r] : Array Value) = arr 3 (fun k => if k = 0 then p else if k = 1 then q else r) := rfl
def shF (p : Nat) (T : Nat → Int) : Nat → Value := fun k => if k = 0 then .pointer (some ⟨p, 0, none⟩) else .int .i64 (T (k - 1))
/-- a shape: its block holds its zone's pointer and its tags -/
def ShAt (w : World) (g : Nat) (z : Zn) (T : Nat → Int) : Prop := ∃ p, FB w g 82 127 (shF p T) ∧ ZoneAt w p z
theorem ShAt.up {w w' : World} {g : Nat} {z : Zn} {T : Nat → Int} (h : ShAt w g z T) (hb : Below w.heap.size w w') : ShAt w' g z T := by
  obtain ⟨p, h1, h2⟩ := h
  exact ⟨p, h1.up hb, h2.up hb⟩
set_option maxHeartbeats 1000000 in
theorem shDead_any (w : World) (g : Nat) (z : Zn) (T : Nat → Int) (hs : ShAt w g z T) : Calls Try.prog 34 #[.pointer (some ⟨g, 0, none⟩)] w (RetV w (.bool (voidB z))) := by
  obtain ⟨p, h1, h2⟩ := hs
  have HZ := Lib.hid h2
  have x0 : w.cell? ⟨g, 0, none⟩ = some (.pointer (some ⟨p, 0, none⟩)) := h1.cell 0 (by decide)
  clear h1 h2
  go_enter Try.func34, Try.ntmps34
  go_wp2_with fail
  go_at_call 62
  refine (Empty_any _ p z HZ.out).mono ?_
  rintro e w1 ⟨rfl, rfl⟩
  go_wp2_with fail
  go_ret
  exact ⟨rfl, Below.refl _ _⟩
/-- the tag that is told of a variable -/
def tagV (T : Nat → Int) (v : Int) : Value := if taggedB v = true then .agg #[.int .i64 (T ((v - 2).toNat * 3)), .int .i64 (T ((v - 2).toNat * 3 + 1)), .int .i64 (T ((v - 2).toNat * 3 + 2))] else .agg #[.int .i64 0, .int .i64 0, .int .i64 0]
set_option maxHeartbeats 1000000 in
theorem shTag_any (w : World) (g : Nat) (z : Zn) (T : Nat → Int) (v : Int) (hs : ShAt w g z T) : Calls Try.prog 32 #[.pointer (some ⟨g, 0, none⟩), .int .i64 v] w (RetV w (tagV T v)) := by
  have HV := Lib.hid (show tagV T v = if taggedB v = true then .agg #[.int .i64 (T ((v - 2).toNat * 3)), .int .i64 (T ((v - 2).toNat * 3 + 1)), .int .i64 (T ((v - 2).toNat * 3 + 2))] else .agg #[.int .i64 0, .int .i64 0, .int .i64 0] from rfl)
  have HS := Lib.hid hs
  clear hs
  go_enter Try.func32, Try.ntmps32
  go_upto_region 1 with (refine wpList_alloc_seg rfl 58 rfl 3 (fun _ => .int .i64 0) zeroTag ?_; intro w1 h1 hB1 hs1)
  obtain ⟨b, hb⟩ : ∃ b, b = w.heap.size := ⟨_, rfl⟩
  rw [← hb] at h1 ⊢
  have HB0 := Lib.hid (show w.heap.size ≤ b by omega)
  have HG0 := Lib.hid (show g ≠ b by obtain ⟨p, q1, _⟩ := HS.out; have := q1.lt; omega)
  have H1 := Lib.hid h1
  have HS1 := Lib.hid (HS.out.up hB1)
  have HB1 := Lib.hid hB1
  clear h1 hB1 hs1 hb HS
  go_wp2_with fail
  go_at_call 67
  refine (tagged_any _ v).mono ?_
  rintro e w2 ⟨rfl, hB⟩
  have H2 := Lib.hid (H1.out.up hB)
  have HS2 := Lib.hid (HS1.out.up hB)
  have HB2 := Lib.hid (HB1.out.trans (hB.mono HB1.out.size))
  clear hB H1 HS1 HB1
  cases ht : taggedB v
  · have HV1 := Lib.hid (HV.out.trans (if_neg (by rw [ht]; decide)))
    go_wp2_with (refine wpList_store_seg rfl 58 _ _ rfl b 0 58 3 3 _ (fun _ => .int .i64 0) rfl rfl H2.out (by omega) sizeTag (fun _ _ => rfl) ?_; intro w3 h3 hT3 hs3)
    refine bodyPost_ret (result_seg rfl _ _ b _ 3 _ _ rfl h3 Try.underlying58 rfl sizeTag) rfl ⟨?_, HB2.out.trans (hT3.below HB0.out HB2.out.size)⟩
    rw [HV1.out]
    rfl
  · have ht' := ht
    unfold taggedB at ht'
    obtain ⟨h1, h2⟩ : 2 ≤ v ∧ v < 44 := by simpa using ht'
    have HV1 := Lib.hid (HV.out.trans (if_pos ht))
    clear ht ht' HV
    obtain ⟨q, hq⟩ : ∃ q : Nat, q = (v - 2).toNat := ⟨_, rfl⟩
    rw [← hq] at HV1
    have hqv : v = (q : Int) + 2 := by omega
    have hq42 : q < 42 := by omega
    clear hq h1 h2
    subst hqv
    have hq0 : (0 : Int) ≤ q := by omega
    have hq1 : (q : Int) < 42 := by omega
    obtain ⟨p, q1, -⟩ := HS2.out
    have x0 : w2.cell? ⟨g, 1 + q * 3, none⟩ = some (.int .i64 (T (q * 3))) := by have := q1.cell (1 + q * 3) (by omega); unfold shF at this; rw [if_neg (by omega), show 1 + q * 3 - 1 = q * 3 by omega] at this; exact this
    have x1 : w2.cell? ⟨g, 1 + q * 3 + 1, none⟩ = some (.int .i64 (T (q * 3 + 1))) := by have := q1.cell (1 + q * 3 + 1) (by omega); unfold shF at this; rw [if_neg (by omega), show 1 + q * 3 + 1 - 1 = q * 3 + 1 by omega] at this; exact this
    have x2 : w2.cell? ⟨g, 1 + q * 3 + 2, none⟩ = some (.int .i64 (T (q * 3 + 2))) := by have := q1.cell (1 + q * 3 + 2) (by omega); unfold shF at this; rw [if_neg (by omega), show 1 + q * 3 + 2 - 1 = q * 3 + 2 by omega] at this; exact this
    clear q1
    go_wp2_with (refine wpList_store_seg rfl 58 _ _ rfl b 0 58 3 3 _ (tag3 T q) rfl (congrArg Value.agg (tag3_arr T q)) H2.out (by omega) sizeTag (fun _ _ => rfl) ?_; intro w3 h3 hT3 hs3)
    refine bodyPost_ret (result_seg rfl _ _ b _ 3 _ _ rfl h3 Try.underlying58 rfl sizeTag) rfl ⟨?_, HB2.out.trans (hT3.below HB0.out HB2.out.size)⟩
    rw [HV1.out, tag3_arr]
    exact congrArg (fun x => Ending.returned (.agg x)) (arr_congr fun k hk => by unfold updR; rw [if_pos (by omega), Nat.sub_zero])
/-- the shape of no state -/
def deadZ : Zn := withZ (some topT) [⟨0, 0, -1⟩]
theorem zeroShape : Try.zeroCells82 = arr 127 (fun k => if k = 0 then .pointer none else .int .i64 0) := by kernel_rfl
theorem shape_cells0 (p : Nat) : Try.zeroCells82.setIfInBounds 0 (.pointer (some ⟨p, 0, none⟩)) = arr 127 (shF p fun _ => 0) := by
  rw [zeroShape, arr_set]
  refine arr_congr fun k _ => ?_
  unfold upd shF
  by_cases e : k = 0
  · rw [if_pos e, if_pos e]
  · rw [if_neg e, if_neg e]
    exact if_neg e
set_option maxHeartbeats 1000000 in
theorem lawTag_any (w : World) (k t m : Int) : Calls Try.prog 27 #[.int .i64 k, .int .i64 t, .int .i64 m] w (RetV w (.agg #[.int .i64 k, .int .i64 t, .int .i64 m])) := by
  go_enter Try.func27, Try.ntmps27
  go_upto_region 1 with (refine wpList_alloc_seg rfl 58 rfl 3 (fun _ => .int .i64 0) zeroTag ?_; intro w1 h1 hB1 hs1)
  obtain ⟨b, hb⟩ : ∃ b, b = w.heap.size := ⟨_, rfl⟩
  rw [← hb] at h1 ⊢
  have HB0 := Lib.hid (show w.heap.size ≤ b by omega)
  have H1 := Lib.hid h1
  have HB1 := Lib.hid hB1
  clear h1 hB1 hs1 hb
  go_wp2_with (refine wpList_store_seg rfl 58 _ _ rfl b 0 58 3 3 _ (fun q => if q = 0 then .int .i64 k else if q = 1 then .int .i64 t else .int .i64 m) rfl (congrArg Value.agg (three_arrT _ _ _)) H1.out (by omega) sizeTag (fun q _ => by show (if q = 0 then Value.int .i64 k else if q = 1 then .int .i64 t else .int .i64 m).oneCell' = true; split; rfl; split <;> rfl) ?_; intro w3 h3 hT3 hs3)
  refine bodyPost_ret (result_seg rfl _ _ b _ 3 _ _ rfl h3 Try.underlying58 rfl sizeTag) rfl ⟨?_, HB1.out.trans (hT3.below HB0.out HB1.out.size)⟩
  rfl
set_option maxHeartbeats 1000000 in
theorem dead_any (w : World) : Calls Try.prog 33 #[] w fun e w' => ∃ g, e = .returned (.pointer (some ⟨g, 0, none⟩)) ∧ w.heap.size ≤ g ∧ ShAt w' g deadZ (fun _ => 0) ∧ Below w.heap.size w w' := by
  go_enter Try.func33, Try.ntmps33
  go_wp2_with fail
  go_at_call 8
  refine (New_law _).mono ?_
  rintro e w1 ⟨g0, rfl, hg, hz, hB⟩
  have HZ := Lib.hid hz
  have HB1 := Lib.hid hB
  have HBX := Lib.hid (fun o => below_box w1 o)
  clear hg hz hB
  go_wp2_with fail
  go_at_call 9
  refine (With_law _ g0 (some topT) _ 1 _ [⟨0, 0, -1⟩] (HZ.out.up (HBX.out _)) rfl (by omega) (cons_one w1 _ _ _ _) (by rfl)).mono ?_
  rintro e w2 ⟨gz, rfl, hz, hB⟩
  have HZ2 := Lib.hid hz
  have HB2 := Lib.hid (HB1.out.trans (((HBX.out _).trans (hB.mono (HBX.out _).size)).mono HB1.out.size))
  clear hz hB HZ HB1 HBX
  go_wp2_with fail
  rw [shape_cells0]
  go_ret
  refine ⟨w2.heap.size, rfl, HB2.out.size, ⟨gz, FB.new w2 _ 127 _, ?_⟩, HB2.out.trans ((below_box w2 _).mono HB2.out.size)⟩
  exact ZoneAt.up HZ2.out (below_box w2 _)
end Go.Proofs.Ytejcijbohnlbgaa
