/- Contracts of package span: span, integers, bottom, Full, Of, Has, Low, NotZero, Bytes. -/
import Derived.Test.YtjhgjplhhhgfcaaGreatSpB
import Derived.Deep.RegionHeld3
namespace Go.Proofs.YtjhgjplhhhgfcaaGreat
open Go.ChangeShapes Go.WideShapes Go.ChangeAt Go.RowKit
open Spn
namespace Spc
set_option linter.unusedVariables false
set_option maxRecDepth 100000
theorem ret_s {a b c d : Int} {p q : Bool} (h1 : a = c) (h2 : b = d) : Ending.returned (.agg #[.int .i64 a, .int .i64 b, .bool p, .bool q]) = .returned (.agg #[.int .i64 c, .int .i64 d, .bool p, .bool q]) := by rw [h1, h2]
theorem sp_eq {a b c d : Int} {p q r s : Bool} (h : (⟨a, b, p, q⟩ : Sp) = ⟨c, d, r, s⟩) : a = c ∧ b = d ∧ p = r ∧ q = s := by injection h with h1 h2 h3 h4; exact ⟨h1, h2, h3, h4⟩
set_option maxHeartbeats 2000000 in
theorem span_any (l h a b : Int) (p q : Bool) (hr : sp ⟨l, h⟩ = ⟨a, b, p, q⟩) (w : World) : Calls Tryz.prog 14 #[.agg #[.int .i64 l, .int .i64 h]] w (RetS w a b p q) := by
  unfold sp MX at hr
  dsimp only at hr
  by_cases h1 : l < -1152921504606846976 <;> by_cases h2 : h > 1152921504606846976
  all_goals
    simp only [h1, h2, if_true, if_false, decide_true, decide_false] at hr
    obtain ⟨rfl, rfl, rfl, rfl⟩ := sp_eq hr
    clear hr
    go_enter Tryz.func14, Tryz.ntmps14
    go_wp2_with fail
  all_goals
    refine bodyPost_ret (v := .agg #[.int .i64 _, .int .i64 _, .bool _, .bool _]) (results_cell_row Tryz.results14 _ _ (w.heap.size + 1) 23 #[.int .i64 _, .int .i64 _, .bool _, .bool _] (0, 0) _ rfl ((new2 _ _ _ _).alloc _) Tryz.underlying23 rfl (by kernel_rfl)) rfl ⟨?_, box3 _ _ _ _⟩
    refine ret_s ?_ ?_ <;> omega
theorem natC (k m : Int) (j : Nat) (hk : k = (j : Int)) (hj : j ≤ 63) (hm : (2 : Int) ^ j - 1 = m) (w : World) : Calls Tryz.prog 40 #[.int .i64 k] w (RetE w 0 m) := by
  subst hk; exact nat_any j hj m hm w
set_option maxHeartbeats 2000000 in
theorem int_8 (w : World) : Calls Tryz.prog 34 #[.int .i64 8] w (RetE w (-128) 127) := by
  have H1 := Lib.hid (below_box' w (.cells zE 30))
  have b1 := Lib.hid (Blk.new w 30 zE)
  have hw : IntKind.i64.wrap 7 = 7 := by decide
  have hw2 : IntKind.i64.wrap (-128) = -128 := by decide
  have hfd : ∀ W : World, (Instr.field 30 (.agg #[.int .i64 0, .int .i64 127]) 1).run Tryz.prog W = .ok (.int .i64 127) W := fun _ => by kernel_rfl
  have HN := Lib.hid (fun w => natC 7 127 7 rfl (by decide) (by decide) w)
  go_enter Tryz.func34, Tryz.ntmps34
  go_wp2_with fail
  go_region_held3 (fun w' => Below w.heap.size w w')
    (first | exact H1.out.drew | exact HB.out | exact Below.set2 HB.out (Nat.le_refl _) _ _)
    (first | (go_at_call 40; refine (HN.out _).mono ?_; rintro e w1 ⟨rfl, hB⟩; have HB := Lib.hid (nx H1.out.drew hB); have HR := Lib.hid (b1.out.drew.up hB); obtain ⟨c0, c1, c2, c3, c4⟩ := cells2 HR.out; clear hB))
  clear hw hw2 hfd
  go_wp2_with fail
  exact bodyPost_ret (v := .agg #[.int .i64 _, .int .i64 _]) (results_cell_row Tryz.results34 _ _ w.heap.size 30 #[.int .i64 _, .int .i64 _] (0, 0) _ rfl (set2 HR.out _ _) Tryz.underlying30 rfl (by kernel_rfl)) rfl ⟨rfl, Below.set2 HB.out (Nat.le_refl _) _ _⟩
set_option maxHeartbeats 2000000 in
theorem int_16 (w : World) : Calls Tryz.prog 34 #[.int .i64 16] w (RetE w (-32768) 32767) := by
  have H1 := Lib.hid (below_box' w (.cells zE 30))
  have b1 := Lib.hid (Blk.new w 30 zE)
  have hw : IntKind.i64.wrap 15 = 15 := by decide
  have hw2 : IntKind.i64.wrap (-32768) = -32768 := by decide
  have hfd : ∀ W : World, (Instr.field 30 (.agg #[.int .i64 0, .int .i64 32767]) 1).run Tryz.prog W = .ok (.int .i64 32767) W := fun _ => by kernel_rfl
  have HN := Lib.hid (fun w => natC 15 32767 15 rfl (by decide) (by decide) w)
  go_enter Tryz.func34, Tryz.ntmps34
  go_wp2_with fail
  go_region_held3 (fun w' => Below w.heap.size w w')
    (first | exact H1.out.drew | exact HB.out | exact Below.set2 HB.out (Nat.le_refl _) _ _)
    (first | (go_at_call 40; refine (HN.out _).mono ?_; rintro e w1 ⟨rfl, hB⟩; have HB := Lib.hid (nx H1.out.drew hB); have HR := Lib.hid (b1.out.drew.up hB); obtain ⟨c0, c1, c2, c3, c4⟩ := cells2 HR.out; clear hB))
  clear hw hw2 hfd
  go_wp2_with fail
  exact bodyPost_ret (v := .agg #[.int .i64 _, .int .i64 _]) (results_cell_row Tryz.results34 _ _ w.heap.size 30 #[.int .i64 _, .int .i64 _] (0, 0) _ rfl (set2 HR.out _ _) Tryz.underlying30 rfl (by kernel_rfl)) rfl ⟨rfl, Below.set2 HB.out (Nat.le_refl _) _ _⟩
set_option maxHeartbeats 2000000 in
theorem int_32 (w : World) : Calls Tryz.prog 34 #[.int .i64 32] w (RetE w (-2147483648) 2147483647) := by
  have H1 := Lib.hid (below_box' w (.cells zE 30))
  have b1 := Lib.hid (Blk.new w 30 zE)
  have hw : IntKind.i64.wrap 31 = 31 := by decide
  have hw2 : IntKind.i64.wrap (-2147483648) = -2147483648 := by decide
  have hfd : ∀ W : World, (Instr.field 30 (.agg #[.int .i64 0, .int .i64 2147483647]) 1).run Tryz.prog W = .ok (.int .i64 2147483647) W := fun _ => by kernel_rfl
  have HN := Lib.hid (fun w => natC 31 2147483647 31 rfl (by decide) (by decide) w)
  go_enter Tryz.func34, Tryz.ntmps34
  go_wp2_with fail
  go_region_held3 (fun w' => Below w.heap.size w w')
    (first | exact H1.out.drew | exact HB.out | exact Below.set2 HB.out (Nat.le_refl _) _ _)
    (first | (go_at_call 40; refine (HN.out _).mono ?_; rintro e w1 ⟨rfl, hB⟩; have HB := Lib.hid (nx H1.out.drew hB); have HR := Lib.hid (b1.out.drew.up hB); obtain ⟨c0, c1, c2, c3, c4⟩ := cells2 HR.out; clear hB))
  clear hw hw2 hfd
  go_wp2_with fail
  exact bodyPost_ret (v := .agg #[.int .i64 _, .int .i64 _]) (results_cell_row Tryz.results34 _ _ w.heap.size 30 #[.int .i64 _, .int .i64 _] (0, 0) _ rfl (set2 HR.out _ _) Tryz.underlying30 rfl (by kernel_rfl)) rfl ⟨rfl, Below.set2 HB.out (Nat.le_refl _) _ _⟩
theorem bottom_64 (l h : Int) (w : World) : Calls Tryz.prog 26 #[.agg #[.int .i64 l, .int .i64 h], .int .i64 64] w (RetE w l h) := by
  go_enter Tryz.func26, Tryz.ntmps26
  go_wp2_with fail
  exact bodyPost_ret (v := .agg #[.int .i64 _, .int .i64 _]) (results_cell_row Tryz.results26 _ _ (w.heap.size + 1) 30 #[.int .i64 _, .int .i64 _] (0, 0) _ rfl (new2 _ _ _ _) Tryz.underlying30 rfl (by kernel_rfl)) rfl ⟨rfl, box2 _ _ _⟩
set_option maxHeartbeats 1000000 in
theorem bottom_32 (l h p q : Int) (hr : lowE ⟨l, h⟩ = ⟨p, q⟩) (w : World) : Calls Tryz.prog 26 #[.agg #[.int .i64 l, .int .i64 h], .int .i64 32] w (RetE w p q) := by
  have b1 := Lib.hid ((Blk.new w 30 #[.int .i64 l, .int .i64 h]).alloc (.cells zE 30))
  have b2 := Lib.hid (new2 w (.cells #[.int .i64 l, .int .i64 h] 30) 30 zE)
  have H2 := Lib.hid (box2 w (.cells #[.int .i64 l, .int .i64 h] 30) (.cells zE 30))
  have HL := Lib.hid (fun w => low_any l h p q hr w)
  clear hr
  go_enter Tryz.func26, Tryz.ntmps26
  go_wp2_with fail
  refine (HL.out _).mono ?_
  rintro e w1 ⟨rfl, hB⟩
  have HR := Lib.hid (b2.out.up hB)
  have HB := Lib.hid (nx H2.out hB)
  obtain ⟨a0, a1, a2, a3, a4⟩ := cells2 (b1.out.up hB)
  obtain ⟨c0, c1, c2, c3, c4⟩ := cells2 HR.out
  have HA := Lib.hid (b1.out.up hB)
  clear hB b1 b2 H2
  go_wp2_with fail
  exact bodyPost_ret (v := .agg #[.int .i64 _, .int .i64 _]) (results_cell_row Tryz.results26 _ _ (w.heap.size + 1) 30 #[.int .i64 _, .int .i64 _] (0, 0) _ rfl (set2 HR.out _ _) Tryz.underlying30 rfl (by kernel_rfl)) rfl ⟨rfl, Below.set2 HB.out (by omega) _ _⟩
def r16 (l h : Int) : E := if withinB ⟨l, h⟩ ⟨0, 65535⟩ then ⟨l, h⟩ else ⟨0, 65535⟩
set_option maxHeartbeats 1000000 in
theorem bottom_16 (l h p q : Int) (hr : r16 l h = ⟨p, q⟩) (w : World) : Calls Tryz.prog 26 #[.agg #[.int .i64 l, .int .i64 h], .int .i64 16] w (RetE w p q) := by
  have b1 := Lib.hid ((Blk.new w 30 #[.int .i64 l, .int .i64 h]).alloc (.cells zE 30))
  have b2 := Lib.hid (new2 w (.cells #[.int .i64 l, .int .i64 h] 30) 30 zE)
  have H2 := Lib.hid (box2 w (.cells #[.int .i64 l, .int .i64 h] 30) (.cells zE 30))
  have HN := Lib.hid (fun w => natC 16 65535 16 rfl (by decide) (by decide) w)
  have HW := Lib.hid (fun w => within_any l h 0 65535 w)
  unfold r16 at hr
  cases hw : withinB ⟨l, h⟩ ⟨0, 65535⟩
  all_goals
    rw [hw] at hr HW
    simp only [if_true, Bool.false_eq_true, if_false] at hr
    obtain ⟨rfl, rfl⟩ := e_eq hr
    clear hr hw
    go_enter Tryz.func26, Tryz.ntmps26
    go_wp2_with fail
    refine (HN.out _).mono ?_
    rintro e w1 ⟨rfl, hB⟩
    have HR := Lib.hid (b2.out.up hB)
    have HB := Lib.hid (nx H2.out hB)
    obtain ⟨a0, a1, a2, a3, a4⟩ := cells2 (b1.out.up hB)
    have HA := Lib.hid (b1.out.up hB)
    clear hB b1 b2 H2
    go_wp2_with fail
    have HRm := Lib.hid (Blk.new w1 30 #[.int .i64 0, .int .i64 65535])
    have HR1 := Lib.hid (HR.out.alloc (.cells #[.int .i64 0, .int .i64 65535] 30))
    have HA1 := Lib.hid (HA.out.alloc (.cells #[.int .i64 0, .int .i64 65535] 30))
    have HB1 := Lib.hid (nx HB.out (below_box' _ (.cells #[.int .i64 0, .int .i64 65535] 30)))
    refine (HW.out _).mono ?_
    rintro e w2 ⟨rfl, hB⟩
    have HR2 := Lib.hid (HR1.out.up hB)
    have HB2 := Lib.hid (nx HB1.out hB)
    clear a0 a1 a2 a3 a4
    obtain ⟨a0, a1, a2, a3, a4⟩ := cells2 (HA1.out.up hB)
    obtain ⟨c0, c1, c2, c3, c4⟩ := cells2 HR2.out
    obtain ⟨d0, d1, d2, d3, d4⟩ := cells2 (HRm.out.up hB)
    clear hB HR HB HA HR1 HA1 HB1 HRm
    go_wp2_with fail
    exact bodyPost_ret (v := .agg #[.int .i64 _, .int .i64 _]) (results_cell_row Tryz.results26 _ _ (w.heap.size + 1) 30 #[.int .i64 _, .int .i64 _] (0, 0) _ rfl (set2 HR2.out _ _) Tryz.underlying30 rfl (by kernel_rfl)) rfl ⟨rfl, Below.set2 HB2.out (by omega) _ _⟩
end Spc
end Go.Proofs.YtjhgjplhhhgfcaaGreat
