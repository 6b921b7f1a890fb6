/- The document's wide numbers, as far as they are numbers of 64 bits: number. -/
import Derived.Test.YtjhgjplhhhgfcaaGreatSpWc
namespace Go.Proofs.YtjhgjplhhhgfcaaGreat
open Go.ChangeShapes Go.WideShapes Go.ChangeAt Go.RowKit
open Spn
namespace Spc
set_option linter.unusedVariables false
set_option maxRecDepth 100000
def NbW (w0 : World) (b : Bool) (p q : Int) (w : World) : Prop := Blk w w0.heap.size 67 (cW b p q) ∧ Below w0.heap.size w0 w
theorem NbW.up {w0 w w' : World} {b : Bool} {p q : Int} (h : NbW w0 b p q w) (hb : Below w.heap.size w w') : NbW w0 b p q w' := ⟨h.1.up hb, nx h.2 hb⟩
theorem NbW.drew {w0 w : World} {b : Bool} {p q : Int} (h : NbW w0 b p q w) : NbW w0 b p q w.drew := ⟨h.1.drew, h.2.drew⟩
abbrev NbS (w0 : World) (b : Bool) (p q : Int) (w : World) : Prop :=
  w.cell? ⟨w0.heap.size, 0, none⟩ = some (.bool b) ∧ w.cell? ⟨w0.heap.size, 1, none⟩ = some (.int .u32 p) ∧ w.cell? ⟨w0.heap.size, 2, none⟩ = some (.int .u32 q) ∧ w.cell? ⟨w0.heap.size, 3, none⟩ = some (.int .u32 0) ∧ w.cell? ⟨w0.heap.size, 4, none⟩ = some (.int .u32 0) ∧ NbW w0 b p q w
theorem nbS {w0 w : World} {b : Bool} {p q : Int} (h : NbW w0 b p q w) : NbS w0 b p q w := by
  obtain ⟨x0, x1, x2, x3, x4⟩ := cells5 h.1
  exact ⟨x0, x1, x2, x3, x4, h⟩
theorem least_64 : I64 (-9223372036854775808) := by unfold I64 LEAST TOP; decide
theorem most_64 : I64 9223372036854775807 := by unfold I64 LEAST TOP; decide
theorem sg_ge {u v : Int} (h : v ≤ u) : sgC u v = if v = u then 0 else 1 := by
  split
  · exact sg_eq0 (by omega)
  · exact sg_gt (by omega)
theorem or_parts (p q : Nat) (hp : p < 4294967296) (hq : q ≤ 2147483648) : bits BinOp.or IntKind.u64 (IntKind.u64.wrap (p : Int)) (IntKind.u64.wrap (IntKind.u64.wrap (q : Int) * 4294967296)) = ((4294967296 * q + p : Nat) : Int) := by
  have e1 : IntKind.u64.wrap (p : Int) = (p : Int) := by rw [IntKind.wrap_u64]; omega
  have e2 : IntKind.u64.wrap (IntKind.u64.wrap (q : Int) * 4294967296) = ((4294967296 * q : Nat) : Int) := by rw [IntKind.wrap_u64, IntKind.wrap_u64]; omega
  rw [e1, e2, u64_or_nat p (4294967296 * q) (by omega) (by omega)]
  have h := Nat.two_pow_add_eq_or_of_lt (i := 32) (b := p) (by omega) q
  rw [Nat.or_comm]
  have h' : 4294967296 * q + p = 4294967296 * q ||| p := h
  rw [h']
theorem back_or {v : Int} (h : I64 v) : bits BinOp.or IntKind.u64 (IntKind.u64.wrap (d0 v)) (IntKind.u64.wrap (IntKind.u64.wrap (d1 v) * 4294967296)) = absI v := by
  obtain ⟨a1, a2, a3⟩ := abs_d (u := v)
  have a4 : 0 ≤ d1 v ∧ d1 v ≤ 2147483648 := by unfold d1 absI; unfold I64 LEAST TOP at h; split <;> omega
  rw [a1]
  generalize d0 v = p at *
  generalize d1 v = q at *
  obtain ⟨p', rfl⟩ := Int.eq_ofNat_of_zero_le a2
  obtain ⟨q', rfl⟩ := Int.eq_ofNat_of_zero_le a4.1
  have := or_parts p' q' (by omega) (by omega)
  refine Eq.trans this ?_
  omega
theorem back_pos {v : Int} (h : I64 v) (h0 : ¬ v < 0) : wrap64 (bits BinOp.or IntKind.u64 (IntKind.u64.wrap (d0 v)) (IntKind.u64.wrap (IntKind.u64.wrap (d1 v) * 4294967296))) = v := by
  rw [back_or h]
  have e : absI v = v := by unfold absI; rw [if_neg h0]
  rw [e]
  exact w64_id h
theorem back_neg {v : Int} (h : I64 v) (h0 : v < 0) : wrap64 (IntKind.u64.wrap (-bits BinOp.or IntKind.u64 (IntKind.u64.wrap (d0 v)) (IntKind.u64.wrap (IntKind.u64.wrap (d1 v) * 4294967296)))) = v := by
  rw [back_or h]
  have e : absI v = -v := by unfold absI; rw [if_pos h0]
  rw [e, Int.neg_neg]
  unfold I64 LEAST TOP at h
  rw [IntKind.wrap_u64]
  unfold wrap64
  omega
set_option maxHeartbeats 4000000 in
theorem number_W (v : Int) (h : I64 v) (w : World) : Calls Tryz.prog 74 #[vW v] w fun e w' => e = .returned (.tuple #[.int .i64 v, .bool true]) ∧ Below w.heap.size w w' := by
  have W0 := Lib.hid (show NbW w (decide (v < 0)) (d0 v) (d1 v) (w.alloc (.cells (cW (decide (v < 0)) (d0 v) (d1 v)) 67)).drew from ⟨(Blk.new w _ _).drew, (below_box' w _).drew⟩)
  have HW1 := Lib.hid (fun w => wide_W (-9223372036854775808) least_64 w)
  have HW2 := Lib.hid (fun w => wide_W 9223372036854775807 most_64 w)
  have HC1 := Lib.hid (fun w => cmp_W v (-9223372036854775808) w)
  have HC2 := Lib.hid (fun w => cmp_W v 9223372036854775807 w)
  have c1 : sgC v (-9223372036854775808) = 0 ∨ sgC v (-9223372036854775808) = 1 := by
    unfold sgC; unfold I64 LEAST at h; rw [if_neg (by omega)]; split
    · exact .inr rfl
    · exact .inl rfl
  have c2 : sgC v 9223372036854775807 = -1 ∨ sgC v 9223372036854775807 = 0 := by
    unfold sgC; unfold I64 TOP at h; split
    · exact .inl rfl
    · rw [if_neg (by omega)]; exact .inr rfl
  have hbody : ∀ r1 r2 : Int, (r1 = 0 ∨ r1 = 1) → (r2 = -1 ∨ r2 = 0) → (∀ w, Calls Tryz.prog 73 #[vW v, vW (-9223372036854775808)] w (RetI w r1)) → (∀ w, Calls Tryz.prog 73 #[vW v, vW 9223372036854775807] w (RetI w r2)) →
      Calls Tryz.prog 74 #[vW v] w fun e w' => e = .returned (.tuple #[.int .i64 v, .bool true]) ∧ Below w.heap.size w w' := by
    intro r1 r2 h1 h2 k1 k2
    have HC1 := Lib.hid k1
    have HC2 := Lib.hid k2
    clear k1 k2 c1 c2
    by_cases h0 : v < 0
    · have HB := Lib.hid (back_neg h h0)
      have T0 := Lib.hid (show decide (v < 0) = true from decide_eq_true h0)
      clear h h0
      rcases h1 with rfl | rfl <;> rcases h2 with rfl | rfl
      all_goals
        go_enter Tryz.func74, Tryz.ntmps74
        go_wp2_with fail
        go_region_held3 (fun w' => w'.cell? ⟨w.heap.size, 0, none⟩ = some (.bool (decide (v < 0))) ∧ w'.cell? ⟨w.heap.size, 1, none⟩ = some (.int .u32 (d0 v)) ∧ w'.cell? ⟨w.heap.size, 2, none⟩ = some (.int .u32 (d1 v)) ∧ w'.cell? ⟨w.heap.size, 3, none⟩ = some (.int .u32 0) ∧ w'.cell? ⟨w.heap.size, 4, none⟩ = some (.int .u32 0) ∧ NbW w (decide (v < 0)) (d0 v) (d1 v) w')
          (first | with_reducible exact nbS W0.out | with_reducible exact nbS W1.out | with_reducible exact nbS W2.out | with_reducible exact nbS W3.out | with_reducible exact nbS W4.out)
          (first | (go_at_call 46; (with_reducible refine (HW1.out _).mono ?_); rintro e w1 ⟨rfl, hB⟩; have W1 := Lib.hid (W0.out.up hB); clear hB)
                 | (go_at_call 73; (with_reducible refine (HC1.out _).mono ?_); rintro e w2 ⟨rfl, hB⟩; have W2 := Lib.hid (W1.out.up hB); clear hB)
                 | (go_at_call 46; (with_reducible refine (HW2.out _).mono ?_); rintro e w3 ⟨rfl, hB⟩; have W3 := Lib.hid (W2.out.up hB); clear hB)
                 | (go_at_call 73; (with_reducible refine (HC2.out _).mono ?_); rintro e w4 ⟨rfl, hB⟩; have W4 := Lib.hid (W3.out.up hB); clear hB))
        rename_i hh
        clear hh
        obtain ⟨x0, x1, x2, x3, x4, -⟩ := nbS W4.out
        rw [T0.out] at x0
        go_wp2_with fail
        go_ret2
        exact ⟨by show Ending.returned (.tuple #[.int .i64 _, .bool true]) = _; rw [HB.out], W4.out.2⟩
    · have HB := Lib.hid (back_pos h h0)
      have T0 := Lib.hid (show decide (v < 0) = false from decide_eq_false h0)
      clear h h0
      rcases h1 with rfl | rfl <;> rcases h2 with rfl | rfl
      all_goals
        go_enter Tryz.func74, Tryz.ntmps74
        go_wp2_with fail
        go_region_held3 (fun w' => w'.cell? ⟨w.heap.size, 0, none⟩ = some (.bool (decide (v < 0))) ∧ w'.cell? ⟨w.heap.size, 1, none⟩ = some (.int .u32 (d0 v)) ∧ w'.cell? ⟨w.heap.size, 2, none⟩ = some (.int .u32 (d1 v)) ∧ w'.cell? ⟨w.heap.size, 3, none⟩ = some (.int .u32 0) ∧ w'.cell? ⟨w.heap.size, 4, none⟩ = some (.int .u32 0) ∧ NbW w (decide (v < 0)) (d0 v) (d1 v) w')
          (first | with_reducible exact nbS W0.out | with_reducible exact nbS W1.out | with_reducible exact nbS W2.out | with_reducible exact nbS W3.out | with_reducible exact nbS W4.out)
          (first | (go_at_call 46; (with_reducible refine (HW1.out _).mono ?_); rintro e w1 ⟨rfl, hB⟩; have W1 := Lib.hid (W0.out.up hB); clear hB)
                 | (go_at_call 73; (with_reducible refine (HC1.out _).mono ?_); rintro e w2 ⟨rfl, hB⟩; have W2 := Lib.hid (W1.out.up hB); clear hB)
                 | (go_at_call 46; (with_reducible refine (HW2.out _).mono ?_); rintro e w3 ⟨rfl, hB⟩; have W3 := Lib.hid (W2.out.up hB); clear hB)
                 | (go_at_call 73; (with_reducible refine (HC2.out _).mono ?_); rintro e w4 ⟨rfl, hB⟩; have W4 := Lib.hid (W3.out.up hB); clear hB))
        rename_i hh
        clear hh
        obtain ⟨x0, x1, x2, x3, x4, -⟩ := nbS W4.out
        rw [T0.out] at x0
        go_wp2_with fail
        go_ret2
        exact ⟨by show Ending.returned (.tuple #[.int .i64 _, .bool true]) = _; rw [HB.out], W4.out.2⟩
  rcases c1 with c1 | c1 <;> rcases c2 with c2 | c2
  all_goals
    refine hbody _ _ ?_ ?_ (fun w => by have := HC1.out w; rwa [c1] at this) (fun w => by have := HC2.out w; rwa [c2] at this) <;> omega
end Spc
end Go.Proofs.YtjhgjplhhhgfcaaGreat
