/- SpanZeros: its walk. -/
import Derived.Test.YtjhgjplhhhgfcaaSpU
import Derived.Test.YtjhgjplhhhgfcaaSpV
namespace Go.Proofs.Ytjhgjplhhhgfcaa
open Go.ChangeShapes Go.WideShapes Go.ChangeAt Go.RowKit
open Spn Spc
set_option linter.unusedVariables false
set_option maxRecDepth 100000
/-- the number that is asked about -/
def lowN (n : Bool) (v : Int) : Int := if n then bits BinOp.and IntKind.i64 v 4294967295 else v
theorem lowN_eq (n : Bool) (v : Int) : lowN n v = if n then v % 4294967296 else v := by
  unfold lowN; cases n
  · rfl
  · exact and32 v
set_option maxHeartbeats 4000000 in
theorem spanZeros_walk (w : World) (n : Bool) (lo hi : Int) (nl nh : Bool) (x : Int) (hx : -9223372036854775808 ≤ x ∧ x ≤ 9223372036854775807) :
    Calls Try.prog 7 #[.bool n, .agg #[.int .i64 lo, .int .i64 hi, .bool nl, .bool nh], .int .i64 x] w fun e w' => e = .returned (.bool true) ∧ Below w.heap.size w w' := by
  have H2 := Lib.hid (below_box' w (.cells #[.int .i64 lo, .int .i64 hi, .bool nl, .bool nh] 23))
  have b1 := Lib.hid (Blk.new w 23 #[.int .i64 lo, .int .i64 hi, .bool nl, .bool nh])
  have HI := Lib.hid (fun w => inside_any lo hi nl nh x w)
  have HN := Lib.hid (fun w => notzero_any n lo hi nl nh w)
  have HA := Lib.hid (fun w => awake_any w)
  rcases eo : ofX x x with ⟨oa, ob, op_, oq⟩
  have HO := Lib.hid (fun w => of_any x x oa ob op_ oq eo w)
  have HN2 := Lib.hid (fun w => notzero_any n oa ob op_ oq w)
  have hone : (-1152921504606846976 ≤ x ∧ x ≤ 1152921504606846976) → nzX n (rd ⟨oa, ob, op_, oq⟩) = (lowN n x != 0) := by
    intro h
    rw [← eo]
    unfold ofX
    rw [if_neg (Int.lt_irrefl x), rd_sp_small (⟨x, x⟩ : E) (Int.le_refl x) h.1 h.2, nz_one, lowN_eq]
  have hnz : nzX n (rd ⟨lo, hi, nl, nh⟩) = true → lowN n (insX ⟨lo, hi, nl, nh⟩ x) ≠ 0 := by
    intro h
    rw [lowN_eq]
    exact nz_ok n _ (rd_ok _).1 h (ins_has _ _ hx)
  have HONE := Lib.hid hone
  have HNZ := Lib.hid hnz
  clear hone hnz eo
  generalize insX ⟨lo, hi, nl, nh⟩ x = v at *
  generalize nzX n (rd ⟨oa, ob, op_, oq⟩) = z2 at *
  generalize nzX n (rd ⟨lo, hi, nl, nh⟩) = z1 at *
  cases n
  · replace HNZ := Lib.hid (show z1 = true → v ≠ 0 from HNZ.out)
    replace HONE := Lib.hid (show (-1152921504606846976 ≤ x ∧ x ≤ 1152921504606846976) → z2 = (x != 0) from HONE.out)
    rcases (by omega : x < -1152921504606846976 ∨ 1152921504606846976 < x ∨ (-1152921504606846976 ≤ x ∧ x ≤ 1152921504606846976)) with h3 | h3 | h3
    all_goals
      cases z1
    all_goals
      first
        | (have t1 : (v == 0) = false := by rw [beq_eq_false_iff_ne]; exact HNZ.out rfl)
        | skip
      first
        | (have t2 : (z2 == (x != 0)) = true := by
             have h5 : z2 = (x != 0) := HONE.out h3
             rw [h5]; exact beq_self_eq_true _)
        | skip
      first | (obtain ⟨h3, h4⟩ := h3) | skip
      go_enter Try.func7, Try.ntmps7
      go_wp2_with fail
      refine (HI.out _).mono ?_
      rintro e w1 ⟨rfl, hB⟩
      have X1 := Lib.hid (b1.out.up hB)
      have B1 := Lib.hid (nx H2.out hB)
      clear hB b1 H2
      obtain ⟨⟨c0, c1, c2, c3⟩, -, c8⟩ := cells4 X1.out
      go_wp2_with fail
      refine (HN.out _).mono ?_
      rintro e w2 ⟨rfl, hB⟩
      have B2 := Lib.hid (nx B1.out hB)
      clear hB c0 c1 c2 c3 c8 X1 B1
      go_wp2_with fail
      refine (HA.out _).mono ?_
      rintro e w3 ⟨rfl, hB⟩
      have B3 := Lib.hid (nx B2.out hB)
      clear hB B2
      go_wp2_with fail
      refine (HO.out _).mono ?_
      rintro e w4 ⟨rfl, hB⟩
      have B4 := Lib.hid (nx (nx B3.out hB) (below_box' _ (.cells #[.int .i64 oa, .int .i64 ob, .bool op_, .bool oq] 23)))
      clear hB B3
      go_wp2_with fail
      first
        | (go_ret; exact ⟨rfl, B4.out⟩)
        | (refine (HN2.out _).mono ?_
           rintro e w5 ⟨rfl, hB⟩
           have B5 := Lib.hid (nx B4.out hB)
           clear hB B4
           go_wp2_with fail
           go_ret
           exact ⟨rfl, B5.out⟩)
  · replace HNZ := Lib.hid (show z1 = true → bits BinOp.and IntKind.i64 v 4294967295 ≠ 0 from HNZ.out)
    replace HONE := Lib.hid (show (-1152921504606846976 ≤ x ∧ x ≤ 1152921504606846976) → z2 = (bits BinOp.and IntKind.i64 x 4294967295 != 0) from HONE.out)
    rcases (by omega : x < -1152921504606846976 ∨ 1152921504606846976 < x ∨ (-1152921504606846976 ≤ x ∧ x ≤ 1152921504606846976)) with h3 | h3 | h3
    all_goals
      cases z1
    all_goals
      first
        | (have t1 : ((bits BinOp.and IntKind.i64 v 4294967295) == 0) = false := by rw [beq_eq_false_iff_ne]; exact HNZ.out rfl)
        | skip
      first
        | (have t2 : (z2 == ((bits BinOp.and IntKind.i64 x 4294967295) != 0)) = true := by
             have h5 : z2 = ((bits BinOp.and IntKind.i64 x 4294967295) != 0) := HONE.out h3
             rw [h5]; exact beq_self_eq_true _)
        | skip
      first | (obtain ⟨h3, h4⟩ := h3) | skip
      go_enter Try.func7, Try.ntmps7
      go_wp2_with fail
      refine (HI.out _).mono ?_
      rintro e w1 ⟨rfl, hB⟩
      have X1 := Lib.hid (b1.out.up hB)
      have B1 := Lib.hid (nx H2.out hB)
      clear hB b1 H2
      obtain ⟨⟨c0, c1, c2, c3⟩, -, c8⟩ := cells4 X1.out
      go_wp2_with fail
      refine (HN.out _).mono ?_
      rintro e w2 ⟨rfl, hB⟩
      have B2 := Lib.hid (nx B1.out hB)
      clear hB c0 c1 c2 c3 c8 X1 B1
      go_wp2_with fail
      refine (HA.out _).mono ?_
      rintro e w3 ⟨rfl, hB⟩
      have B3 := Lib.hid (nx B2.out hB)
      clear hB B2
      go_wp2_with fail
      refine (HO.out _).mono ?_
      rintro e w4 ⟨rfl, hB⟩
      have B4 := Lib.hid (nx (nx B3.out hB) (below_box' _ (.cells #[.int .i64 oa, .int .i64 ob, .bool op_, .bool oq] 23)))
      clear hB B3
      go_wp2_with fail
      first
        | (go_ret; exact ⟨rfl, B4.out⟩)
        | (refine (HN2.out _).mono ?_
           rintro e w5 ⟨rfl, hB⟩
           have B5 := Lib.hid (nx B4.out hB)
           clear hB B4
           go_wp2_with fail
           go_ret
           exact ⟨rfl, B5.out⟩)
end Go.Proofs.Ytjhgjplhhhgfcaa
