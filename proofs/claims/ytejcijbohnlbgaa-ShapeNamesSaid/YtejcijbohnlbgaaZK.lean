/- Contracts of package zone: told, Bound. -/
import Derived.Test.YtejcijbohnlbgaaZJ
namespace Go.Proofs.Ytejcijbohnlbgaa
open Go.ChangeShapes Go.WideShapes Go.ChangeAt Go.RowKit
open Zon
set_option linter.unusedVariables false
set_option maxRecDepth 100000
/-- a bound as it is told -/
def bnd (x : Int) : Option Int := if x = 3458764513820540928 then none else some x
def bv : Option Int → Value | none => .agg #[.bool false, .int .i64 0] | some x => .agg #[.bool true, .int .i64 x]
def getZ (z : Zn) (i j : Int) : Option Int := match z with | none => none | some M => if varB i && varB j then bnd (M i.toNat j.toNat) else none
def Val (v : Value) (w : World) (e : Ending) (w' : World) : Prop := e = .returned v ∧ Below w.heap.size w w'
set_option maxHeartbeats 1000000 in
theorem told_any (w : World) (x : Int) : Calls Try.prog 66 #[.int .i64 x] w (Val (bv (bnd x)) w) := by
  by_cases h : x = 3458764513820540928
  · have t : (x == 3458764513820540928) = true := by rw [h]; rfl
    have HE := Lib.hid (show bv (bnd x) = .agg #[.bool false, .int .i64 0] by unfold bnd; rw [if_pos h]; rfl)
    clear h
    go_enter Try.func66, Try.ntmps66
    go_wp2_with fail
    exact bodyPost_ret (v := .agg #[.bool false, .int .i64 0]) (by simp [results, Try.results66, go_sem]) rfl ⟨by rw [HE.out], below_box w _⟩
  · have t : (x == 3458764513820540928) = false := by rw [beq_eq_false_iff_ne]; exact h
    have HE := Lib.hid (show bv (bnd x) = .agg #[.bool true, .int .i64 x] by unfold bnd; rw [if_neg h]; rfl)
    clear h
    go_enter Try.func66, Try.ntmps66
    go_wp2_with fail
    exact bodyPost_ret (v := .agg #[.bool true, .int .i64 x]) (by simp [results, Try.results66, go_sem]) rfl ⟨by rw [HE.out], below_box w _⟩
def bvA : Option Int → Array Value | none => #[.bool false, .int .i64 0] | some x => #[.bool true, .int .i64 x]
theorem bv_eq (o : Option Int) : bv o = .agg (bvA o) := by cases o <;> rfl
theorem bvA_size (o : Option Int) : (bvA o).size = 2 := by cases o <;> rfl
theorem bvA_one (o : Option Int) : (bvA o).all (·.oneCell') = true := by cases o <;> simp [bvA, Value.oneCell']
theorem sizeBound : (Try.prog.info? 77).map (·.size) = some 2 := by kernel_rfl
set_option maxHeartbeats 1000000 in
theorem Bound_at (w : World) (g i j : Nat) (M : Tab) (hz : ZoneAt w g (some M)) (hi : i < 60) (hj : j < 60) :
    Calls Try.prog 31 #[.pointer (some ⟨g, 0, none⟩), .int .i64 i, .int .i64 j] w (Val (bv (bnd (M i j))) w) := by
  have hx := ZB.head hz.1
  have hc := hz.1.at_ i j hi hj
  have hx1 : (w.alloc (.cells #[.bool false, .int .i64 0] 77)).cell? ⟨g, 0, none⟩ = some (.bool false) := by rw [(below_box w _).cell (p := ⟨g, 0, none⟩) hz.lt]; exact hx
  have hc1 : (w.alloc (.cells #[.bool false, .int .i64 0] 77)).cell? ⟨g, 1 + i * 60 + j, none⟩ = some (.int .i64 (M i j)) := by rw [(below_box w _).cell (p := ⟨g, 1 + i * 60 + j, none⟩) hz.lt]; exact hc
  have hi1 : (i : Int) < 60 := by omega
  have hi0 : (0 : Int) ≤ i := by omega
  have hj1 : (j : Int) < 60 := by omega
  have hj0 : (0 : Int) ≤ j := by omega
  have v1 : varB i = true := by unfold varB; simp; omega
  have v2 : varB j = true := by unfold varB; simp; omega
  have HB := Lib.hid (Blk.new w 77 #[.bool false, .int .i64 0])
  clear hx hc hz
  generalize M i j = x at *
  go_enter Try.func31, Try.ntmps31
  go_upto_region 3 with (go_at_call 51; refine (variable_any _ _).mono ?_; rintro e w' ⟨rfl, rfl⟩)
  go_wp2_with fail
  go_at_call 66
  refine (told_any _ x).mono ?_
  rintro e w2 ⟨rfl, hB2⟩
  rw [bv_eq]
  have HB2 := Lib.hid (HB.out.below hB2 (by simp))
  have HBB := Lib.hid ((below_box w _).trans (hB2.mono (by simp)))
  clear hB2 HB hx1 hc1
  go_wp2_with (refine wpList_store_row rfl 77 _ _ rfl w.heap.size (bvA (bnd x)) rfl rfl 77 _ HB2.out (by rw [sizeBound, bvA_size]) (by rw [bvA_size]; rfl) (bvA_one _) ?_)
  refine bodyPost_ret (results_cell_row rfl _ _ w.heap.size 77 (bvA (bnd x)) (0, 0) _ rfl (setRow_heap w2 w.heap.size _ _ _ _ HB2.out) Try.underlying77 rfl (by rw [sizeBound, bvA_size])) rfl ⟨by rw [bv_eq], ?_⟩
  exact HBB.out.trans ((setRow_touch w2 w.heap.size _).below (Nat.le_refl _) HBB.out.size)
set_option maxHeartbeats 1000000 in
theorem Bound_no (w : World) (g : Nat) (i j : Int) (z : Zn) (hz : ZoneAt w g z) (h : z = none ∨ varB i = false ∨ varB j = false) :
    Calls Try.prog 31 #[.pointer (some ⟨g, 0, none⟩), .int .i64 i, .int .i64 j] w (Val (bv none) w) := by
  obtain ⟨b, hb, hx⟩ : ∃ b, voidB z = b ∧ w.cell? ⟨g, 0, none⟩ = some (.bool b) := by
    cases z with
    | none => exact ⟨true, rfl, ZB.head (show ZB w g true zeroM from hz)⟩
    | some M => exact ⟨false, rfl, ZB.head hz.1⟩
  have hx1 : (w.alloc (.cells #[.bool false, .int .i64 0] 77)).cell? ⟨g, 0, none⟩ = some (.bool b) := by rw [(below_box w _).cell (p := ⟨g, 0, none⟩) hz.lt]; exact hx
  have hcase : b = true ∨ (b = false ∧ varB i = false) ∨ (b = false ∧ varB i = true ∧ varB j = false) := by
    cases b
    · rcases h with h | h | h
      · subst h; cases hb
      · exact .inr (.inl ⟨rfl, h⟩)
      · cases e : varB i
        · exact .inr (.inl ⟨rfl, rfl⟩)
        · exact .inr (.inr ⟨rfl, rfl, h⟩)
    · exact .inl rfl
  clear hx hz hb h
  rcases hcase with rfl | ⟨rfl, v1⟩ | ⟨rfl, v1, v2⟩
  all_goals
    go_enter Try.func31, Try.ntmps31
    go_wp2_with (go_at_call 51; refine (variable_any _ _).mono ?_; rintro e w' ⟨rfl, rfl⟩)
    exact bodyPost_ret (v := .agg #[.bool false, .int .i64 0]) (by simp [results, Try.results31, go_sem]) rfl ⟨rfl, below_box w _⟩
end Go.Proofs.Ytejcijbohnlbgaa
