/- Package code: caught, and the deferred closure of Decode. -/
import Derived.Test.YthibideapapcbaaDoorCodeG4
import Derived.Recover
import Derived.Laws.Pointers
namespace Go.Proofs.YthibideapapcbaaDoor
open Go.ChangeShapes Go.WideShapes Go.ChangeAt Go.RowKit
open Cod Bits
set_option linter.unusedVariables false
set_option linter.unusedSimpArgs false

theorem caught_nil (w : World) : Calls Tryd.prog 42 #[.nilIface] w fun e w' => e = .returned (.int .i64 0) ∧ w = w' := by
  go_enter Tryd.func42, Tryd.ntmps42
  go_wp2_with fail
  go_ret
  exact ⟨rfl, rfl⟩
theorem caught_err (x : Int) (w : World) : Calls Tryd.prog 42 #[.iface 26 (.int .i64 x)] w fun e w' => e = .returned (.int .i64 x) ∧ w = w' := by
  have hta : ∀ w, (Instr.typeAssert (.iface 26 (.int .i64 x)) 20 26 true).run Tryd.prog w = .ok (.tuple #[.int .i64 x, .bool true]) w := fun _ => by kernel_rfl
  go_enter Tryd.func42, Tryd.ntmps42
  go_wp2_with fail
  go_ret
  exact ⟨rfl, rfl⟩
theorem catch_panicking (ge gl ga g : Nat) (x old olda bg : Int) (hx : x ≠ 0) (oldl : Value) (older : List PanicEntry) (w : World) (ce : w.cell? ⟨ge, 0, none⟩ = some (.int .i64 old)) (fe : w.frozen? ⟨ge, 0, none⟩ = false) (cl : w.cell? ⟨gl, 0, none⟩ = some oldl) (fl : w.frozen? ⟨gl, 0, none⟩ = false)
    (ca : w.cell? ⟨ga, 0, none⟩ = some (.int .i64 olda)) (fa : w.frozen? ⟨ga, 0, none⟩ = false) (cb : w.cell? ⟨g, 2, none⟩ = some (.int .i64 bg)) (h1 : ge ≠ gl) (h2 : ge ≠ ga) (h3 : ge ≠ g) (h4 : gl ≠ ga) (h5 : gl ≠ g) :
    CallsD Tryd.prog 41 #[.pointer (some ⟨ge, 0, none⟩), .pointer (some ⟨g, 0, none⟩), .pointer (some ⟨gl, 0, none⟩), .pointer (some ⟨ga, 0, none⟩)] (.panicking ({ v := .iface 26 (.int .i64 x), recovered := false } :: older)) w fun e u' w' =>
      e = .returned (.tuple #[]) ∧ u' = .panicking ({ v := .iface 26 (.int .i64 x), recovered := true } :: older) ∧ w' = ((w.setCell ⟨ge, 0, none⟩ (.int .i64 x)).setCell ⟨gl, 0, none⟩ (.slice none 0 0)).setCell ⟨ga, 0, none⟩ (.int .i64 bg) := by
  refine callsD_of_wpS Tryd.func41 rfl fun c₀ cs hu => ?_
  apply wpS_seq
  apply wpS_region
  simp [wpOpsS, go_sem, recoverD, hu, Tryd.ntmps41, Exit.thenS]
  refine (caught_err x w).mono ?_
  rintro e w' ⟨rfl, rfl⟩
  simp [go_sem, ce, fe]
  apply wpS_seq
  apply wpS_region
  simp [wpOpsS, go_sem, ce, fe, Exit.thenS, hx]
  refine wpS_cond (t := true) (by simp [Act.eval, hx]) ?_
  simp only [if_true]
  apply wpS_region
  simp [wpOpsS, go_sem, ce, fe, cl, fl, ca, fa, cb, h1, h2, h3, h4, h5, h1.symm, h2.symm, h3.symm, h4.symm, h5.symm, bodyPostS, results, Tryd.results41]
theorem catch_idle (ge gl ga g : Nat) (old : Int) (w : World) (ce : w.cell? ⟨ge, 0, none⟩ = some (.int .i64 old)) (fe : w.frozen? ⟨ge, 0, none⟩ = false) :
    CallsD Tryd.prog 41 #[.pointer (some ⟨ge, 0, none⟩), .pointer (some ⟨g, 0, none⟩), .pointer (some ⟨gl, 0, none⟩), .pointer (some ⟨ga, 0, none⟩)] .returning w fun e u' w' =>
      e = .returned (.tuple #[]) ∧ u' = .returning ∧ w' = w.setCell ⟨ge, 0, none⟩ (.int .i64 0) := by
  refine callsD_of_wpS Tryd.func41 rfl fun c₀ cs hu => ?_
  apply wpS_seq
  apply wpS_region
  simp [wpOpsS, go_sem, recoverD, hu, Tryd.ntmps41, Exit.thenS]
  refine (caught_nil w).mono ?_
  rintro e w' ⟨rfl, rfl⟩
  simp [go_sem, ce, fe]
  apply wpS_seq
  apply wpS_region
  simp [wpOpsS, go_sem, ce, fe, Exit.thenS]
  refine wpS_cond (t := false) (by simp [Act.eval]) ?_
  simp only [Bool.false_eq_true, if_false]
  refine wpS_of_wp (wp_skip ?_)
  cases c₀
  simp_all [bodyPostS, results, Tryd.results41]
end Go.Proofs.YthibideapapcbaaDoor
