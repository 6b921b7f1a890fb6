/- The law's assignments: full, with, place, met. -/
import Derived.Test.YtejcijbohnlbgaaZS
import Derived.Great.Walk
namespace Go.Proofs.Ytejcijbohnlbgaa
open Go.ChangeShapes Go.WideShapes Go.ChangeAt Go.RowKit
open Zon
set_option linter.unusedVariables false
set_option maxRecDepth 100000
/-- sixty numbers in a block -/
def VecAt (w : World) (g : Nat) (a : Nat → Int) : Prop := FB w g 3 60 (fun q => .int .i64 (a q))
abbrev vecV (g : Nat) : Value := .slice (some ⟨g, 0, none⟩) 60 60
theorem VecAt.up {w w' : World} {g : Nat} {a : Nat → Int} (h : VecAt w g a) (hb : Below w.heap.size w w') : VecAt w' g a := FB.up h hb
theorem VecAt.touch {w w' : World} {g k : Nat} {a : Nat → Int} (h : VecAt w g a) (hb : Touch k w w') (hne : g ≠ k) : VecAt w' g a := FB.touch h hb hne
theorem VecAt.at_ {w : World} {g : Nat} {a : Nat → Int} (h : VecAt w g a) (q : Nat) (hq : q < 60) : w.cell? ⟨g, q, none⟩ = some (.int .i64 (a q)) := FB.cell h q hq
theorem VecAt.congr {w : World} {g : Nat} {a b : Nat → Int} (h : VecAt w g a) (e : ∀ q, q < 60 → a q = b q) : VecAt w g b := FB.congr h fun k hk => by simp only [e k hk]
def updI (a : Nat → Int) (x : Nat) (v : Int) : Nat → Int := fun q => if q = x then v else a q
theorem VecAt.set {w : World} {g : Nat} {a : Nat → Int} (h : VecAt w g a) (x : Nat) (v : Int) : VecAt (w.setCell ⟨g, x, none⟩ (.int .i64 v)) g (updI a x v) :=
  FB.congr (FB.set_ h x (.int .i64 v)) fun k _ => by unfold upd updI; split <;> rfl
theorem VecAt.lt {w : World} {g : Nat} {a : Nat → Int} (h : VecAt w g a) : g < w.heap.size := FB.lt h
theorem make60 (w : World) : (Instr.makeSlice 23 (.int .i64 60) (.int .i64 60)).run Try.prog w = .ok (.slice (some ⟨w.heap.size, 0, none⟩) 60 60) (w.alloc (.cells (arr 60 fun _ => .int .i64 0) 3)) := by kernel_rfl
theorem wpList_make60 {ops : Array Oper} {rest : List Oper} {o : Oper} {a : Act} {w : World} {Q : Exit → Act → World → Prop} (hgd : o.guard = none) (x y : Operand) (ho : o.op = .makeSlice 23 x y)
    (hx : a.eval x = .int .i64 60) (hy : a.eval y = .int .i64 60)
    (h : ∀ w', VecAt w' w.heap.size (fun _ => 0) → Below w.heap.size w w' → w'.heap.size = w.heap.size + 1 → wpList Try.prog ops Q rest (a.put o.dst (vecV w.heap.size)) w') : wpList Try.prog ops Q (o :: rest) a w :=
  wpList_plain hgd fun _ hK => by
    unfold Oper.wp execOp
    simp only [ho, hx, hy, Sem.run_bind, make60 w, Result.andThen_ok, Sem.run_pure]
    exact hK _ _ (h _ (FB.new w _ 60 _) ((Below.refl _ _).alloc (Nat.le_refl _) _) (by simp))
/-- a vector that a call made -/
def Vec (w : World) (a : Nat → Int) (e : Ending) (w' : World) : Prop := ∃ g, e = .returned (vecV g) ∧ w.heap.size ≤ g ∧ VecAt w' g a ∧ Below w.heap.size w w'
def fullV (L : List Int) : Nat → Int := fun q => if q = 0 then 0 else L[q]?.getD 0
theorem fullV_i64 {L : List Int} (h : ∀ x ∈ L, I64 x) (q : Nat) : I64 (fullV L q) := by
  unfold fullV
  split
  · unfold I64; omega
  · cases e : L[q]? with
    | none => simp [I64]
    | some x => exact h x (List.mem_of_getElem? e)
theorem place_math (v n : Int) (hn : 0 < n) : -n < v.tmod n ∧ v.tmod n < n ∧ (0 ≤ v.tmod n → v.tmod n = v % n) ∧ (v.tmod n < 0 → v.tmod n + n = v % n) := by
  have h1 := Int.tmod_lt_of_pos v hn
  have h2 := Int.lt_tmod_of_pos v hn
  have e : v % n = v.tmod n % n := by
    have h := Int.tmod_add_mul_tdiv v n
    have := Int.add_mul_emod_self_left (v.tmod n) n (v.tdiv n)
    rw [h] at this
    exact this
  refine ⟨h2, h1, fun h => ?_, fun h => ?_⟩
  · rw [e, Int.emod_eq_of_lt h h1]
  · rw [e, ← Int.add_emod_right, Int.emod_eq_of_lt (by omega) (by omega)]
end Go.Proofs.Ytejcijbohnlbgaa
