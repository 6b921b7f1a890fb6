/- The law's small. -/
import Derived.Test.YtejcijbohnlbgaaZQ
import Derived.Test.YtejcijbohnlbgaaZOpen
namespace Go.Proofs.Ytejcijbohnlbgaa
open Go.ChangeShapes Go.WideShapes Go.ChangeAt Go.RowKit
open Zon
set_option linter.unusedVariables false
set_option maxRecDepth 100000
def smallB (x : Con) : Bool := (wrong1 x == 0) && decide (-1099511627776 ≤ x.c) && decide (x.c ≤ 1099511627776)
def smallL (L : List Con) : List Con := L.filter smallB
theorem filter_next {α : Type} {L : List α} {j : Nat} {x : α} (h : L[j]? = some x) (f : α → Bool) : (L.take (j + 1)).filter f = (L.take j).filter f ++ (if f x then [x] else []) := by
  rw [take_next L j x h, List.filter_append]
  congr 1
  simp only [List.filter_cons, List.filter_nil]
theorem filter_len {α : Type} (L : List α) (j : Nat) (f : α → Bool) : ((L.take j).filter f).length ≤ j := by
  have := List.length_filter_le f (L.take j)
  rw [List.length_take] at this
  omega
theorem cons_sub {w : World} {b o : Nat} {x : Con} (hb : b < w.heap.size) (h : ConIs w b o x) : ConsAt w (some ⟨b, o, none⟩) [x] := fun _ =>
  ⟨b, o, rfl, hb, fun k y hy => by
    cases k with
    | zero => simp at hy; subst hy; rw [Nat.zero_mul, Nat.add_zero]; exact h
    | succ k => simp at hy⟩
theorem wrongL_one (x : Con) : wrongL [x] = wrong1 x := by
  show (if wrong1 x = 0 then 0 else wrong1 x) = _
  split
  · rename_i h; exact h.symm
  · rfl
end Go.Proofs.Ytejcijbohnlbgaa
