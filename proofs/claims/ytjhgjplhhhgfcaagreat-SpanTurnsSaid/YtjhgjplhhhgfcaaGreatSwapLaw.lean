/- WordSwaps: the walk of the law. -/
import Derived.Test.YtjhgjplhhhgfcaaGreatSwap
namespace Go.Proofs.YtjhgjplhhhgfcaaGreat
open Go.ChangeShapes Go.WideShapes Go.ChangeAt Go.RowKit
open Bits

def swapI (k : Int) (t : Bool) (a : Int) : Int := if k = 16 ∨ k = 32 ∨ k = 64 then swapV (k.toNat / 8) t a else 0
theorem swapI_yes (n : Nat) (t : Bool) (a : Int) (h : n = 2 ∨ n = 4 ∨ n = 8) : swapI ((8 * n : Nat) : Int) t a = swapV n t a := by
  unfold swapI
  rw [if_pos (by omega), Int.toNat_natCast, Nat.mul_div_cancel_left _ (by decide)]

theorem swap_any (k : Int) (t : Bool) (a : Int) (w : World) :
    Calls Tryz.prog 24 #[.int .i64 k, .bool t, .int .i64 a] w fun e w' => e = .returned (.int .i64 (swapI k t a)) ∧ w = w' := by
  by_cases h : k = 16 ∨ k = 32 ∨ k = 64
  · obtain ⟨n, hn, rfl⟩ : ∃ n : Nat, (n = 2 ∨ n = 4 ∨ n = 8) ∧ k = ((8 * n : Nat) : Int) := by
      rcases h with rfl | rfl | rfl
      · exact ⟨2, by omega, rfl⟩
      · exact ⟨4, by omega, rfl⟩
      · exact ⟨8, by omega, rfl⟩
    rw [swapI_yes n t a hn]
    exact swap_core n t a hn w
  · have e : swapI k t a = 0 := by unfold swapI; rw [if_neg h]
    rw [e]
    exact swap_no k t a (fun x => h (.inl x)) (fun x => h (.inr (.inl x))) (fun x => h (.inr (.inr x))) w
theorem refSwap_any (k : Int) (t : Bool) (a : Int) (w : World) :
    Calls Tryz.prog 29 #[.int .i64 k, .bool t, .int .i64 a] w fun e w' => e = .returned (.int .i64 (swapI k t a)) ∧ Below w.heap.size w w' := by
  by_cases h : k = 16 ∨ k = 32 ∨ k = 64
  · obtain ⟨n, hn, rfl⟩ : ∃ n : Nat, (n = 2 ∨ n = 4 ∨ n = 8) ∧ k = ((8 * n : Nat) : Int) := by
      rcases h with rfl | rfl | rfl
      · exact ⟨2, by omega, rfl⟩
      · exact ⟨4, by omega, rfl⟩
      · exact ⟨8, by omega, rfl⟩
    rw [swapI_yes n t a hn]
    refine refSwap_core n t a (by omega) (by omega) ?_ w
    rcases hn with rfl | rfl | rfl
    · exact .inl rfl
    · exact .inr (.inl ⟨rfl, rfl⟩)
    · exact .inr (.inr ⟨rfl, rfl, rfl⟩)
  · have e : swapI k t a = 0 := by unfold swapI; rw [if_neg h]
    rw [e]
    exact refSwap_no k t a (fun x => h (.inl x)) (fun x => h (.inr (.inl x))) (fun x => h (.inr (.inr x))) w

end Go.Proofs.YtjhgjplhhhgfcaaGreat
