/- WordSwaps: the walk of the law. -/
import Derived.Test.YtmoecflmdfkgdaaSwap
namespace Go.Proofs.Ytmoecflmdfkgdaa
open Go.ChangeShapes Go.WideShapes Go.ChangeAt Go.RowKit
open Bits

def swapI (k : Int) (t : Bool) (a : Int) : Int := if k = 16 ∨ k = 32 ∨ k = 64 then swapV (k.toNat / 8) t a else 0
theorem swapI_yes (n : Nat) (t : Bool) (a : Int) (h : n = 2 ∨ n = 4 ∨ n = 8) : swapI ((8 * n : Nat) : Int) t a = swapV n t a := by
  unfold swapI
  rw [if_pos (by omega), Int.toNat_natCast, Nat.mul_div_cancel_left _ (by decide)]

theorem swap_any (k : Int) (t : Bool) (a : Int) (w : World) :
    Calls Try.prog 16 #[.int .i64 k, .bool t, .int .i64 a] w fun e w' => e = .returned (.int .i64 (swapI k t a)) ∧ w = w' := by
  by_cases h : k = 16 ∨ k = 32 ∨ k = 64
  · obtain ⟨n, hn, rfl⟩ : ∃ n : Nat, (n = 2 ∨ n = 4 ∨ n = 8) ∧ k = ((8 * n : Nat) : Int) := by
      rcases h with rfl | rfl | rfl
      · exact ⟨2, by omega, rfl⟩
      · exact ⟨4, by omega, rfl⟩
      · exact ⟨8, by omega, rfl⟩
    rw [swapI_yes n t a hn]
    exact swap_core n t a hn w
  · have e : swapI k t a = 0 := by unfold swapI; rw [if_neg h]
    rw [e]
    exact swap_no k t a (fun x => h (.inl x)) (fun x => h (.inr (.inl x))) (fun x => h (.inr (.inr x))) w
theorem refSwap_any (k : Int) (t : Bool) (a : Int) (w : World) :
    Calls Try.prog 17 #[.int .i64 k, .bool t, .int .i64 a] w fun e w' => e = .returned (.int .i64 (swapI k t a)) ∧ Below w.heap.size w w' := by
  by_cases h : k = 16 ∨ k = 32 ∨ k = 64
  · obtain ⟨n, hn, rfl⟩ : ∃ n : Nat, (n = 2 ∨ n = 4 ∨ n = 8) ∧ k = ((8 * n : Nat) : Int) := by
      rcases h with rfl | rfl | rfl
      · exact ⟨2, by omega, rfl⟩
      · exact ⟨4, by omega, rfl⟩
      · exact ⟨8, by omega, rfl⟩
    rw [swapI_yes n t a hn]
    refine refSwap_core n t a (by omega) (by omega) ?_ w
    rcases hn with rfl | rfl | rfl
    · exact .inl rfl
    · exact .inr (.inl ⟨rfl, rfl⟩)
    · exact .inr (.inr ⟨rfl, rfl, rfl⟩)
  · have e : swapI k t a = 0 := by unfold swapI; rw [if_neg h]
    rw [e]
    exact refSwap_no k t a (fun x => h (.inl x)) (fun x => h (.inr (.inl x))) (fun x => h (.inr (.inr x))) w

set_option maxHeartbeats 4000000 in
theorem wordSwaps_walk (size : Int) (_rs : -9223372036854775808 ≤ size ∧ size ≤ 9223372036854775807) (a : Int) (_ra : -9223372036854775808 ≤ a ∧ a ≤ 9223372036854775807) (w : World) :
    Calls Try.prog 4 #[.int .i64 size, .int .i64 a] w fun e w' => e = .returned (.bool true) ∧ Below w.heap.size w w' := by
  go_enter Try.func4, Try.ntmps4
  go_wp2_with fail
  go_loopw [5] (fun k wr => ∃ j : Nat, j ≤ 66 ∧ k = .int .i64 j ∧ Below w.heap.size w wr) (fun k _ => (66 - intOf k).toNat)
  case atStart => exact ⟨0, by omega, rfl, Below.refl _ _⟩
  case round =>
    obtain ⟨j, hj, rfl, hB⟩ := hrel
    by_cases hlt : j ≤ 65
    · go_wp2_with fail
      refine (swap_any _ _ _ _).mono ?_
      rintro e w1 ⟨rfl, rfl⟩
      go_wp2_with fail
      refine (refSwap_any _ _ _ _).mono ?_
      rintro e w1 ⟨rfl, hB1⟩
      go_wp2_with fail
      refine (swap_any _ _ _ _).mono ?_
      rintro e w2 ⟨rfl, rfl⟩
      go_wp2_with fail
      refine (refSwap_any _ _ _ _).mono ?_
      rintro e w2 ⟨rfl, hB2⟩
      have hB3 := (hB.trans (hB1.mono hB.size)).trans (hB2.mono (Nat.le_trans hB.size hB1.size))
      clear hB1 hB2
      go_wp2_with fail
      go_roundw
      case rel => exact ⟨j + 1, by omega, by go_num, hB3⟩
      case measure => simp [intOf]; omega
    · have h255 : swapI 16 true 258 = 513 := by decide +kernel
      have hj66 : j = 66 := by omega
      clear hj
      subst hj66
      go_wp2_with fail
      refine (swap_any _ _ _ _).mono ?_
      rintro e w1 ⟨rfl, rfl⟩
      go_wp2_with fail
      refine (refSwap_any _ _ _ _).mono ?_
      rintro e w1 ⟨rfl, hB1⟩
      have hB3 := hB.trans (hB1.mono hB.size)
      clear hB1
      go_wp2_with fail
      refine (swap_any _ _ _ _).mono ?_
      rintro e w2 ⟨rfl, rfl⟩
      go_wp2_with fail
      go_ret
      exact ⟨rfl, hB3⟩
end Go.Proofs.Ytmoecflmdfkgdaa
