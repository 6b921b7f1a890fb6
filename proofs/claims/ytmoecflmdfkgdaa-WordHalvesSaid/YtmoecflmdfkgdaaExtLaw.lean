/- WordExtends: the walk of the law. -/
import Derived.Test.YtmoecflmdfkgdaaExt
namespace Go.Proofs.Ytmoecflmdfkgdaa
open Go.ChangeShapes Go.WideShapes Go.ChangeAt Go.RowKit
open Bits

def extI (k : Int) (n : Bool) (a : Int) : Int := if k = 8 ∨ k = 16 ∨ (k = 32 ∧ n = false) then extV k.toNat n a else 0

theorem extend_any (k : Int) (n : Bool) (a : Int) (w : World) :
    Calls Try.prog 18 #[.int .i64 k, .bool n, .int .i64 a] w fun e w' => e = .returned (.int .i64 (extI k n a)) ∧ w = w' := by
  by_cases h : k = 8 ∨ k = 16 ∨ (k = 32 ∧ n = false)
  · obtain ⟨m, rfl⟩ := Int.eq_ofNat_of_zero_le (show 0 ≤ k by rcases h with h | h | ⟨h, _⟩ <;> omega)
    have e : extI m n a = extV m n a := by unfold extI; rw [if_pos h, Int.toNat_natCast]
    rw [e]
    exact extend_yes m n a (by rcases h with h | h | ⟨h, h'⟩
                               · exact .inl (by omega)
                               · exact .inr (.inl (by omega))
                               · exact .inr (.inr ⟨by omega, h'⟩)) w
  · have e : extI k n a = 0 := by unfold extI; rw [if_neg h]
    rw [e]
    exact extend_no k n a (fun x => h (.inl x)) (fun x => h (.inr (.inl x))) (fun x => by cases n <;> simp_all) w
theorem refExtend_any (k : Int) (n : Bool) (a : Int) (w : World) :
    Calls Try.prog 19 #[.int .i64 k, .bool n, .int .i64 a] w fun e w' => e = .returned (.int .i64 (extI k n a)) ∧ Below w.heap.size w w' := by
  by_cases h : k = 8 ∨ k = 16 ∨ (k = 32 ∧ n = false)
  · obtain ⟨m, rfl⟩ := Int.eq_ofNat_of_zero_le (show 0 ≤ k by rcases h with h | h | ⟨h, _⟩ <;> omega)
    have e : extI m n a = extV m n a := by unfold extI; rw [if_pos h, Int.toNat_natCast]
    rw [e]
    refine refExtend_core m n a (by rcases h with h | h | ⟨h, _⟩ <;> omega) (by rcases h with h | h | ⟨h, _⟩ <;> omega) ?_ w
    rcases h with h | h | ⟨h, h'⟩
    · exact .inl (by simp [h])
    · exact .inr (.inl ⟨by simp [h], by simp [h]⟩)
    · exact .inr (.inr ⟨by simp [h], by simp [h], by simp [h], h'⟩)
  · have e : extI k n a = 0 := by unfold extI; rw [if_neg h]
    rw [e]
    refine (refExtend_no k n a (fun x => h (.inl x)) (fun x => h (.inr (.inl x))) (fun x => by cases n <;> simp_all) w).mono ?_
    rintro e w' ⟨rfl, rfl⟩
    exact ⟨rfl, Below.refl _ _⟩

set_option maxHeartbeats 4000000 in
theorem wordExtends_walk (size : Int) (_rs : -9223372036854775808 ≤ size ∧ size ≤ 9223372036854775807) (a : Int) (_ra : -9223372036854775808 ≤ a ∧ a ≤ 9223372036854775807) (w : World) :
    Calls Try.prog 5 #[.int .i64 size, .int .i64 a] w fun e w' => e = .returned (.bool true) ∧ Below w.heap.size w w' := by
  go_enter Try.func5, Try.ntmps5
  go_wp2_with fail
  go_loopw [5] (fun k wr => ∃ j : Nat, j ≤ 66 ∧ k = .int .i64 j ∧ Below w.heap.size w wr) (fun k _ => (66 - intOf k).toNat)
  case atStart => exact ⟨0, by omega, rfl, Below.refl _ _⟩
  case round =>
    obtain ⟨j, hj, rfl, hB⟩ := hrel
    by_cases hlt : j ≤ 65
    · go_wp2_with fail
      refine (extend_any _ _ _ _).mono ?_
      rintro e w1 ⟨rfl, rfl⟩
      go_wp2_with fail
      refine (refExtend_any _ _ _ _).mono ?_
      rintro e w1 ⟨rfl, hB1⟩
      go_wp2_with fail
      refine (extend_any _ _ _ _).mono ?_
      rintro e w2 ⟨rfl, rfl⟩
      go_wp2_with fail
      refine (refExtend_any _ _ _ _).mono ?_
      rintro e w2 ⟨rfl, hB2⟩
      have hB3 := (hB.trans (hB1.mono hB.size)).trans (hB2.mono (Nat.le_trans hB.size hB1.size))
      clear hB1 hB2
      go_wp2_with fail
      go_roundw
      case rel => exact ⟨j + 1, by omega, by go_num, hB3⟩
      case measure => simp [intOf]; omega
    · have h255 : extI 8 false 255 = -1 := by decide
      have hj66 : j = 66 := by omega
      clear hj
      subst hj66
      go_wp2_with fail
      refine (extend_any _ _ _ _).mono ?_
      rintro e w1 ⟨rfl, rfl⟩
      go_wp2_with fail
      refine (refExtend_any _ _ _ _).mono ?_
      rintro e w1 ⟨rfl, hB1⟩
      have hB3 := hB.trans (hB1.mono hB.size)
      clear hB1
      go_wp2_with fail
      refine (extend_any _ _ _ _).mono ?_
      rintro e w2 ⟨rfl, rfl⟩
      go_wp2_with fail
      go_ret
      exact ⟨rfl, hB3⟩
end Go.Proofs.Ytmoecflmdfkgdaa
