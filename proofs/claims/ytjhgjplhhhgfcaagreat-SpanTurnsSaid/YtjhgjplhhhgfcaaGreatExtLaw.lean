/- WordExtends: the walk of the law. -/
import Derived.Test.YtjhgjplhhhgfcaaGreatExt
namespace Go.Proofs.YtjhgjplhhhgfcaaGreat
open Go.ChangeShapes Go.WideShapes Go.ChangeAt Go.RowKit
open Bits

def extI (k : Int) (n : Bool) (a : Int) : Int := if k = 8 ∨ k = 16 ∨ (k = 32 ∧ n = false) then extV k.toNat n a else 0

theorem extend_any (k : Int) (n : Bool) (a : Int) (w : World) :
    Calls Tryz.prog 33 #[.int .i64 k, .bool n, .int .i64 a] w fun e w' => e = .returned (.int .i64 (extI k n a)) ∧ w = w' := by
  by_cases h : k = 8 ∨ k = 16 ∨ (k = 32 ∧ n = false)
  · obtain ⟨m, rfl⟩ := Int.eq_ofNat_of_zero_le (show 0 ≤ k by rcases h with h | h | ⟨h, _⟩ <;> omega)
    have e : extI m n a = extV m n a := by unfold extI; rw [if_pos h, Int.toNat_natCast]
    rw [e]
    exact extend_yes m n a (by rcases h with h | h | ⟨h, h'⟩
                               · exact .inl (by omega)
                               · exact .inr (.inl (by omega))
                               · exact .inr (.inr ⟨by omega, h'⟩)) w
  · have e : extI k n a = 0 := by unfold extI; rw [if_neg h]
    rw [e]
    exact extend_no k n a (fun x => h (.inl x)) (fun x => h (.inr (.inl x))) (fun x => by cases n <;> simp_all) w
theorem refExtend_any (k : Int) (n : Bool) (a : Int) (w : World) :
    Calls Tryz.prog 37 #[.int .i64 k, .bool n, .int .i64 a] w fun e w' => e = .returned (.int .i64 (extI k n a)) ∧ Below w.heap.size w w' := by
  by_cases h : k = 8 ∨ k = 16 ∨ (k = 32 ∧ n = false)
  · obtain ⟨m, rfl⟩ := Int.eq_ofNat_of_zero_le (show 0 ≤ k by rcases h with h | h | ⟨h, _⟩ <;> omega)
    have e : extI m n a = extV m n a := by unfold extI; rw [if_pos h, Int.toNat_natCast]
    rw [e]
    refine refExtend_core m n a (by rcases h with h | h | ⟨h, _⟩ <;> omega) (by rcases h with h | h | ⟨h, _⟩ <;> omega) ?_ w
    rcases h with h | h | ⟨h, h'⟩
    · exact .inl (by simp [h])
    · exact .inr (.inl ⟨by simp [h], by simp [h]⟩)
    · exact .inr (.inr ⟨by simp [h], by simp [h], by simp [h], h'⟩)
  · have e : extI k n a = 0 := by unfold extI; rw [if_neg h]
    rw [e]
    refine (refExtend_no k n a (fun x => h (.inl x)) (fun x => h (.inr (.inl x))) (fun x => by cases n <;> simp_all) w).mono ?_
    rintro e w' ⟨rfl, rfl⟩
    exact ⟨rfl, Below.refl _ _⟩

end Go.Proofs.YtjhgjplhhhgfcaaGreat
