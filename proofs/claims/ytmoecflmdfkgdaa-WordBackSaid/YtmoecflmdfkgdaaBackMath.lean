/- WordBack: numbers put and taken again. -/
import Derived.Test.YtmoecflmdfkgdaaCopy
import Derived.Test.YtmoecflmdfkgdaaLow
namespace Go.Proofs.Ytmoecflmdfkgdaa
open Go.ChangeShapes Go.WideShapes Go.ChangeAt Go.RowKit
open Bits
set_option linter.unusedVariables false

theorem bk_low (k : Nat) (a : Int) : sx k a % 2 ^ k = a % 2 ^ k := by
  unfold sx; split
  · exact Int.emod_emod _ _
  · rw [Int.emod_sub_emod, Int.sub_emod, Int.emod_self, Int.sub_zero, Int.emod_emod]
theorem bk_mod (k : Nat) (a : Int) : sx k (a % 2 ^ k) = sx k a := by
  unfold sx; rw [Int.emod_emod]
theorem bk_get (n : Nat) (a : Int) (h1 : 1 ≤ n) (h8 : n ≤ 8) : getV (bytesL a n) true = sx (8 * n) a := by
  unfold getV
  rw [bytesL_length, if_neg (by omega), if_pos rfl, valB_bytes, bk_mod]
theorem bk_put (n : Nat) (x y : Int) (h : x % 2 ^ (8 * n) = y % 2 ^ (8 * n)) : bytesL x n = bytesL y n := by
  have e : ∀ z, bytesL (z % 2 ^ (8 * n)) n = bytesL z n := fun z => by
    have h1 := bytes_of_val (byt_bytes z n)
    rw [valB_bytes, bytesL_length] at h1
    exact h1
  rw [← e x, h, e y]
theorem bk_w64 (n : Nat) (h8 : n ≤ 8) (z : Int) : wrap64 z % 2 ^ (8 * n) = z % 2 ^ (8 * n) := by
  have e : ∀ y : Int, y % 18446744073709551616 % 2 ^ (8 * n) = y % 2 ^ (8 * n) := fun y =>
    Int.emod_emod_of_dvd y ⟨2 ^ (64 - 8 * n), (pow_split (show 8 * n + (64 - 8 * n) = 64 by omega)).symm⟩
  have h1 : wrap64 z % 18446744073709551616 = z % 18446744073709551616 := by unfold wrap64; omega
  rw [← e (wrap64 z), h1, e z]
theorem bk_back (L : List Int) (hb : Byt L) (n : Nat) (hL : L.length = n) (h1 : 1 ≤ n) (h8 : n ≤ 8) (s : Bool) : bytesL (getV L s) n = L := by
  have h0 := bytes_of_val hb
  rw [hL] at h0
  have hg : getV L s % 2 ^ (8 * n) = valB L % 2 ^ (8 * n) := by
    unfold getV
    rw [hL, if_neg (by omega)]
    cases s
    · rw [if_neg Bool.false_ne_true]; exact bk_w64 n h8 _
    · rw [if_pos rfl]; exact bk_low _ _
  rw [bk_put n _ _ hg, h0]
theorem bk_unsigned (n : Nat) (a : Int) (h1 : 1 ≤ n) (h8 : n ≤ 7) : getV (bytesL a n) false = a % 2 ^ (8 * n) := by
  unfold getV
  rw [bytesL_length, if_neg (by omega), if_neg Bool.false_ne_true, valB_bytes]
  have hp := pow_pos' (8 * n)
  have h2 : (2 : Int) ^ (8 * n) ≤ 2 ^ 56 := pow_le_of (by omega)
  rw [show (2 : Int) ^ 56 = 72057594037927936 from rfl] at h2
  have h3 := Int.emod_nonneg a (show (2 : Int) ^ (8 * n) ≠ 0 by omega)
  have h4 := Int.emod_lt_of_pos a hp
  generalize (2 : Int) ^ (8 * n) = P at *
  exact IntWalk.wrap64_in _ (by omega)
theorem bk_8 (a : Int) (ra : -9223372036854775808 ≤ a ∧ a ≤ 9223372036854775807) (s : Bool) : getV (bytesL a 8) s = a := by
  cases s
  · unfold getV
    rw [bytesL_length, if_neg (by omega), if_neg Bool.false_ne_true, valB_bytes, show (2 : Int) ^ (8 * 8) = 18446744073709551616 by decide +kernel]
    unfold wrap64; omega
  · rw [bk_get 8 a (by omega) (by omega)]
    have e : sx (8 * 8) a = if a % 18446744073709551616 < 9223372036854775808 then a % 18446744073709551616 else a % 18446744073709551616 - 18446744073709551616 := rfl
    rw [e]; split <;> omega
end Go.Proofs.Ytmoecflmdfkgdaa
