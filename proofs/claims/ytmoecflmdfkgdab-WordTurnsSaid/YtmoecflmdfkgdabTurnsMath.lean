/- WordTurns: bytes back to front, numbers extended and taken again. -/
import Derived.Test.YtmoecflmdfkgdabSwapLaw
import Derived.Test.YtmoecflmdfkgdabExtLaw
import Derived.Test.YtmoecflmdfkgdabLow
import Derived.Test.YtmoecflmdfkgdabPut
namespace Go.Proofs.Ytmoecflmdfkgdab
open Go.ChangeShapes Go.WideShapes Go.ChangeAt Go.RowKit
open Bits
set_option linter.unusedVariables false

theorem bt_zero (b r : Nat) (h : b < 256) : bt 0 (b + 256 * r) = b := by
  unfold bt; simp only [Nat.mul_zero, Nat.pow_zero, Nat.div_one, Nat.reducePow]; omega
theorem bt_succ (b r i : Nat) (h : b < 256) : bt (i + 1) (b + 256 * r) = bt i r := by
  unfold bt
  rw [show 8 * (i + 1) = 8 + 8 * i by omega, Nat.pow_add, ← Nat.div_div_eq_div_mul, show (2 : Nat) ^ 8 = 256 from rfl, show (b + 256 * r) / 256 = r by omega]
theorem bt_revN (x : Nat) : ∀ n j, j < n → bt j (revN n x) = bt (n - 1 - j) x := by
  intro n
  induction n with
  | zero => intro j h; omega
  | succ n ih =>
    intro j h
    rw [revN]
    rcases j with _ | j
    · rw [bt_zero _ _ (bt_lt n x)]; rfl
    · rw [bt_succ _ _ _ (bt_lt n x), ih j (by omega)]
      congr 1; omega
theorem bt_extN : ∀ n x y, x < 256 ^ n → y < 256 ^ n → (∀ i, i < n → bt i x = bt i y) → x = y := by
  intro n
  induction n with
  | zero => intro x y hx hy _; simp at hx hy; omega
  | succ n ih =>
    intro x y hx hy h
    have h0 := h 0 (by omega)
    have e : ∀ z, bt 0 z = z % 256 := fun z => by unfold bt; simp
    have s : ∀ z i, bt i (z / 256) = bt (i + 1) z := fun z i => by
      unfold bt
      rw [show 8 * (i + 1) = 8 + 8 * i by omega, Nat.pow_add, ← Nat.div_div_eq_div_mul, show (2 : Nat) ^ 8 = 256 from rfl]
    rw [e, e] at h0
    rw [Nat.pow_succ] at hx hy
    have h1 := ih (x / 256) (y / 256) (Nat.div_lt_of_lt_mul (by omega)) (Nat.div_lt_of_lt_mul (by omega)) (fun i hi => by rw [s, s]; exact h (i + 1) (by omega))
    omega
theorem bt_modN (i n x : Nat) (h : i < n) : bt i (x % 256 ^ n) = bt i x := by
  unfold bt
  rw [show (256 : Nat) = 2 ^ 8 from rfl, ← Nat.pow_mul, show 8 * n = 8 * i + (8 * n - 8 * i) by omega, Nat.pow_add, Nat.mod_mul_right_div_self]
  rw [show 8 * n - 8 * i = 8 + (8 * n - 8 * i - 8) by omega, Nat.pow_add, Nat.mod_mul_right_mod]
theorem rev_rev (n x : Nat) : revN n (revN n x) = x % 256 ^ n := by
  refine bt_extN n _ _ (revN_lt n _) (Nat.mod_lt _ (Nat.pow_pos (by decide))) fun i hi => ?_
  rw [bt_revN _ n i hi, bt_revN _ n (n - 1 - i) (by omega), bt_modN i n x hi]
  congr 1; omega
theorem pow256 (n : Nat) : (256 : Nat) ^ n = 2 ^ (8 * n) := by rw [show (256 : Nat) = 2 ^ 8 from rfl, ← Nat.pow_mul]
theorem revN_lt64 (n x : Nat) (hn : n ≤ 8) : revN n x < 18446744073709551616 := by
  have h := revN_lt n x
  rw [pow256] at h
  have : 2 ^ (8 * n) ≤ 2 ^ 64 := Nat.pow_le_pow_right (by decide) (by omega)
  rw [show (2 : Nat) ^ 64 = 18446744073709551616 from rfl] at this
  omega
theorem un_w64 (m : Nat) (h : m < 18446744073709551616) : un (wrap64 m) = m := by unfold un wrap64; omega
theorem swap_swap (n : Nat) (a : Int) (hn : n ≤ 8) : swapV n true (swapV n true a) = swapV n false a := by
  unfold swapV
  rw [if_pos rfl, if_pos rfl, if_neg Bool.false_ne_true, un_w64 _ (revN_lt64 n _ hn), rev_rev]
  have e : ((un a % 256 ^ n : Nat) : Int) = a % 2 ^ (8 * n) := by
    rw [pow256]
    have : ((un a % 2 ^ (8 * n) : Nat) : Int) = (un a : Int) % 2 ^ (8 * n) := by simp
    rw [this, un_cast, u64_pow]
    exact Int.emod_emod_of_dvd a ⟨2 ^ (64 - 8 * n), (pow_split (show 8 * n + (64 - 8 * n) = 64 by omega)).symm⟩
  rw [e]
theorem un_swap (n : Nat) (a : Int) (hn : n ≤ 8) : un (swapV n true a) = revN n (un a) := by
  have h : swapV n true a = wrap64 (revN n (un a)) := by unfold swapV; rw [if_pos rfl]
  rw [h, un_w64 _ (revN_lt64 n _ hn)]
theorem bytesL_bt (n : Nat) (a : Int) (i : Nat) (hi : i < n) (h8 : i < 8) : (bytesL a n)[i]?.getD 0 = (bt i (un a) : Int) := by
  rw [bytesL_get _ _ _ hi, Option.getD_some, ← byte_un a i h8]
  rfl
/-- the bytes of the turned number are the number's, back to front -/
theorem turned_byte (n : Nat) (a : Int) (hn : n ≤ 8) (i : Nat) (hi : i < n) : (bytesL a n)[i]?.getD 0 = (bytesL (swapV n true a) n)[n - 1 - i]?.getD 0 := by
  rw [bytesL_bt _ _ _ hi (by omega), bytesL_bt _ _ _ (show n - 1 - i < n by omega) (by omega), un_swap n a hn, bt_revN _ n (n - 1 - i) (by omega),
    show n - 1 - (n - 1 - i) = i by omega]
theorem swap_low (n : Nat) (a : Int) (hn : n ≤ 4) : swapV n false a = a % 2 ^ (8 * n) := by
  unfold swapV
  rw [if_neg Bool.false_ne_true]
  have h0 := Int.emod_nonneg a (show (2 : Int) ^ (8 * n) ≠ 0 by have := pow_pos' (8 * n); omega)
  have h1 := Int.emod_lt_of_pos a (pow_pos' (8 * n))
  have h2 : (2 : Int) ^ (8 * n) ≤ 2 ^ 32 := pow_le_of (by omega)
  rw [show (2 : Int) ^ 32 = 4294967296 from rfl] at h2
  exact IntWalk.wrap64_in _ (by omega)
theorem put_n (k v : Int) (n : Nat) (hn : (n : Int) = k) (h1 : 1 ≤ n) (h8 : n ≤ 8) (w : World) :
    Calls Try.prog 5 #[.int .i64 k, .int .i64 v] w fun e w' => e = .returned (.slice (some ⟨w.heap.size, 0, none⟩) n n) ∧ ByteBlk w' w.heap.size (bytesL v n) ∧ Below w.heap.size w w' ∧ w'.heap.size = w.heap.size + 1 := by
  subst hn; exact put_yes n v h1 h8 w

/-! ### extended numbers -/
theorem sx_low (k : Nat) (a : Int) : sx k a % 2 ^ k = a % 2 ^ k := by
  unfold sx; split
  · exact Int.emod_emod _ _
  · rw [Int.emod_sub_emod, Int.sub_emod, Int.emod_self, Int.sub_zero, Int.emod_emod]
theorem sx_sx (k : Nat) (a : Int) : sx k (sx k a) = sx k a := by
  have h := sx_low k a
  have e : ∀ y, sx k y = if y % 2 ^ k < 2 ^ (k - 1) then y % 2 ^ k else y % 2 ^ k - 2 ^ k := fun _ => rfl
  rw [e (sx k a), h, ← e a]
theorem sx_mod (k : Nat) (a : Int) : sx k (a % 2 ^ k) = sx k a := by
  unfold sx; rw [Int.emod_emod]
theorem sx_top (k : Nat) (h1 : 1 ≤ k) (a : Int) : sx k a / 2 ^ (k - 1) = 0 ∨ sx k a / 2 ^ (k - 1) = -1 := by
  have h := sx_rng k h1 a
  have hp := pow_pos' (k - 1)
  rcases (by omega : sx k a < 0 ∨ 0 ≤ sx k a) with h0 | h0
  · right; rw [Int.ediv_eq_iff_of_pos hp]; omega
  · left; exact Int.ediv_eq_zero_of_lt h0 h.2
theorem extI_f (k : Nat) (a : Int) (h : k = 8 ∨ k = 16 ∨ k = 32) : extI k false a = sx k a := by
  unfold extI extV
  rw [if_pos (by rcases h with h | h | h <;> simp [h]), if_neg Bool.false_ne_true, Int.toNat_natCast]
theorem get_put (n : Nat) (a : Int) (h1 : 1 ≤ n) (h8 : n ≤ 8) : getV (bytesL a n) true = sx (8 * n) a := by
  unfold getV
  rw [bytesL_length, if_neg (by omega), if_pos rfl, valB_bytes, sx_mod]
theorem t1 : swapI 32 true 1 = 16777216 := by decide +kernel
theorem t64 (a : Int) (ra : -9223372036854775808 ≤ a ∧ a ≤ 9223372036854775807) : swapI 64 false a = a := by
  have := swapI_yes 8 false a (by omega)
  rw [show ((8 * 8 : Nat) : Int) = 64 from rfl] at this
  rw [this]
  unfold swapV
  rw [if_neg Bool.false_ne_true, show (2 : Int) ^ (8 * 8) = 18446744073709551616 from rfl]
  unfold wrap64; omega
end Go.Proofs.Ytmoecflmdfkgdab
