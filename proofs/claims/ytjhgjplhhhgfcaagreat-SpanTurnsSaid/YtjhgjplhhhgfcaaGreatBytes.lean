/- The bytes of a number, plain mathematics: what turning all eight of them comes to. No program is named. -/
import Derived.Test.YtjhgjplhhhgfcaaGreatBits
namespace Go.Proofs.YtjhgjplhhhgfcaaGreat.Bits

def bt (i x : Nat) : Nat := x / 2 ^ (8 * i) % 2 ^ 8
theorem bt_and (i x y : Nat) : bt i (x &&& y) = bt i x &&& bt i y := by
  unfold bt; rw [Nat.and_div_two_pow, Nat.and_mod_two_pow]
theorem bt_or (i x y : Nat) : bt i (x ||| y) = bt i x ||| bt i y := by
  unfold bt; rw [Nat.or_div_two_pow, Nat.or_mod_two_pow]
theorem bt_lt (i x : Nat) : bt i x < 256 := by unfold bt; exact Nat.mod_lt _ (by decide)
theorem bt_255 (i x : Nat) : bt i x &&& 255 = bt i x := by
  have := Nat.and_two_pow_sub_one_eq_mod (bt i x) 8
  simp only [Nat.reducePow, Nat.reduceSub] at this
  rw [this, Nat.mod_eq_of_lt (bt_lt i x)]
theorem bt_shr (i j x : Nat) : bt i (x / 2 ^ (8 * j)) = bt (i + j) x := by
  unfold bt; rw [Nat.div_div_eq_div_mul, ← Nat.pow_add, Nat.mul_add, Nat.add_comm (8 * j)]
theorem bt_mod (i x : Nat) (h : i < 8) : bt i (x % 2 ^ 64) = bt i x := by
  unfold bt
  rw [show 64 = 8 * i + (64 - 8 * i) by omega, Nat.pow_add, Nat.mod_mul_right_div_self]
  rw [show 64 - 8 * i = 8 + (56 - 8 * i) by omega, Nat.pow_add, Nat.mod_mul_right_mod]
theorem bt_shl_hi (i j x : Nat) : bt (i + j) (x * 2 ^ (8 * j)) = bt i x := by
  unfold bt
  rw [Nat.mul_add, Nat.pow_add, Nat.mul_comm (2 ^ (8 * i)), ← Nat.div_div_eq_div_mul, Nat.mul_div_cancel _ (Nat.pow_pos (by decide))]
theorem bt_shl_lo (i j x : Nat) (h : i < j) : bt i (x * 2 ^ (8 * j)) = 0 := by
  unfold bt
  have e : x * 2 ^ (8 * j) = x * 2 ^ (8 * j - 8 * i - 8) * 2 ^ 8 * 2 ^ (8 * i) := by
    rw [Nat.mul_assoc, Nat.mul_assoc, ← Nat.pow_add, ← Nat.pow_add]
    congr 2; omega
  rw [e, Nat.mul_div_cancel _ (Nat.pow_pos (by decide)), Nat.mul_mod_left]
theorem bt_ext {x y : Nat} (hx : x < 2 ^ 64) (hy : y < 2 ^ 64) (h : ∀ i, i < 8 → bt i x = bt i y) : x = y := by
  have h0 := h 0 (by decide); have h1 := h 1 (by decide); have h2 := h 2 (by decide); have h3 := h 3 (by decide)
  have h4 := h 4 (by decide); have h5 := h 5 (by decide); have h6 := h 6 (by decide); have h7 := h 7 (by decide)
  simp only [bt, Nat.reducePow, Nat.reduceMul] at *
  omega

/-- the lowest n bytes of x back to front -/
def revN : Nat → Nat → Nat
  | 0, _ => 0
  | n + 1, x => bt n x + 256 * revN n x
theorem rev8_eq (x : Nat) : revN 8 x = bt 7 x + 256 * (bt 6 x + 256 * (bt 5 x + 256 * (bt 4 x + 256 * (bt 3 x + 256 * (bt 2 x + 256 * (bt 1 x + 256 * bt 0 x)))))) := rfl
theorem revN_lt (n x : Nat) : revN n x < 256 ^ n := by
  induction n with
  | zero => simp [revN]
  | succ n ih => have := bt_lt n x; rw [revN, Nat.pow_succ]; omega
theorem bt_of8 (b0 b1 b2 b3 b4 b5 b6 b7 : Nat) (h0 : b0 < 256) (h1 : b1 < 256) (h2 : b2 < 256) (h3 : b3 < 256) (h4 : b4 < 256) (h5 : b5 < 256) (h6 : b6 < 256) (h7 : b7 < 256) (y : Nat)
    (hy : y = b7 + 256 * (b6 + 256 * (b5 + 256 * (b4 + 256 * (b3 + 256 * (b2 + 256 * (b1 + 256 * b0))))))) :
    bt 0 y = b7 ∧ bt 1 y = b6 ∧ bt 2 y = b5 ∧ bt 3 y = b4 ∧ bt 4 y = b3 ∧ bt 5 y = b2 ∧ bt 6 y = b1 ∧ bt 7 y = b0 := by
  simp only [bt, Nat.reducePow, Nat.reduceMul]; omega
theorem bt_rev8 (x i : Nat) (h : i < 8) : bt i (revN 8 x) = bt (7 - i) x := by
  obtain ⟨h0, h1, h2, h3, h4, h5, h6, h7⟩ := bt_of8 _ _ _ _ _ _ _ _ (bt_lt 0 x) (bt_lt 1 x) (bt_lt 2 x) (bt_lt 3 x) (bt_lt 4 x) (bt_lt 5 x) (bt_lt 6 x) (bt_lt 7 x) _ (rev8_eq x)
  match i, h with
  | 0, _ => exact h0
  | 1, _ => exact h1
  | 2, _ => exact h2
  | 3, _ => exact h3
  | 4, _ => exact h4
  | 5, _ => exact h5
  | 6, _ => exact h6
  | 7, _ => exact h7

def rv1 (x : Nat) : Nat := (x / 256 &&& 71777214294589695) ||| ((x &&& 71777214294589695) * 256 % 18446744073709551616)
def rv2 (x : Nat) : Nat := (x / 65536 &&& 281470681808895) ||| ((x &&& 281470681808895) * 65536 % 18446744073709551616)
def rv3 (x : Nat) : Nat := (x / 4294967296) ||| (x * 4294967296 % 18446744073709551616)

theorem bt_hi (i x : Nat) (hi : 8 ≤ i) (hx : x < 2 ^ 64) : bt i x = 0 := by
  unfold bt
  have : x / 2 ^ (8 * i) = 0 := Nat.div_eq_of_lt (Nat.lt_of_lt_of_le hx (Nat.pow_le_pow_right (by decide) (by omega)))
  rw [this]

theorem bt_rv1 (i x : Nat) (hi : i < 8) : bt i (rv1 x) = if i % 2 = 0 then bt (i + 1) x else bt (i - 1) x := by
  have e1 : x / 256 = x / 2 ^ (8 * 1) := rfl
  have e2 : ∀ y, y * 256 = y * 2 ^ (8 * 1) := fun _ => rfl
  have e3 : (18446744073709551616 : Nat) = 2 ^ 64 := rfl
  unfold rv1
  rw [bt_or, bt_and, e1, bt_shr, e3, bt_mod _ _ hi, e2]
  match i, hi with
  | 0, _ => rw [bt_shl_lo _ _ _ (by decide)]; show (bt 1 x &&& 255) ||| 0 = _; rw [bt_255, Nat.or_zero]; rfl
  | 1, _ => rw [show (1:Nat) = 0 + 1 from rfl, bt_shl_hi, bt_and]; show (bt 2 x &&& 0) ||| (bt 0 x &&& 255) = _; rw [bt_255, Nat.and_zero, Nat.zero_or]; rfl
  | 2, _ => rw [show (2:Nat) = 1 + 1 from rfl, bt_shl_hi, bt_and]; show (bt 3 x &&& 255) ||| (bt 1 x &&& 0) = _; rw [bt_255, Nat.and_zero, Nat.or_zero]; rfl
  | 3, _ => rw [show (3:Nat) = 2 + 1 from rfl, bt_shl_hi, bt_and]; show (bt 4 x &&& 0) ||| (bt 2 x &&& 255) = _; rw [bt_255, Nat.and_zero, Nat.zero_or]; rfl
  | 4, _ => rw [show (4:Nat) = 3 + 1 from rfl, bt_shl_hi, bt_and]; show (bt 5 x &&& 255) ||| (bt 3 x &&& 0) = _; rw [bt_255, Nat.and_zero, Nat.or_zero]; rfl
  | 5, _ => rw [show (5:Nat) = 4 + 1 from rfl, bt_shl_hi, bt_and]; show (bt 6 x &&& 0) ||| (bt 4 x &&& 255) = _; rw [bt_255, Nat.and_zero, Nat.zero_or]; rfl
  | 6, _ => rw [show (6:Nat) = 5 + 1 from rfl, bt_shl_hi, bt_and]; show (bt 7 x &&& 255) ||| (bt 5 x &&& 0) = _; rw [bt_255, Nat.and_zero, Nat.or_zero]; rfl
  | 7, _ => rw [show (7:Nat) = 6 + 1 from rfl, bt_shl_hi, bt_and]; show (bt 8 x &&& 0) ||| (bt 6 x &&& 255) = _; rw [bt_255, Nat.and_zero, Nat.zero_or]; rfl

theorem bt_rv2 (i x : Nat) (hi : i < 8) : bt i (rv2 x) = if i % 4 < 2 then bt (i + 2) x else bt (i - 2) x := by
  have e1 : x / 65536 = x / 2 ^ (8 * 2) := rfl
  have e2 : ∀ y, y * 65536 = y * 2 ^ (8 * 2) := fun _ => rfl
  have e3 : (18446744073709551616 : Nat) = 2 ^ 64 := rfl
  unfold rv2
  rw [bt_or, bt_and, e1, bt_shr, e3, bt_mod _ _ hi, e2]
  match i, hi with
  | 0, _ => rw [bt_shl_lo _ _ _ (by decide)]; show (bt 2 x &&& 255) ||| 0 = _; rw [bt_255, Nat.or_zero]; rfl
  | 1, _ => rw [bt_shl_lo _ _ _ (by decide)]; show (bt 3 x &&& 255) ||| 0 = _; rw [bt_255, Nat.or_zero]; rfl
  | 2, _ => rw [show (2:Nat) = 0 + 2 from rfl, bt_shl_hi, bt_and]; show (bt 4 x &&& 0) ||| (bt 0 x &&& 255) = _; rw [bt_255, Nat.and_zero, Nat.zero_or]; rfl
  | 3, _ => rw [show (3:Nat) = 1 + 2 from rfl, bt_shl_hi, bt_and]; show (bt 5 x &&& 0) ||| (bt 1 x &&& 255) = _; rw [bt_255, Nat.and_zero, Nat.zero_or]; rfl
  | 4, _ => rw [show (4:Nat) = 2 + 2 from rfl, bt_shl_hi, bt_and]; show (bt 6 x &&& 255) ||| (bt 2 x &&& 0) = _; rw [bt_255, Nat.and_zero, Nat.or_zero]; rfl
  | 5, _ => rw [show (5:Nat) = 3 + 2 from rfl, bt_shl_hi, bt_and]; show (bt 7 x &&& 255) ||| (bt 3 x &&& 0) = _; rw [bt_255, Nat.and_zero, Nat.or_zero]; rfl
  | 6, _ => rw [show (6:Nat) = 4 + 2 from rfl, bt_shl_hi, bt_and]; show (bt 8 x &&& 0) ||| (bt 4 x &&& 255) = _; rw [bt_255, Nat.and_zero, Nat.zero_or]; rfl
  | 7, _ => rw [show (7:Nat) = 5 + 2 from rfl, bt_shl_hi, bt_and]; show (bt 9 x &&& 0) ||| (bt 5 x &&& 255) = _; rw [bt_255, Nat.and_zero, Nat.zero_or]; rfl

theorem bt_rv3 (i x : Nat) (hx : x < 2 ^ 64) (hi : i < 8) : bt i (rv3 x) = if i < 4 then bt (i + 4) x else bt (i - 4) x := by
  have e1 : x / 4294967296 = x / 2 ^ (8 * 4) := rfl
  have e2 : ∀ y, y * 4294967296 = y * 2 ^ (8 * 4) := fun _ => rfl
  have e3 : (18446744073709551616 : Nat) = 2 ^ 64 := rfl
  unfold rv3
  rw [bt_or, e1, bt_shr, e3, bt_mod _ _ hi, e2]
  by_cases h4 : i < 4
  · rw [bt_shl_lo _ _ _ h4, Nat.or_zero, if_pos h4]
  · obtain ⟨j, rfl⟩ : ∃ j, i = j + 4 := ⟨i - 4, by omega⟩
    rw [bt_shl_hi, bt_hi _ _ (by omega) hx, Nat.zero_or, if_neg h4, Nat.add_sub_cancel]

theorem rv2_lt (x : Nat) : rv2 x < 2 ^ 64 :=
  Nat.or_lt_two_pow (Nat.lt_of_le_of_lt Nat.and_le_right (by decide)) (Nat.mod_lt _ (by decide))
theorem rv3_lt (x : Nat) (hx : x < 2 ^ 64) : rv3 x < 2 ^ 64 :=
  Nat.or_lt_two_pow (Nat.lt_of_le_of_lt (Nat.div_le_self _ _) hx) (Nat.mod_lt _ (by decide))

/-- what the library's three exchanges come to -/
theorem rv_eq (x : Nat) : rv3 (rv2 (rv1 x)) = revN 8 x := by
  refine bt_ext (rv3_lt _ (rv2_lt _)) (Nat.lt_of_lt_of_le (revN_lt 8 x) (by decide)) fun i hi => ?_
  rw [bt_rv3 i _ (rv2_lt _) hi, bt_rev8 x i hi]
  match i, hi with
  | 0, _ => rw [if_pos (by decide), bt_rv2 _ _ (by decide), if_pos (by decide), bt_rv1 _ _ (by decide), if_pos (by decide)]
  | 1, _ => rw [if_pos (by decide), bt_rv2 _ _ (by decide), if_pos (by decide), bt_rv1 _ _ (by decide), if_neg (by decide)]
  | 2, _ => rw [if_pos (by decide), bt_rv2 _ _ (by decide), if_neg (by decide), bt_rv1 _ _ (by decide), if_pos (by decide)]
  | 3, _ => rw [if_pos (by decide), bt_rv2 _ _ (by decide), if_neg (by decide), bt_rv1 _ _ (by decide), if_neg (by decide)]
  | 4, _ => rw [if_neg (by decide), bt_rv2 _ _ (by decide), if_pos (by decide), bt_rv1 _ _ (by decide), if_pos (by decide)]
  | 5, _ => rw [if_neg (by decide), bt_rv2 _ _ (by decide), if_pos (by decide), bt_rv1 _ _ (by decide), if_neg (by decide)]
  | 6, _ => rw [if_neg (by decide), bt_rv2 _ _ (by decide), if_neg (by decide), bt_rv1 _ _ (by decide), if_pos (by decide)]
  | 7, _ => rw [if_neg (by decide), bt_rv2 _ _ (by decide), if_neg (by decide), bt_rv1 _ _ (by decide), if_neg (by decide)]

/-- the bytes that stand above m bytes of zeros -/
theorem revN_shift (n m x : Nat) (h : n + m ≤ 8) : revN (n + m) (x * 2 ^ (8 * m) % 2 ^ 64) = revN n x := by
  have hz : ∀ k, k ≤ m → revN k (x * 2 ^ (8 * m) % 2 ^ 64) = 0 := by
    intro k
    induction k with
    | zero => intro _; rfl
    | succ k ih =>
      intro hk
      rw [revN, ih (by omega), bt_mod _ _ (by omega), bt_shl_lo _ _ _ (by omega)]
  induction n with
  | zero => rw [Nat.zero_add, hz m (Nat.le_refl _)]; rfl
  | succ n ih =>
    rw [show n + 1 + m = (n + m) + 1 by omega, revN, revN, ih (by omega), bt_mod _ _ (by omega), bt_shl_hi]
end Go.Proofs.YtjhgjplhhhgfcaaGreat.Bits
