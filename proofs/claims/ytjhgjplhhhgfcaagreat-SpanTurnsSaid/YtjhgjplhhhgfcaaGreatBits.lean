/- Rows of bits, plain mathematics: the bits of a number, and the number that a row of bits is. No program is named. -/
import Derived.WalkKit
namespace Go.Proofs.YtjhgjplhhhgfcaaGreat.Bits

/-- the lowest k bits of a number, the lowest first -/
def bitsL (v : Int) (k : Nat) : List Int := (List.range k).map fun i => v / 2 ^ i % 2
/-- the number that a row of bits is -/
def valL : List Int → Int
  | [] => 0
  | b :: t => b + 2 * valL t

theorem bitsL_length (v : Int) (k : Nat) : (bitsL v k).length = k := by simp [bitsL]
theorem bitsL_get (v : Int) (k i : Nat) (h : i < k) : (bitsL v k)[i]? = some (v / 2 ^ i % 2) := by
  simp [bitsL, h]
theorem bitsL_succ (v : Int) (k : Nat) : bitsL v (k + 1) = (v % 2) :: bitsL (v / 2) k := by
  unfold bitsL
  rw [List.range_succ_eq_map]
  simp only [List.map_cons, List.map_map, Int.pow_zero, Int.ediv_one]
  congr 1
  apply List.map_congr_left
  intro i _
  simp only [Function.comp]
  rw [Int.pow_succ', ← Int.ediv_ediv_of_nonneg (by decide : (0:Int) ≤ 2)]
theorem valL_bits (v : Int) (k : Nat) : valL (bitsL v k) = v % 2 ^ k := by
  induction k generalizing v with
  | zero => simp [bitsL, valL, Int.emod_one]
  | succ k ih =>
    rw [bitsL_succ, valL, ih]
    rw [Int.pow_succ']
    have hp : (0 : Int) < 2 ^ k := Int.pow_pos (by decide)
    rw [Int.emod_def v (2 * 2 ^ k), Int.emod_def (v / 2) (2 ^ k), ← Int.ediv_ediv_of_nonneg (by decide : (0:Int) ≤ 2)]
    have := Int.emod_def v 2
    rw [Int.mul_assoc]
    omega
theorem valL_append (a b : List Int) : valL (a ++ b) = valL a + 2 ^ a.length * valL b := by
  induction a with
  | nil => simp [valL]
  | cons x t ih => simp only [List.cons_append, valL, ih, List.length_cons, Int.pow_succ']; rw [Int.mul_add, ← Int.mul_assoc, Int.add_assoc]
/-- all are bits -/
def Bit (l : List Int) : Prop := ∀ x ∈ l, x = 0 ∨ x = 1
theorem valL_nonneg {l : List Int} (h : Bit l) : 0 ≤ valL l ∧ valL l < 2 ^ l.length := by
  induction l with
  | nil => simp [valL]
  | cons x t ih =>
    have hx := h x (by simp)
    have ht := ih (fun y hy => h y (by simp [hy]))
    simp only [valL, List.length_cons, Int.pow_succ']
    omega
theorem bit_bits (v : Int) (k : Nat) : Bit (bitsL v k) := by
  intro x hx
  simp only [bitsL, List.mem_map] at hx
  obtain ⟨i, _, rfl⟩ := hx
  omega
theorem bits_of_val {l : List Int} (h : Bit l) : bitsL (valL l) l.length = l := by
  induction l with
  | nil => rfl
  | cons x t ih =>
    have hx := h x (by simp)
    have ht := ih (fun y hy => h y (by simp [hy]))
    rw [List.length_cons, bitsL_succ, valL]
    rw [show (x + 2 * valL t) % 2 = x by omega, show (x + 2 * valL t) / 2 = valL t by omega, ht]
theorem valL_inj {a b : List Int} (ha : Bit a) (hb : Bit b) (hl : a.length = b.length) (h : valL a = valL b) : a = b := by
  rw [← bits_of_val ha, ← bits_of_val hb, h, hl]
end Go.Proofs.YtjhgjplhhhgfcaaGreat.Bits
