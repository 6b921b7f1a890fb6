/- The document's arithmetic of rows of bits: not, up, down, negative, bitwise, times. -/
import Derived.Test.YtjhgjplhhhgfcaaRowOps
namespace Go.Proofs.Ytjhgjplhhhgfcaa
open Go.ChangeShapes Go.WideShapes Go.ChangeAt Go.RowKit
open Bits
set_option linter.unusedVariables false

theorem IntBlk.whole {w : World} {g k : Nat} {x : Int} (h : IntBlk w g (bitsL x k ++ zerosL (k - k))) : IntsAt w (some ⟨g, 0, none⟩) (bitsL x k) := by
  simp only [Nat.sub_self, zerosL, List.replicate_zero, List.append_nil] at h
  exact h.at_
theorem IntBlk.whole' {w : World} {g k : Nat} {x : Int} (h : IntBlk w g (bitsL x k ++ zerosL (k - k))) : IntBlk w g (bitsL x k) := by
  simp only [Nat.sub_self, zerosL, List.replicate_zero, List.append_nil] at h
  exact h
theorem not_bit (a q : Int) (hq : 0 < q) : (-a - 1) / q % 2 = 1 - a / q % 2 := by
  have h1 := Int.emod_add_mul_ediv a q
  have h2 := Int.emod_nonneg a (show q ≠ 0 by omega)
  have h3 := Int.emod_lt_of_pos a hq
  have h4 : -a - 1 = (q - 1 - a % q) + q * (-(a / q) - 1) := by rw [Int.mul_sub, Int.mul_neg]; omega
  have h5 : (q - 1 - a % q) / q = 0 := Int.ediv_eq_zero_of_lt (by omega) (by omega)
  rw [h4, Int.add_mul_ediv_left _ _ (by omega), h5]
  omega

set_option maxHeartbeats 2000000 in
theorem not_any (P : Option Addr) (c k : Nat) (a : Int) (w : World) (hk : k ≤ 65) (ha : IntsAt w P (bitsL a k)) :
    Calls Try.prog 72 #[.slice P k c] w (RowOut w k (-a - 1)) := by
  have hmk := make_ints k (by omega)
  have HA := Lib.hid ha
  clear ha
  go_enter Try.func72, Try.ntmps72
  go_wp2_with fail
  clear hmk
  go_loopw [4] (fun i wr => ∃ (j : Nat), j ≤ k ∧ i = .int .i64 j ∧ IntBlk wr w.heap.size (bitsL (-a - 1) j ++ zerosL (k - j)) ∧ Below w.heap.size w wr) (fun i _ => (k - intOf i).toNat)
  case atStart => exact ⟨0, Nat.zero_le _, rfl, IntBlk.new w (zerosL k), (Below.refl _ _).alloc (Nat.le_refl _) _⟩
  case round =>
    obtain ⟨j, hj, rfl, hblk, hB⟩ := hrel
    by_cases hlt : j < k
    · have hlt' : (j : Int) < k := by omega
      obtain ⟨b1, o1, rfl, hx1⟩ := HA.out.bit hB j hlt
      have s1 := not_bit a (2 ^ j) (pow_pos' j)
      have hset := fun u => hblk.set_ j u
      have hf := hblk.frozen j
      have hcell := hblk.cell j (by simp [bitsL_length, zerosL_length]; omega)
      have HS := Lib.hid (show ∀ u, u = (-a - 1) / 2 ^ j % 2 → IntBlk (wr.setCell ⟨w.heap.size, j, none⟩ (.int .i64 u)) w.heap.size (bitsL (-a - 1) (j + 1) ++ zerosL (k - (j + 1))) from fun u hu => by
        rw [hu, ← bits_step (-a - 1) k j hlt]; exact hset _)
      generalize (bitsL (-a - 1) j ++ zerosL (k - j))[j]?.getD 0 = old at hcell
      have r1 : 0 ≤ a / 2 ^ j % 2 ∧ a / 2 ^ j % 2 ≤ 1 := by omega
      have S1 := Lib.hid s1
      clear hset s1 hblk
      generalize a / 2 ^ j % 2 = x1 at *
      obtain ⟨r10, r11⟩ := r1
      go_wp2_with fail
      go_roundw
      case rel => exact ⟨j + 1, by omega, by go_num, HS.out _ S1.out.symm, hB.setCell (by simp) _⟩
      case measure => simp [intOf]; omega
    · have hlt' : decide (j < k) = false := by simp; omega
      obtain rfl : j = k := by omega
      have HI := Lib.hid hblk
      clear hblk
      go_wp2_with fail
      go_ret
      exact ⟨_, _, Nat.le_refl _, rfl, HI.out.whole, hB⟩

/-! ### up -/
theorem up_bit (a : Int) (j i : Nat) (h : j ≤ i) : a * 2 ^ j / 2 ^ i % 2 = a / 2 ^ (i - j) % 2 := by
  obtain ⟨m, rfl⟩ : ∃ m, i = j + m := ⟨i - j, by omega⟩
  rw [Nat.add_sub_cancel_left, Int.pow_add, ← Int.ediv_ediv_of_nonneg (Int.le_of_lt (pow_pos' j)), Int.mul_ediv_cancel _ (Int.ne_of_gt (pow_pos' j))]
theorem up_low (a : Int) (j k : Nat) (h : j ≤ k) : bitsL (a * 2 ^ j) j ++ zerosL (k - j) = zerosL k := by
  have e : bitsL (a * 2 ^ j) j = zerosL j := by
    refine List.ext_getElem (by simp [bitsL_length, zerosL_length]) fun i h1 h2 => ?_
    have hi : i < j := by rw [bitsL_length] at h1; exact h1
    simp only [bitsL, zerosL, List.getElem_map, List.getElem_range, List.getElem_replicate]
    obtain ⟨m, rfl⟩ : ∃ m, j = i + 1 + m := ⟨j - (i + 1), by omega⟩
    rw [Int.pow_add, Int.pow_succ, show a * (2 ^ i * 2 * 2 ^ m) = 2 ^ i * (a * 2 ^ m * 2) by rw [Int.mul_comm (2 ^ i) 2, Int.mul_assoc 2, ← Int.mul_assoc a, Int.mul_comm a 2, Int.mul_comm (2 ^ i) (a * 2 ^ m * 2), Int.mul_comm (a * 2 ^ m) 2, Int.mul_assoc 2, Int.mul_assoc 2, Int.mul_assoc a, Int.mul_comm (2 ^ i)], Int.mul_ediv_cancel_left _ (Int.ne_of_gt (pow_pos' i))]
    omega
  rw [e]
  unfold zerosL
  rw [List.replicate_append_replicate]
  congr 1
  omega

set_option maxHeartbeats 2000000 in
theorem up_blk (P : Option Addr) (c k s : Nat) (t a : Int) (ht : (s : Int) = t) (w : World) (hk : k ≤ 65) (hs : s ≤ k) (ha : IntsAt w P (bitsL a k)) :
    Calls Try.prog 76 #[.slice P k c, .int .i64 t] w fun e w' => e = .returned (.slice (some ⟨w.heap.size, 0, none⟩) k k) ∧ IntBlk w' w.heap.size (bitsL (a * 2 ^ s) k) ∧ Below w.heap.size w w' := by
  subst ht
  have hmk := make_ints k (by omega)
  have HA := Lib.hid ha
  have HZ := Lib.hid (up_low a s k hs)
  clear ha
  go_enter Try.func76, Try.ntmps76
  go_wp2_with fail
  clear hmk
  go_loopw [6] (fun i wr => ∃ (j : Nat), s ≤ j ∧ j ≤ k ∧ i = .int .i64 j ∧ IntBlk wr w.heap.size (bitsL (a * 2 ^ s) j ++ zerosL (k - j)) ∧ Below w.heap.size w wr) (fun i _ => (k - intOf i).toNat)
  case atStart => exact ⟨s, Nat.le_refl _, hs, rfl, by rw [HZ.out]; exact IntBlk.new w (zerosL k), (Below.refl _ _).alloc (Nat.le_refl _) _⟩
  case round =>
    obtain ⟨j, hsj, hj, rfl, hblk, hB⟩ := hrel
    by_cases hlt : j < k
    · have hlt' : (j : Int) < k := by omega
      obtain ⟨b1, o1, rfl, hx1⟩ := HA.out.bit hB (j - s) (by omega)
      have s1 := up_bit a s j hsj
      have hset := fun u => hblk.set_ j u
      have hf := hblk.frozen j
      have hcell := hblk.cell j (by simp [bitsL_length, zerosL_length]; omega)
      have HS := Lib.hid (show ∀ u, u = a * 2 ^ s / 2 ^ j % 2 → IntBlk (wr.setCell ⟨w.heap.size, j, none⟩ (.int .i64 u)) w.heap.size (bitsL (a * 2 ^ s) (j + 1) ++ zerosL (k - (j + 1))) from fun u hu => by
        rw [hu, ← bits_step (a * 2 ^ s) k j hlt]; exact hset _)
      generalize (bitsL (a * 2 ^ s) j ++ zerosL (k - j))[j]?.getD 0 = old at hcell
      have S1 := Lib.hid s1
      clear hset s1 hblk
      generalize a / 2 ^ (j - s) % 2 = x1 at *
      obtain ⟨m, hm⟩ : ∃ m, j - s = m := ⟨_, rfl⟩
      rw [hm] at hx1
      have h1 : (0 : Int) ≤ (j : Int) - (s : Int) := by omega
      have h2 : ((j : Int) - (s : Int)) < k := by omega
      have h3 : ((j : Int) - (s : Int)).toNat = m := by omega
      go_wp2_with fail
      go_roundw
      case rel => exact ⟨j + 1, by omega, by omega, by go_num, HS.out _ S1.out.symm, hB.setCell (by simp) _⟩
      case measure => simp [intOf]; omega
    · have hlt' : decide (j < k) = false := by simp; omega
      obtain rfl : j = k := by omega
      have HI := Lib.hid hblk
      clear hblk
      go_wp2_with fail
      go_ret
      exact ⟨rfl, HI.out.whole', hB⟩
theorem up_any (P : Option Addr) (c k s : Nat) (t a : Int) (ht : (s : Int) = t) (w : World) (hk : k ≤ 65) (hs : s ≤ k) (ha : IntsAt w P (bitsL a k)) :
    Calls Try.prog 76 #[.slice P k c, .int .i64 t] w (RowOut w k (a * 2 ^ s)) :=
  (up_blk P c k s t a ht w hk hs ha).mono fun _ _ ⟨h1, h2, h3⟩ => ⟨_, _, Nat.le_refl _, h1, h2.at_, h3⟩
end Go.Proofs.Ytjhgjplhhhgfcaa
