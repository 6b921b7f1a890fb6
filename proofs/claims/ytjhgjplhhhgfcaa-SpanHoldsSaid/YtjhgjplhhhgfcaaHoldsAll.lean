/- Texts in one: RowOps RowOps2 RowOps3 RowOps4 Divided Over Joined RefAlu HalvesMath AlusMath AlusLaw SpHa SpHb SpHc SpanHoldsLaw. -/
import Derived.Test.YtjhgjplhhhgfcaaLess
import Derived.Deep.QuietTactic
import Derived.BigQuiet
import Derived.BigRegion
import Derived.Deep.RegionHeld3
import Derived.Deep.RegionWith
import Derived.Test.YtjhgjplhhhgfcaaAluMath
import Derived.Test.YtjhgjplhhhgfcaaHolds
import Derived.Test.YtjhgjplhhhgfcaaExtLaw
import Derived.Test.YtjhgjplhhhgfcaaLow
import Derived.Test.YtjhgjplhhhgfcaaSpR
import Derived.Test.YtjhgjplhhhgfcaaSpY
import Derived.Test.YtjhgjplhhhgfcaaSpV
import Derived.Test.YtjhgjplhhhgfcaaSpU
/- The document's arithmetic of rows of bits: plus, not, negative, up, down, bitwise. A row of k bits is told by any number of which it is the lowest k bits. -/
namespace Go.Proofs.Ytjhgjplhhhgfcaa
open Go.ChangeShapes Go.WideShapes Go.ChangeAt Go.RowKit
open Bits
set_option linter.unusedVariables false

/-- a row that is handed back: the lowest k bits of x -/
def RowOut (w : World) (k : Nat) (x : Int) (e : Ending) (w' : World) : Prop :=
  ∃ P c, k ≤ c ∧ e = .returned (.slice P k c) ∧ IntsAt w' P (bitsL x k) ∧ Below w.heap.size w w'
theorem bits_at (a : Int) (k j : Nat) (h : j < k) : (bitsL a k)[j]?.getD 0 = a / 2 ^ j % 2 := by rw [bitsL_get a k j h]; rfl
theorem IntsAt.below {w w' : World} {A : Option Addr} {L : List Int} (h : IntsAt w A L) (hb : Below w.heap.size w w') : IntsAt w' A L := fun hp => by
  obtain ⟨b, off, rfl, hlt, hc⟩ := h hp
  exact ⟨b, off, rfl, Nat.lt_of_lt_of_le hlt hb.size, fun i hi => (hb.cell (p := ⟨b, off + i, none⟩) hlt).trans (hc i hi)⟩
theorem IntsAt.bit {w wr : World} {P : Option Addr} {a : Int} {k : Nat} (h : IntsAt w P (bitsL a k)) (hb : Below w.heap.size w wr) (j : Nat) (hj : j < k) :
    ∃ b off, P = some ⟨b, off, none⟩ ∧ wr.cell? ⟨b, off + j, none⟩ = some (.int .i64 (a / 2 ^ j % 2)) := by
  obtain ⟨b, off, e, hlt, hc⟩ := h (by rw [bitsL_length]; omega)
  exact ⟨b, off, e, by rw [hb.cell (p := ⟨b, off + j, none⟩) hlt, hc j (by rw [bitsL_length]; exact hj), bits_at a k j hj]⟩
theorem bitsL_congr {a b : Int} {k : Nat} (h : a % 2 ^ k = b % 2 ^ k) : bitsL a k = bitsL b k := by
  refine valL_inj (bit_bits _ _) (bit_bits _ _) (by rw [bitsL_length, bitsL_length]) ?_
  rw [valL_bits, valL_bits, h]

theorem carry_rng (a b cr q : Int) (hq : 0 < q) (hc : cr = 0 ∨ cr = 1) : 0 ≤ (a % q + b % q + cr) / q ∧ (a % q + b % q + cr) / q ≤ 1 := by
  have h1 := Int.emod_nonneg a (show q ≠ 0 by omega)
  have h2 := Int.emod_lt_of_pos a hq
  have h3 := Int.emod_nonneg b (show q ≠ 0 by omega)
  have h4 := Int.emod_lt_of_pos b hq
  generalize a % q = x at *
  generalize b % q = y at *
  refine ⟨Int.ediv_nonneg (by omega) (by omega), ?_⟩
  have : (x + y + cr) / q < 2 := Int.ediv_lt_of_lt_mul hq (by omega)
  omega
theorem carry_bit (a b cr q : Int) (hq : 0 < q) : (a + b + cr) / q % 2 = (a / q % 2 + b / q % 2 + (a % q + b % q + cr) / q) % 2 := by
  have h1 := Int.emod_add_mul_ediv a q
  have h2 := Int.emod_add_mul_ediv b q
  have h3 : a + b + cr = (a % q + b % q + cr) + q * (a / q + b / q) := by rw [Int.mul_add]; omega
  rw [h3, Int.add_mul_ediv_left _ _ (by omega)]
  omega
theorem carry_next (a b cr q : Int) (hq : 0 < q) : (a % (q * 2) + b % (q * 2) + cr) / (q * 2) = (a / q % 2 + b / q % 2 + (a % q + b % q + cr) / q) / 2 := by
  rw [emod_mul2 a q hq, emod_mul2 b q hq]
  have h3 : a % q + q * (a / q % 2) + (b % q + q * (b / q % 2)) + cr = (a % q + b % q + cr) + q * (a / q % 2 + b / q % 2) := by rw [Int.mul_add]; omega
  rw [h3, ← Int.ediv_ediv_of_nonneg (by omega), Int.add_mul_ediv_left _ _ (by omega)]
  congr 1
  omega

set_option maxHeartbeats 2000000 in
theorem plus_blk (P Q : Option Addr) (c d k : Nat) (a b cr : Int) (w : World) (hk : k ≤ 65) (hcr : cr = 0 ∨ cr = 1) (ha : IntsAt w P (bitsL a k)) (hb : IntsAt w Q (bitsL b k)) :
    Calls Try.prog 71 #[.slice P k c, .slice Q k d, .int .i64 cr] w fun e w' => e = .returned (.slice (some ⟨w.heap.size, 0, none⟩) k k) ∧ IntBlk w' w.heap.size (bitsL (a + b + cr) k) ∧ Below w.heap.size w w' := by
  have hmk := make_ints k (by omega)
  have HA := Lib.hid ha
  have HB := Lib.hid hb
  have HC := Lib.hid hcr
  clear ha hb hcr
  go_enter Try.func71, Try.ntmps71
  go_wp2_with fail
  clear hmk
  go_loopw [2, 8, 9] (fun cy i s wr => ∃ (j : Nat) (y : Int), j ≤ k ∧ i = .int .i64 j ∧ cy = .int .i64 y ∧ y = (a % 2 ^ j + b % 2 ^ j + cr) / 2 ^ j ∧ IntBlk wr w.heap.size (bitsL (a + b + cr) j ++ zerosL (k - j)) ∧ Below w.heap.size w wr) (fun _ i _ _ => (k - intOf i).toNat)
  case atStart => exact ⟨0, cr, Nat.zero_le _, rfl, rfl, by simp, IntBlk.new w (zerosL k), (Below.refl _ _).alloc (Nat.le_refl _) _⟩
  case round =>
    obtain ⟨j, y, hj, rfl, rfl, hy, hblk, hB⟩ := hrel
    by_cases hlt : j < k
    · have hlt' : (j : Int) < k := by omega
      obtain ⟨b1, o1, rfl, hx1⟩ := HA.out.bit hB j hlt
      obtain ⟨b2, o2, rfl, hx2⟩ := HB.out.bit hB j hlt
      have hq := pow_pos' j
      have r3 := carry_rng a b cr (2 ^ j) hq HC.out
      rw [← hy] at r3
      have s1 := carry_bit a b cr (2 ^ j) hq
      have s2 := carry_next a b cr (2 ^ j) hq
      rw [← Int.pow_succ, ← hy] at s2
      rw [← hy] at s1
      have hset := fun u => hblk.set_ j u
      have hf := hblk.frozen j
      have hcell := hblk.cell j (by simp [bitsL_length, zerosL_length]; omega)
      have HS := Lib.hid (show ∀ u, u = (a + b + cr) / 2 ^ j % 2 → IntBlk (wr.setCell ⟨w.heap.size, j, none⟩ (.int .i64 u)) w.heap.size (bitsL (a + b + cr) (j + 1) ++ zerosL (k - (j + 1))) from fun u hu => by
        rw [hu, ← bits_step (a + b + cr) k j hlt]; exact hset _)
      generalize (bitsL (a + b + cr) j ++ zerosL (k - j))[j]?.getD 0 = old at hcell
      have r1 : 0 ≤ a / 2 ^ j % 2 ∧ a / 2 ^ j % 2 ≤ 1 := by omega
      have r2 : 0 ≤ b / 2 ^ j % 2 ∧ b / 2 ^ j % 2 ≤ 1 := by omega
      have S1 := Lib.hid s1
      have S2 := Lib.hid s2
      clear hset s1 s2 hy hblk hq
      generalize a / 2 ^ j % 2 = x1 at *
      generalize b / 2 ^ j % 2 = x2 at *
      have e1 : IntKind.i64.wrap (x1 + x2) = x1 + x2 := IntWalk.i64_in _ (by omega)
      have e2 : IntKind.i64.wrap (x1 + x2 + y) = x1 + x2 + y := IntWalk.i64_in _ (by omega)
      obtain ⟨r10, r11⟩ := r1
      obtain ⟨r20, r21⟩ := r2
      obtain ⟨r30, r31⟩ := r3
      go_wp2_with fail
      go_quiet (fail)
      clear e1 e2
      have r5 : 0 ≤ x1 + x2 + y := by omega
      obtain ⟨s, hs⟩ : ∃ s, x1 + x2 + y = s := ⟨_, rfl⟩
      rw [hs] at S1 S2 r5 ⊢
      have r6 : s ≤ 3 := by omega
      clear hs
      go_wp2_with fail
      go_roundw
      case rel => exact ⟨j + 1, _, by omega, by go_num, rfl, S2.out.symm, HS.out _ S1.out.symm, (below_drewN hB nq).setCell (by simp) _⟩
      case measure => simp [intOf]; omega
    · have hlt' : decide (j < k) = false := by simp; omega
      obtain rfl : j = k := by omega
      have HI := Lib.hid hblk
      clear hblk
      go_wp2_with fail
      go_ret
      exact ⟨rfl, by have := HI.out; simp only [Nat.sub_self, zerosL, List.replicate_zero, List.append_nil] at this; exact this, hB⟩
theorem plus_any (P Q : Option Addr) (c d k : Nat) (a b cr : Int) (w : World) (hk : k ≤ 65) (hcr : cr = 0 ∨ cr = 1) (ha : IntsAt w P (bitsL a k)) (hb : IntsAt w Q (bitsL b k)) :
    Calls Try.prog 71 #[.slice P k c, .slice Q k d, .int .i64 cr] w (RowOut w k (a + b + cr)) :=
  (plus_blk P Q c d k a b cr w hk hcr ha hb).mono fun _ _ ⟨h1, h2, h3⟩ => ⟨_, _, Nat.le_refl _, h1, h2.at_, h3⟩
end Go.Proofs.Ytjhgjplhhhgfcaa
/- The document's arithmetic of rows of bits: not, up, down, negative, bitwise, times. -/
namespace Go.Proofs.Ytjhgjplhhhgfcaa
open Go.ChangeShapes Go.WideShapes Go.ChangeAt Go.RowKit
open Bits
set_option linter.unusedVariables false

theorem IntBlk.whole {w : World} {g k : Nat} {x : Int} (h : IntBlk w g (bitsL x k ++ zerosL (k - k))) : IntsAt w (some ⟨g, 0, none⟩) (bitsL x k) := by
  simp only [Nat.sub_self, zerosL, List.replicate_zero, List.append_nil] at h
  exact h.at_
theorem IntBlk.whole' {w : World} {g k : Nat} {x : Int} (h : IntBlk w g (bitsL x k ++ zerosL (k - k))) : IntBlk w g (bitsL x k) := by
  simp only [Nat.sub_self, zerosL, List.replicate_zero, List.append_nil] at h
  exact h
theorem not_bit (a q : Int) (hq : 0 < q) : (-a - 1) / q % 2 = 1 - a / q % 2 := by
  have h1 := Int.emod_add_mul_ediv a q
  have h2 := Int.emod_nonneg a (show q ≠ 0 by omega)
  have h3 := Int.emod_lt_of_pos a hq
  have h4 : -a - 1 = (q - 1 - a % q) + q * (-(a / q) - 1) := by rw [Int.mul_sub, Int.mul_neg]; omega
  have h5 : (q - 1 - a % q) / q = 0 := Int.ediv_eq_zero_of_lt (by omega) (by omega)
  rw [h4, Int.add_mul_ediv_left _ _ (by omega), h5]
  omega

set_option maxHeartbeats 2000000 in
theorem not_any (P : Option Addr) (c k : Nat) (a : Int) (w : World) (hk : k ≤ 65) (ha : IntsAt w P (bitsL a k)) :
    Calls Try.prog 72 #[.slice P k c] w (RowOut w k (-a - 1)) := by
  have hmk := make_ints k (by omega)
  have HA := Lib.hid ha
  clear ha
  go_enter Try.func72, Try.ntmps72
  go_wp2_with fail
  clear hmk
  go_loopw [4] (fun i wr => ∃ (j : Nat), j ≤ k ∧ i = .int .i64 j ∧ IntBlk wr w.heap.size (bitsL (-a - 1) j ++ zerosL (k - j)) ∧ Below w.heap.size w wr) (fun i _ => (k - intOf i).toNat)
  case atStart => exact ⟨0, Nat.zero_le _, rfl, IntBlk.new w (zerosL k), (Below.refl _ _).alloc (Nat.le_refl _) _⟩
  case round =>
    obtain ⟨j, hj, rfl, hblk, hB⟩ := hrel
    by_cases hlt : j < k
    · have hlt' : (j : Int) < k := by omega
      obtain ⟨b1, o1, rfl, hx1⟩ := HA.out.bit hB j hlt
      have s1 := not_bit a (2 ^ j) (pow_pos' j)
      have hset := fun u => hblk.set_ j u
      have hf := hblk.frozen j
      have hcell := hblk.cell j (by simp [bitsL_length, zerosL_length]; omega)
      have HS := Lib.hid (show ∀ u, u = (-a - 1) / 2 ^ j % 2 → IntBlk (wr.setCell ⟨w.heap.size, j, none⟩ (.int .i64 u)) w.heap.size (bitsL (-a - 1) (j + 1) ++ zerosL (k - (j + 1))) from fun u hu => by
        rw [hu, ← bits_step (-a - 1) k j hlt]; exact hset _)
      generalize (bitsL (-a - 1) j ++ zerosL (k - j))[j]?.getD 0 = old at hcell
      have r1 : 0 ≤ a / 2 ^ j % 2 ∧ a / 2 ^ j % 2 ≤ 1 := by omega
      have S1 := Lib.hid s1
      clear hset s1 hblk
      generalize a / 2 ^ j % 2 = x1 at *
      obtain ⟨r10, r11⟩ := r1
      go_wp2_with fail
      go_roundw
      case rel => exact ⟨j + 1, by omega, by go_num, HS.out _ S1.out.symm, hB.setCell (by simp) _⟩
      case measure => simp [intOf]; omega
    · have hlt' : decide (j < k) = false := by simp; omega
      obtain rfl : j = k := by omega
      have HI := Lib.hid hblk
      clear hblk
      go_wp2_with fail
      go_ret
      exact ⟨_, _, Nat.le_refl _, rfl, HI.out.whole, hB⟩

/-! ### up -/
theorem up_bit (a : Int) (j i : Nat) (h : j ≤ i) : a * 2 ^ j / 2 ^ i % 2 = a / 2 ^ (i - j) % 2 := by
  obtain ⟨m, rfl⟩ : ∃ m, i = j + m := ⟨i - j, by omega⟩
  rw [Nat.add_sub_cancel_left, Int.pow_add, ← Int.ediv_ediv_of_nonneg (Int.le_of_lt (pow_pos' j)), Int.mul_ediv_cancel _ (Int.ne_of_gt (pow_pos' j))]
theorem up_low (a : Int) (j k : Nat) (h : j ≤ k) : bitsL (a * 2 ^ j) j ++ zerosL (k - j) = zerosL k := by
  have e : bitsL (a * 2 ^ j) j = zerosL j := by
    refine List.ext_getElem (by simp [bitsL_length, zerosL_length]) fun i h1 h2 => ?_
    have hi : i < j := by rw [bitsL_length] at h1; exact h1
    simp only [bitsL, zerosL, List.getElem_map, List.getElem_range, List.getElem_replicate]
    obtain ⟨m, rfl⟩ : ∃ m, j = i + 1 + m := ⟨j - (i + 1), by omega⟩
    rw [Int.pow_add, Int.pow_succ, show a * (2 ^ i * 2 * 2 ^ m) = 2 ^ i * (a * 2 ^ m * 2) by rw [Int.mul_comm (2 ^ i) 2, Int.mul_assoc 2, ← Int.mul_assoc a, Int.mul_comm a 2, Int.mul_comm (2 ^ i) (a * 2 ^ m * 2), Int.mul_comm (a * 2 ^ m) 2, Int.mul_assoc 2, Int.mul_assoc 2, Int.mul_assoc a, Int.mul_comm (2 ^ i)], Int.mul_ediv_cancel_left _ (Int.ne_of_gt (pow_pos' i))]
    omega
  rw [e]
  unfold zerosL
  rw [List.replicate_append_replicate]
  congr 1
  omega

set_option maxHeartbeats 2000000 in
theorem up_blk (P : Option Addr) (c k s : Nat) (t a : Int) (ht : (s : Int) = t) (w : World) (hk : k ≤ 65) (hs : s ≤ k) (ha : IntsAt w P (bitsL a k)) :
    Calls Try.prog 76 #[.slice P k c, .int .i64 t] w fun e w' => e = .returned (.slice (some ⟨w.heap.size, 0, none⟩) k k) ∧ IntBlk w' w.heap.size (bitsL (a * 2 ^ s) k) ∧ Below w.heap.size w w' := by
  subst ht
  have hmk := make_ints k (by omega)
  have HA := Lib.hid ha
  have HZ := Lib.hid (up_low a s k hs)
  clear ha
  go_enter Try.func76, Try.ntmps76
  go_wp2_with fail
  clear hmk
  go_loopw [6] (fun i wr => ∃ (j : Nat), s ≤ j ∧ j ≤ k ∧ i = .int .i64 j ∧ IntBlk wr w.heap.size (bitsL (a * 2 ^ s) j ++ zerosL (k - j)) ∧ Below w.heap.size w wr) (fun i _ => (k - intOf i).toNat)
  case atStart => exact ⟨s, Nat.le_refl _, hs, rfl, by rw [HZ.out]; exact IntBlk.new w (zerosL k), (Below.refl _ _).alloc (Nat.le_refl _) _⟩
  case round =>
    obtain ⟨j, hsj, hj, rfl, hblk, hB⟩ := hrel
    by_cases hlt : j < k
    · have hlt' : (j : Int) < k := by omega
      obtain ⟨b1, o1, rfl, hx1⟩ := HA.out.bit hB (j - s) (by omega)
      have s1 := up_bit a s j hsj
      have hset := fun u => hblk.set_ j u
      have hf := hblk.frozen j
      have hcell := hblk.cell j (by simp [bitsL_length, zerosL_length]; omega)
      have HS := Lib.hid (show ∀ u, u = a * 2 ^ s / 2 ^ j % 2 → IntBlk (wr.setCell ⟨w.heap.size, j, none⟩ (.int .i64 u)) w.heap.size (bitsL (a * 2 ^ s) (j + 1) ++ zerosL (k - (j + 1))) from fun u hu => by
        rw [hu, ← bits_step (a * 2 ^ s) k j hlt]; exact hset _)
      generalize (bitsL (a * 2 ^ s) j ++ zerosL (k - j))[j]?.getD 0 = old at hcell
      have S1 := Lib.hid s1
      clear hset s1 hblk
      generalize a / 2 ^ (j - s) % 2 = x1 at *
      obtain ⟨m, hm⟩ : ∃ m, j - s = m := ⟨_, rfl⟩
      rw [hm] at hx1
      have h1 : (0 : Int) ≤ (j : Int) - (s : Int) := by omega
      have h2 : ((j : Int) - (s : Int)) < k := by omega
      have h3 : ((j : Int) - (s : Int)).toNat = m := by omega
      go_wp2_with fail
      go_roundw
      case rel => exact ⟨j + 1, by omega, by omega, by go_num, HS.out _ S1.out.symm, hB.setCell (by simp) _⟩
      case measure => simp [intOf]; omega
    · have hlt' : decide (j < k) = false := by simp; omega
      obtain rfl : j = k := by omega
      have HI := Lib.hid hblk
      clear hblk
      go_wp2_with fail
      go_ret
      exact ⟨rfl, HI.out.whole', hB⟩
theorem up_any (P : Option Addr) (c k s : Nat) (t a : Int) (ht : (s : Int) = t) (w : World) (hk : k ≤ 65) (hs : s ≤ k) (ha : IntsAt w P (bitsL a k)) :
    Calls Try.prog 76 #[.slice P k c, .int .i64 t] w (RowOut w k (a * 2 ^ s)) :=
  (up_blk P c k s t a ht w hk hs ha).mono fun _ _ ⟨h1, h2, h3⟩ => ⟨_, _, Nat.le_refl _, h1, h2.at_, h3⟩
end Go.Proofs.Ytjhgjplhhhgfcaa
/- The document's arithmetic of rows of bits: down, bitwise, negative. -/
namespace Go.Proofs.Ytjhgjplhhhgfcaa
open Go.ChangeShapes Go.WideShapes Go.ChangeAt Go.RowKit
open Bits
set_option linter.unusedVariables false

theorem bit_congr {a b : Int} {n j : Nat} (h : a % 2 ^ n = b % 2 ^ n) (hj : j < n) : a / 2 ^ j % 2 = b / 2 ^ j % 2 := by
  rw [← bits_at a n j hj, ← bits_at b n j hj, bitsL_congr h]
theorem filled_mod (a f : Int) (n : Nat) : (a % 2 ^ n - f * 2 ^ n) % 2 ^ n = a % 2 ^ n := by
  rw [Int.sub_mul_emod_self_right, Int.emod_emod]
theorem filled_bit (a f : Int) (n s i : Nat) (h : i + s < n) : (a % 2 ^ n - f * 2 ^ n) / 2 ^ s / 2 ^ i % 2 = a / 2 ^ (i + s) % 2 := by
  rw [Int.ediv_ediv_of_nonneg (Int.le_of_lt (pow_pos' s)), pow_split (Nat.add_comm s i)]
  exact bit_congr (filled_mod a f n) h
theorem filled_high (a f : Int) (hf : f = 0 ∨ f = 1) (n s i : Nat) (h : n ≤ i + s) : (a % 2 ^ n - f * 2 ^ n) / 2 ^ s / 2 ^ i % 2 = f := by
  rw [Int.ediv_ediv_of_nonneg (Int.le_of_lt (pow_pos' s)), pow_split (Nat.add_comm s i)]
  have h1 := Int.emod_nonneg a (Int.ne_of_gt (pow_pos' n))
  have h2 := Int.emod_lt_of_pos a (pow_pos' n)
  have h3 : (2 : Int) ^ n ≤ 2 ^ (i + s) := pow_le_of h
  have h4 := pow_pos' (i + s)
  generalize a % 2 ^ n = x at *
  generalize (2 : Int) ^ n = N at *
  generalize (2 : Int) ^ (i + s) = M at *
  rcases hf with rfl | rfl
  · rw [Int.zero_mul, Int.sub_zero, Int.ediv_eq_zero_of_lt h1 (by omega)]; rfl
  · rw [Int.one_mul]
    have : (x - N) / M = -1 := by
      have : x - N = (x - N + M) + M * (-1) := by omega
      rw [this, Int.add_mul_ediv_left _ _ (by omega), Int.ediv_eq_zero_of_lt (by omega) (by omega)]
      rfl
    rw [this]; rfl

set_option maxHeartbeats 2000000 in
theorem down_any (P : Option Addr) (c k s : Nat) (t a f : Int) (ht : (s : Int) = t) (hf : f = 0 ∨ f = 1) (w : World) (hk : k ≤ 65) (hs : s ≤ k) (ha : IntsAt w P (bitsL a k)) :
    Calls Try.prog 77 #[.slice P k c, .int .i64 t, .int .i64 f] w (RowOut w k ((a % 2 ^ k - f * 2 ^ k) / 2 ^ s)) := by
  subst ht
  have hmk := make_ints k (by omega)
  have HA := Lib.hid ha
  have HF := Lib.hid hf
  clear ha hf
  obtain ⟨R, hR⟩ : ∃ R, (a % 2 ^ k - f * 2 ^ k) / 2 ^ s = R := ⟨_, rfl⟩
  have B1 : ∀ i, i + s < k → R / 2 ^ i % 2 = a / 2 ^ (i + s) % 2 := fun i h => by rw [← hR]; exact filled_bit a f k s i h
  have B2 : ∀ i, k ≤ i + s → R / 2 ^ i % 2 = f := fun i h => by rw [← hR]; exact filled_high a f HF.out k s i h
  have HB1 := Lib.hid B1
  have HB2 := Lib.hid B2
  rw [hR]
  clear B1 B2 hR
  go_enter Try.func77, Try.ntmps77
  go_wp2_with fail
  clear hmk
  go_loopw [8] (fun i wr => ∃ (j : Nat), j ≤ k ∧ i = .int .i64 j ∧ IntBlk wr w.heap.size (bitsL R j ++ zerosL (k - j)) ∧ Below w.heap.size w wr) (fun i _ => (k - intOf i).toNat)
  case atStart => exact ⟨0, Nat.zero_le _, rfl, IntBlk.new w (zerosL k), (Below.refl _ _).alloc (Nat.le_refl _) _⟩
  case round =>
    obtain ⟨j, hj, rfl, hblk, hB⟩ := hrel
    by_cases hlt : j < k
    · have hlt' : (j : Int) < k := by omega
      have hset := fun u => hblk.set_ j u
      have hfr := hblk.frozen j
      have hcell := hblk.cell j (by simp [bitsL_length, zerosL_length]; omega)
      generalize (bitsL R j ++ zerosL (k - j))[j]?.getD 0 = old at hcell
      by_cases hsk : j + s < k
      · have hsk' : (j : Int) + (s : Int) < k := by omega
        have hx0 := HA.out.bit hB (j + s) hsk
        obtain ⟨b1, o1, rfl, hx1⟩ := hx0
        have hne : b1 ≠ w.heap.size := by
          have h9 := HA.out (by rw [bitsL_length]; omega)
          obtain ⟨b', o', e', hlt9, _⟩ := h9
          injection e' with e'; injection e' with e1 e2; omega
        have S1 := Lib.hid (HB1.out j hsk)
        have HS := Lib.hid (show ∀ u v, v = R / 2 ^ j % 2 → IntBlk ((wr.setCell ⟨w.heap.size, j, none⟩ (.int .i64 u)).setCell ⟨w.heap.size, j, none⟩ (.int .i64 v)) w.heap.size (bitsL R (j + 1) ++ zerosL (k - (j + 1))) from fun u v hv => by
          have h1 := (hset u).set_ j v
          rw [List.set_set] at h1
          rw [hv] at h1 ⊢
          rw [← bits_step R k j hlt]
          exact h1)
        clear hset hblk
        generalize a / 2 ^ (j + s) % 2 = x1 at *
        have hx2 : (wr.setCell ⟨w.heap.size, j, none⟩ (.int .i64 f)).cell? ⟨b1, o1 + (j + s), none⟩ = some (.int .i64 x1) := by
          rw [World.cell?_setCell_other _ _ _ _ (fun e => hne (congrArg Addr.block e).symm)]
          exact hx1
        obtain ⟨m, hm⟩ : ∃ m, j + s = m := ⟨_, rfl⟩
        rw [hm] at hx2
        have h1 : (0 : Int) ≤ (j : Int) + (s : Int) := by omega
        have h3 : ((j : Int) + (s : Int)).toNat = m := by omega
        clear hx1
        go_wp2_with fail
        go_roundw
        case rel => exact ⟨j + 1, by omega, by go_num, HS.out _ _ S1.out.symm, (hB.setCell (by simp) _).setCell (by simp) _⟩
        case measure => simp [intOf]; omega
      · have hsk' : decide ((j : Int) + (s : Int) < k) = false := by simp; omega
        have S1 := Lib.hid (HB2.out j (by omega))
        have HS := Lib.hid (show ∀ v, v = R / 2 ^ j % 2 → IntBlk (wr.setCell ⟨w.heap.size, j, none⟩ (.int .i64 v)) w.heap.size (bitsL R (j + 1) ++ zerosL (k - (j + 1))) from fun v hv => by
          rw [hv, ← bits_step R k j hlt]
          exact hset _)
        clear hset hblk
        have h1 : (0 : Int) ≤ (j : Int) + (s : Int) := by omega
        go_wp2_with fail
        go_roundw
        case rel => exact ⟨j + 1, by omega, by go_num, HS.out _ S1.out.symm, hB.setCell (by simp) _⟩
        case measure => simp [intOf]; omega
    · have hlt' : decide (j < k) = false := by simp; omega
      obtain rfl : j = k := by omega
      have HI := Lib.hid hblk
      clear hblk
      go_wp2_with fail
      go_ret
      exact ⟨_, _, Nat.le_refl _, rfl, HI.out.whole, hB⟩

theorem make_b (k : Nat) (hk : k ≤ 65) (w : World) : (Instr.makeSlice 63 (.int .i64 k) (.int .i64 k)).run Try.prog w =
    .ok (.slice (some ⟨w.heap.size, 0, none⟩) k k) (w.alloc (.cells ((zerosL k).map (Value.int .i64)).toArray 3)) := make_ints k (by omega) w
theorem zeros_bits (k : Nat) : zerosL k = bitsL 0 k := by
  unfold zerosL bitsL
  refine List.ext_getElem (by simp) fun i h1 h2 => ?_
  simp

theorem zeros_new (k : Nat) (w : World) : IntsAt (w.alloc (.cells ((zerosL k).map (Value.int .i64)).toArray 3)) (some ⟨w.heap.size, 0, none⟩) (bitsL 0 k) := by
  rw [← zeros_bits]; exact (IntBlk.new w (zerosL k)).at_
theorem not_b (P : Option Addr) (c k : Nat) (a : Int) (w0 w : World) (hk : k ≤ 65) (ha : IntsAt w P (bitsL a k)) (hB : Below w0.heap.size w0 w) :
    Calls Try.prog 72 #[.slice P k c] w fun e w' => ∃ P' c', e = .returned (.slice P' k c') ∧ IntsAt w' P' (bitsL (-a - 1) k) ∧ Below w.heap.size w w' ∧ Below w0.heap.size w0 w' :=
  (not_any P c k a w hk ha).mono fun _ _ ⟨P', c', _, he, hi, hb⟩ => ⟨P', c', he, hi, hb, hB.trans (hb.mono hB.size)⟩
theorem plus_b (P Q : Option Addr) (c d k : Nat) (a b cr : Int) (w0 w : World) (hk : k ≤ 65) (hcr : cr = 0 ∨ cr = 1) (ha : IntsAt w P (bitsL a k)) (hb : IntsAt w Q (bitsL b k)) (hB : Below w0.heap.size w0 w) :
    Calls Try.prog 71 #[.slice P k c, .slice Q k d, .int .i64 cr] w fun e w' => ∃ P' c', e = .returned (.slice P' k c') ∧ IntsAt w' P' (bitsL (a + b + cr) k) ∧ Below w0.heap.size w0 w' :=
  (plus_any P Q c d k a b cr w hk hcr ha hb).mono fun _ _ ⟨P', c', _, he, hi, hbb⟩ => ⟨P', c', he, hi, hB.trans (hbb.mono hB.size)⟩

theorem IntsAt.below_drew {w w' : World} {A : Option Addr} {L : List Int} (h : IntsAt w A L) (hb : Below w.drew.heap.size w.drew w') : IntsAt w' A L := IntsAt.below (w := w.drew) h hb

set_option maxHeartbeats 2000000 in
theorem negative_any (P : Option Addr) (c k : Nat) (a : Int) (w : World) (hk : k ≤ 65) (ha : IntsAt w P (bitsL a k)) :
    Calls Try.prog 78 #[.slice P k c] w fun e w' => ∃ P' c', e = .returned (.slice P' k c') ∧ IntsAt w' P' (bitsL (-a) k) ∧ Below w.heap.size w w' := by
  have hmk := make_b k hk
  have HA := Lib.hid ha
  have HE := Lib.hid (show -a = -a - 1 + 0 + 1 by omega)
  clear ha
  go_enter Try.func78, Try.ntmps78
  go_wp2_with fail
  go_region_with (first
    | (go_at_call 72; refine (not_b P c k a w _ hk (by first | exact HA.out | exact HA.out.below (((Below.refl _ _).drew).alloc (by simp) _)) (by first | exact (Below.refl _ _).drew | exact ((Below.refl _ _).drew).alloc (by simp) _)).mono ?_; rintro e w1 ⟨P1, c1, rfl, hi1, hb1, hB1⟩)
    | (go_at_call 71; refine (plus_b _ _ _ _ k (-a - 1) 0 1 w _ hk (.inr rfl) (by first | exact hi1 | exact hi1.below ((Below.refl _ _).alloc (by simp) _)) (by first | exact zeros_new k _ | exact (zeros_new k _).below_drew hb1 | exact (zeros_new k _).below hb1) (by first | exact hB1 | exact hB1.alloc hB1.size _)).mono ?_; rintro e w2 ⟨P2, c2, rfl, hi2, hB2⟩))
  all_goals
    go_wp2_with fail
    go_ret
    exact ⟨_, _, rfl, by rw [HE.out]; exact hi2, hB2⟩
end Go.Proofs.Ytjhgjplhhhgfcaa
/- The document's arithmetic of rows of bits: bitwise, times. -/
namespace Go.Proofs.Ytjhgjplhhhgfcaa
open Go.ChangeShapes Go.WideShapes Go.ChangeAt Go.RowKit
open Bits
set_option linter.unusedVariables false

/-- what bitwise makes of the sum of two bits -/
def bw (op s : Int) : Int := if op = 8 then (if 0 < s then 1 else 0) else if op = 9 then (if s = 2 then 1 else 0) else (if s = 1 then 1 else 0)
theorem zero_step (X : Int) (k j : Nat) (h : j < k) (h0 : X / 2 ^ j % 2 = 0) : bitsL X j ++ zerosL (k - j) = bitsL X (j + 1) ++ zerosL (k - (j + 1)) := by
  rw [← bits_step X k j h, h0]
  obtain ⟨m, hm⟩ : ∃ m, k - j = m + 1 := ⟨k - j - 1, by omega⟩
  rw [List.set_append_right _ _ (by rw [bitsL_length]; omega), bitsL_length, Nat.sub_self, hm]
  unfold zerosL
  rw [List.replicate_succ, List.set_cons_zero]

set_option maxHeartbeats 4000000 in
theorem bitwise_any (op : Int) (hop : op = 8 ∨ op = 9 ∨ op = 10) (P Q : Option Addr) (c d k : Nat) (a b X : Int) (w : World) (hk : k ≤ 65) (ha : IntsAt w P (bitsL a k)) (hb : IntsAt w Q (bitsL b k))
    (hX : ∀ j, j < k → X / 2 ^ j % 2 = bw op (a / 2 ^ j % 2 + b / 2 ^ j % 2)) :
    Calls Try.prog 79 #[.int .i64 op, .slice P k c, .slice Q k d] w (RowOut w k X) := by
  have hmk := make_ints k (by omega)
  have HA := Lib.hid ha
  have HB := Lib.hid hb
  have HX := Lib.hid hX
  have HO := Lib.hid hop
  clear ha hb hX hop
  go_enter Try.func79, Try.ntmps79
  go_wp2_with fail
  clear hmk
  go_loopw [8, 9, 28] (fun i s t wr => ∃ (j : Nat), j ≤ k ∧ i = .int .i64 j ∧ IntBlk wr w.heap.size (bitsL X j ++ zerosL (k - j)) ∧ Below w.heap.size w wr) (fun i _ _ _ => (k - intOf i).toNat)
  case atStart => exact ⟨0, Nat.zero_le _, rfl, IntBlk.new w (zerosL k), (Below.refl _ _).alloc (Nat.le_refl _) _⟩
  case round =>
    obtain ⟨j, hj, rfl, hblk, hB⟩ := hrel
    by_cases hlt : j < k
    · have hlt' : (j : Int) < k := by omega
      obtain ⟨b1, o1, rfl, hx1⟩ := HA.out.bit hB j hlt
      obtain ⟨b2, o2, rfl, hx2⟩ := HB.out.bit hB j hlt
      have s1 := HX.out j hlt
      have hset := fun u => hblk.set_ j u
      have hf := hblk.frozen j
      have hcell := hblk.cell j (by simp [bitsL_length, zerosL_length]; omega)
      have HS := Lib.hid (show 1 = X / 2 ^ j % 2 → IntBlk (wr.setCell ⟨w.heap.size, j, none⟩ (.int .i64 1)) w.heap.size (bitsL X (j + 1) ++ zerosL (k - (j + 1))) from fun hu => by
        have := hset 1
        rw [hu, bits_step X k j hlt] at this
        rw [hu]
        exact this)
      have HN := Lib.hid (show 0 = X / 2 ^ j % 2 → IntBlk wr w.heap.size (bitsL X (j + 1) ++ zerosL (k - (j + 1))) from fun hu => by
        rw [← zero_step X k j hlt hu.symm]; exact hblk)
      generalize (bitsL X j ++ zerosL (k - j))[j]?.getD 0 = old at hcell
      have r1 : 0 ≤ a / 2 ^ j % 2 ∧ a / 2 ^ j % 2 ≤ 1 := by omega
      have r2 : 0 ≤ b / 2 ^ j % 2 ∧ b / 2 ^ j % 2 ≤ 1 := by omega
      have S1 := Lib.hid s1
      clear hset s1 hblk
      generalize X / 2 ^ j % 2 = z at *
      generalize a / 2 ^ j % 2 = x1 at *
      generalize b / 2 ^ j % 2 = x2 at *
      have e1 : IntKind.i64.wrap (x1 + x2) = x1 + x2 := IntWalk.i64_in _ (by omega)
      obtain ⟨r10, r11⟩ := r1
      obtain ⟨r20, r21⟩ := r2
      go_wp2_with fail
      go_quiet (fail)
      clear e1
      obtain ⟨s, hs⟩ : ∃ s, x1 + x2 = s := ⟨_, rfl⟩
      rw [hs] at S1 ⊢
      have h3 : s = 0 ∨ s = 1 ∨ s = 2 := by omega
      clear hs r10 r11 r20 r21
      have hzz := S1.out
      rcases HO.out with rfl | rfl | rfl <;> rcases h3 with rfl | rfl | rfl <;> simp only [bw, Int.reduceEq, if_true, if_false, Int.reduceLT] at hzz
      all_goals
        have HZ := Lib.hid hzz.symm
        clear hzz
        go_wp2_with fail
        go_roundw
        case rel => exact ⟨j + 1, by omega, by go_num, by first | exact HS.out HZ.out | exact HN.out HZ.out, by first | exact (below_drewN hB nq).setCell (by simp) _ | exact below_drewN hB nq⟩
        case measure => simp [intOf]; omega
    · have hlt' : decide (j < k) = false := by simp; omega
      obtain rfl : j = k := by omega
      have HI := Lib.hid hblk
      clear hblk
      go_wp2_with fail
      go_ret
      exact ⟨_, _, Nat.le_refl _, rfl, HI.out.whole, hB⟩

/-! ### times -/
theorem times_step (a b : Int) (j : Nat) : a * (b % 2 ^ (j + 1)) = a * (b % 2 ^ j) + (b / 2 ^ j % 2) * (a * 2 ^ j) := by
  rw [Int.pow_succ, emod_mul2 b (2 ^ j) (pow_pos' j), Int.mul_add, Int.mul_comm (b / 2 ^ j % 2), Int.mul_assoc]
theorem up_b (P : Option Addr) (c k s : Nat) (t a : Int) (ht : (s : Int) = t) (w0 w : World) (hk : k ≤ 65) (hs : s ≤ k) (ha : IntsAt w P (bitsL a k)) (hB : Below w0.heap.size w0 w) :
    Calls Try.prog 76 #[.slice P k c, .int .i64 t] w fun e w' => ∃ P' c', e = .returned (.slice P' k c') ∧ IntsAt w' P' (bitsL (a * 2 ^ s) k) ∧ Below w.heap.size w w' ∧ Below w0.heap.size w0 w' :=
  (up_any P c k s t a ht w hk hs ha).mono fun _ _ ⟨P', c', _, he, hi, hbb⟩ => ⟨P', c', he, hi, hbb, hB.trans (hbb.mono hB.size)⟩

set_option maxHeartbeats 2000000 in
theorem times_any (P Q : Option Addr) (c d k : Nat) (a b : Int) (w : World) (hk : k ≤ 65) (ha : IntsAt w P (bitsL a k)) (hb : IntsAt w Q (bitsL b k)) :
    Calls Try.prog 73 #[.slice P k c, .slice Q k d] w fun e w' => ∃ P' c', e = .returned (.slice P' k c') ∧ IntsAt w' P' (bitsL (a * b) k) ∧ Below w.heap.size w w' := by
  have hmk := make_ints k (by omega)
  have HA := Lib.hid ha
  have HB := Lib.hid hb
  have HE := Lib.hid (show bitsL (a * (b % 2 ^ k)) k = bitsL (a * b) k from bitsL_congr (by rw [Int.mul_emod, Int.emod_emod, ← Int.mul_emod]))
  clear ha hb
  go_enter Try.func73, Try.ntmps73
  go_wp2_with fail
  clear hmk
  go_loopw [5, 6] (fun v i wr => ∃ (j : Nat) (P' : Option Addr) (c' : Nat), j ≤ k ∧ i = .int .i64 j ∧ v = .slice P' k c' ∧ IntsAt wr P' (bitsL (a * (b % 2 ^ j)) k) ∧ Below w.heap.size w wr) (fun _ i _ => (k - intOf i).toNat)
  case atStart => exact ⟨0, _, _, Nat.zero_le _, rfl, rfl, by simpa [Int.emod_one] using zeros_new k w, (Below.refl _ _).alloc (Nat.le_refl _) _⟩
  case round =>
    obtain ⟨j, P', c', hj, rfl, rfl, hi, hB⟩ := hrel
    by_cases hlt : j < k
    · have hlt' : (j : Int) < k := by omega
      obtain ⟨b2, o2, rfl, hx2⟩ := HB.out.bit hB j hlt
      have s1 := times_step a b j
      rcases Int.emod_two_eq (b / 2 ^ j) with hz | hz
      · rw [hz] at hx2 s1
        have S1 := Lib.hid (show a * (b % 2 ^ (j + 1)) = a * (b % 2 ^ j) by omega)
        clear s1 hz
        go_wp2_with fail
        go_roundw
        case rel => exact ⟨j + 1, _, _, by omega, by go_num, rfl, by rw [S1.out]; exact hi, hB⟩
        case measure => simp [intOf]; omega
      · rw [hz] at hx2 s1
        have S1 := Lib.hid (show a * (b % 2 ^ (j + 1)) = a * (b % 2 ^ j) + a * 2 ^ j + 0 by omega)
        have C1 := Lib.hid (up_b P c k j (j : Int) a rfl w wr hk hj (HA.out.below hB) hB)
        have HI := Lib.hid hi
        clear s1 hz hi
        go_wp2_with fail
        refine C1.out.mono ?_
        rintro e w1 ⟨P1, c1, rfl, hi1, hb1, hB1⟩
        have C2 := Lib.hid (plus_b P' P1 c' c1 k _ _ 0 w w1 hk (.inl rfl) (HI.out.below hb1) hi1 hB1)
        clear C1 hi1 hb1 hB1
        go_wp2_with fail
        refine C2.out.mono ?_
        rintro e w2 ⟨P2, c2, rfl, hi2, hB2⟩
        rw [← S1.out] at hi2
        go_wp2_with fail
        go_roundw
        case rel => exact ⟨j + 1, _, _, by omega, by go_num, rfl, hi2, hB2⟩
        case measure => simp [intOf]; omega
    · have hlt' : decide (j < k) = false := by simp; omega
      obtain rfl : j = k := by omega
      have HI := Lib.hid hi
      clear hi
      go_wp2_with fail
      go_ret
      exact ⟨_, _, rfl, by rw [← HE.out]; exact HI.out, hB⟩
end Go.Proofs.Ytjhgjplhhhgfcaa
/- The document's long division of rows of bits. -/
namespace Go.Proofs.Ytjhgjplhhhgfcaa
open Go.ChangeShapes Go.WideShapes Go.ChangeAt Go.RowKit
open Bits
set_option linter.unusedVariables false

theorem OwnI.form2 {w : World} {base : Nat} {v : Value} {L : List Int} (h : OwnI w base v L) (hp : 0 < L.length) :
    ∃ g c, v = .slice (some ⟨g, 0, none⟩) L.length c ∧ L.length ≤ c ∧ base ≤ g ∧ g < w.heap.size ∧ IntsAt w (some ⟨g, 0, none⟩) L := by
  obtain ⟨A, c, hv, hat⟩ := h.form
  rcases h.2 with ⟨hv', hn⟩ | ⟨g, cap, cur, hv', hg, hh, hnc, _⟩
  · omega
  · have hlt : g < w.heap.size := by
      rcases Nat.lt_or_ge g w.heap.size with h1 | h1
      · exact h1
      · rw [Array.getElem?_eq_none h1] at hh; cases hh
    rw [hv'] at hv
    injection hv with e1 e2 e3
    exact ⟨g, cap, hv', hnc, hg, hlt, by rw [e1]; exact hat⟩
theorem IntsAt.far {w : World} {g : Nat} {L : List Int} (h : IntsAt w (some ⟨g, 0, none⟩) L) {p : Addr} (hp : g ≠ p.block) (u : Value) : IntsAt (w.setCell p u) (some ⟨g, 0, none⟩) L := fun h0 => by
  obtain ⟨b, off, e, hlt, hc⟩ := h h0
  injection e with e; injection e with e1 e2
  refine ⟨g, 0, rfl, by simp [World.setCell]; omega, fun i hi => ?_⟩
  rw [World.cell?_setCell_other _ _ _ _ (fun e => hp (congrArg Addr.block e).symm), ← hc i hi, ← e1, ← e2]
theorem IntBlk.far {w : World} {g : Nat} {L : List Int} (h : IntBlk w g L) {p : Addr} (hp : g ≠ p.block) (u : Value) : IntBlk (w.setCell p u) g L := (Below.heap_setCell w p u g hp).trans h

theorem IntsAt.prefix_ {w : World} {P : Option Addr} {x : Int} {m k : Nat} (h : IntsAt w P (bitsL x m)) (hk : k ≤ m) : IntsAt w P (bitsL x k) := fun hp => by
  rw [bitsL_length] at hp
  obtain ⟨b, off, e, hlt, hc⟩ := h (by rw [bitsL_length]; omega)
  refine ⟨b, off, e, hlt, fun i hi => ?_⟩
  rw [bitsL_length] at hi
  rw [hc i (by rw [bitsL_length]; omega), bits_at x m i (by omega), bits_at x k i hi]
theorem wide_eq (b : Int) (k : Nat) : bitsL b k ++ [0] = bitsL (b % 2 ^ k) (k + 1) := by
  have h1 := Int.emod_nonneg b (Int.ne_of_gt (pow_pos' k))
  have h2 := Int.emod_lt_of_pos b (pow_pos' k)
  have e : bitsL b k = bitsL (b % 2 ^ k) k := bitsL_congr (by rw [Int.emod_emod])
  rw [e]
  have : bitsL (b % 2 ^ k) (k + 1) = bitsL (b % 2 ^ k) k ++ [b % 2 ^ k / 2 ^ k % 2] := by
    unfold bitsL; rw [List.range_succ, List.map_append]; rfl
  rw [this, Int.ediv_eq_zero_of_lt h1 h2]
  rfl
theorem set_low (x y : Int) (hy : y = 0 ∨ y = 1) (m : Nat) : (bitsL (x * 2 ^ 1) (m + 1)).set 0 y = bitsL (2 * x + y) (m + 1) := by
  rw [bitsL_succ, bitsL_succ, List.set_cons_zero, show (2 : Int) ^ 1 = 2 from rfl]
  rw [show x * 2 / 2 = x by omega, show (2 * x + y) % 2 = y by omega, show (2 * x + y) / 2 = x by omega]
/-- the quotient's row with its places below j not yet written -/
def qL (Q : Int) (k j : Nat) : List Int := (List.range k).map fun i => if i < j then 0 else Q / 2 ^ i % 2
theorem qL_length (Q : Int) (k j : Nat) : (qL Q k j).length = k := by simp [qL]
theorem qL_start (Q : Int) (k : Nat) : qL Q k k = zerosL k := by
  refine List.ext_getElem (by simp [qL, zerosL]) fun i h1 h2 => ?_
  have hi : i < k := by rw [qL_length] at h1; exact h1
  simp [qL, zerosL, hi]
theorem qL_end (Q : Int) (k : Nat) : qL Q k 0 = bitsL Q k := by
  refine List.ext_getElem (by simp [qL, bitsL]) fun i h1 h2 => ?_
  simp [qL, bitsL]
theorem qL_step (Q : Int) (k j : Nat) (h : j < k) : (qL Q k (j + 1)).set j (Q / 2 ^ j % 2) = qL Q k j := by
  refine List.ext_getElem (by simp [qL]) fun i h1 h2 => ?_
  have hi : i < k := by rw [qL_length] at h2; exact h2
  rw [List.getElem_set]
  simp only [qL, List.getElem_map, List.getElem_range]
  by_cases e : j = i
  · subst e; simp
  · by_cases h3 : i < j
    · simp [e, h3, show i < j + 1 by omega]
    · simp [e, h3, show ¬ i < j + 1 by omega]
theorem qL_keep (Q : Int) (k j : Nat) (h : j < k) (h0 : Q / 2 ^ j % 2 = 0) : qL Q k (j + 1) = qL Q k j := by
  rw [← qL_step Q k j h, h0]
  refine List.ext_getElem (by simp [qL]) fun i h1 h2 => ?_
  rw [List.getElem_set]
  simp only [qL, List.getElem_map, List.getElem_range]
  by_cases e : j = i
  · subst e; simp
  · simp [e]

/-- one place of the division -/
theorem div_place (A B : Int) (hA : 0 ≤ A) (hB : 0 < B) (j : Nat) (x : Int) (hx : A / 2 ^ j % 2 = x) (R' : Int) (hR : 2 * (A / 2 ^ (j + 1) % B) + x = R') :
    (R' < B → A / 2 ^ j % B = R' ∧ A / B / 2 ^ j % 2 = 0) ∧ (¬ R' < B → A / 2 ^ j % B = R' + (-B - 1) + 1 ∧ A / B / 2 ^ j % 2 = 1) ∧ 0 ≤ R' ∧ R' < 2 * B := by
  have hp := pow_pos' j
  have e1 : A / 2 ^ (j + 1) = A / 2 ^ j / 2 := by rw [Int.pow_succ, ← Int.ediv_ediv_of_nonneg (Int.le_of_lt hp)]
  have e2 : A / B / 2 ^ j = A / 2 ^ j / B := by
    rw [Int.ediv_ediv_of_nonneg (Int.le_of_lt hB), Int.ediv_ediv_of_nonneg (Int.le_of_lt hp), Int.mul_comm]
  have hu : 0 ≤ A / 2 ^ j := Int.ediv_nonneg hA (Int.le_of_lt hp)
  rw [e1] at hR
  rw [e2]
  generalize A / 2 ^ j = u at *
  have h1 := Int.emod_add_mul_ediv (u / 2) B
  have h2 := Int.emod_nonneg (u / 2) (show B ≠ 0 by omega)
  have h3 := Int.emod_lt_of_pos (u / 2) hB
  have h4 : u = R' + B * (2 * (u / 2 / B)) := by
    rw [Int.mul_left_comm]; omega
  generalize u / 2 / B = v at *
  refine ⟨fun h => ?_, fun h => ?_, by omega, by omega⟩
  · rw [h4, Int.add_mul_emod_self_left, Int.add_mul_ediv_left _ _ (by omega), Int.emod_eq_of_lt (by omega) h, Int.ediv_eq_zero_of_lt (by omega) h]
    exact ⟨rfl, by omega⟩
  · have e3 : R' = (R' - B) + B * 1 := by omega
    have e4 : R' + B * (2 * v) = (R' - B) + B * (1 + 2 * v) := by rw [Int.mul_add]; omega
    rw [h4, e4, Int.add_mul_emod_self_left, Int.add_mul_ediv_left _ _ (by omega), Int.emod_eq_of_lt (by omega) (by omega), Int.ediv_eq_zero_of_lt (by omega) (by omega)]
    exact ⟨by omega, by omega⟩

theorem less_w (P Q : Option Addr) (c d m : Nat) (x y : Int) (w : World) (hm : m ≤ 65) (hx : 0 ≤ x ∧ x < 2 ^ m) (hy : 0 ≤ y ∧ y < 2 ^ m) (ha : IntsAt w P (bitsL x m)) (hb : IntsAt w Q (bitsL y m)) :
    Calls Try.prog 70 #[.slice P m c, .slice Q m d] w fun e w' => e = .returned (.bool (decide (x < y))) ∧ ∃ q, w' = w.drewN q := by
  have h := less_65 P Q c d m (bitsL x m) (bitsL y m) w (bitsL_length _ _) (bitsL_length _ _) hm (bit_bits _ _) (bit_bits _ _) ha hb
  rw [valL_bits, valL_bits, Int.emod_eq_of_lt hx.1 hx.2, Int.emod_eq_of_lt hy.1 hy.2] at h
  exact h

theorem own_room {w wa w1 : World} {v' : Value} {b : Int} {k : Nat} (h1 : w.heap.size ≤ wa.heap.size) (hB : Below w.heap.size wa w1) (hk : k ≤ 64) (h : OwnI w1 w.heap.size v' ([] ++ bitsL b k)) :
    OwnI (w1.alloc (.cells #[.int .i64 0] 3)) w.heap.size v' ([] ++ bitsL b k) ∧ ([] ++ bitsL b k).length + 1 ≤ 1099511627776 ∧ w.heap.size ≤ (w1.alloc (.cells #[.int .i64 0] 3)).heap.size :=
  ⟨World.ownsRow.alloc h _, by rw [List.nil_append, bitsL_length]; omega, by have := hB.size; simp; omega⟩

theorem wide_form {w2 : World} {base k m : Nat} {v2 : Value} {b B : Int} (h : OwnI w2 base v2 (([] ++ bitsL b k) ++ [0])) (hW : bitsL b k ++ [0] = bitsL B (k + 1)) (hm : k + 1 = m) :
    ∃ gw cw, v2 = .slice (some ⟨gw, 0, none⟩) m cw ∧ base ≤ gw ∧ gw < w2.heap.size ∧ IntsAt w2 (some ⟨gw, 0, none⟩) (bitsL B m) := by
  rw [List.nil_append, hW, hm] at h
  obtain ⟨g, c, hv, _, hb, hl, hat⟩ := h.form2 (by rw [bitsL_length]; omega)
  rw [bitsL_length] at hv
  exact ⟨g, c, hv, hb, hl, hat⟩

set_option maxRecDepth 100000 in
set_option maxHeartbeats 4000000 in
theorem divided_any (P Q : Option Addr) (c d k : Nat) (a b : Int) (w : World) (hk1 : 1 ≤ k) (hk : k ≤ 64) (ha : IntsAt w P (bitsL a k)) (hb : IntsAt w Q (bitsL b k)) (hb0 : 0 < b % 2 ^ k) :
    Calls Try.prog 74 #[.slice P k c, .slice Q k d] w fun e w' => ∃ P1 c1 P2 c2, e = .returned (.tuple #[.slice P1 k c1, .slice P2 k c2]) ∧
      IntsAt w' P1 (bitsL (a % 2 ^ k / (b % 2 ^ k)) k) ∧ IntsAt w' P2 (bitsL (a % 2 ^ k % (b % 2 ^ k)) k) ∧ Below w.heap.size w w' := by
  have ha0 := Int.emod_nonneg a (Int.ne_of_gt (pow_pos' k))
  have ha1 := Int.emod_lt_of_pos a (pow_pos' k)
  have hb1 := Int.emod_lt_of_pos b (pow_pos' k)
  have hA : bitsL a k = bitsL (a % 2 ^ k) k := bitsL_congr (by rw [Int.emod_emod])
  have hW := wide_eq b k
  have ha' := ha
  rw [hA] at ha'
  have HA := Lib.hid ha'
  have HB := Lib.hid hb
  have HW := Lib.hid hW
  obtain ⟨A, hAe⟩ : ∃ A, a % 2 ^ k = A := ⟨_, rfl⟩
  obtain ⟨B, hBe⟩ : ∃ B, b % 2 ^ k = B := ⟨_, rfl⟩
  rw [hBe] at HW hb0 hb1
  rw [hAe] at HA ha0 ha1
  rw [hAe, hBe]
  have HA0 := Lib.hid ha0
  have HA1 := Lib.hid ha1
  have HB0 := Lib.hid hb0
  have HB1 := Lib.hid hb1
  obtain ⟨m, hm⟩ : ∃ m, k + 1 = m := ⟨_, rfl⟩
  have hmi : (k : Int) + 1 = (m : Int) := by omega
  have HM := Lib.hid hm
  have hmk := make_ints m (by omega)
  have hmk2 := make_ints k (by omega)
  clear ha hb hA hW ha' hAe hBe ha0 ha1 hb0 hb1
  have hownN : OwnI (w.alloc (.cells #[] 3)) w.heap.size (.slice (some ⟨w.heap.size, 0, none⟩) 0 0) [] := by
    have := World.ownsRow_lit (e := 3) (size := 1) (base := w.heap.size) w #[] 0 (Nat.le_refl _) (by unfold maxLen; omega) rfl
    exact this
  have HON := Lib.hid hownN
  have hl1 : ([] : List Int).length + k ≤ 1099511627776 := by simp only [List.length_nil]; omega
  have hl2 : w.heap.size ≤ (w.alloc (.cells #[] 3)).heap.size := by simp
  have HB' := Lib.hid (HB.out.below ((Below.refl _ _).alloc (Nat.le_refl _) (.cells #[] 3)))
  clear hownN hm
  go_enter Try.func74, Try.ntmps74
  go_wp2_with (first
    | (at_builtin; (refine append_ints Try.underlying63 int_info _ rfl (.tmp 10) (.tmp 11) rfl w.heap.size _ _ rfl HON.out _ k _ _ rfl (bitsL_length b k) HB'.out hl1 hl2 ?_; intro v' w1 hown1 hB1; have HL3 := Lib.hid (own_room hl2 hB1 hk hown1)))
    | (at_builtin; (refine append_ints Try.underlying63 int_info _ rfl (.tmp 12) (.tmp 13) rfl w.heap.size _ _ rfl HL3.out.1 _ 1 _ [0] rfl rfl (IntBlk.new _ [0]).at_ HL3.out.2.1 HL3.out.2.2 ?_; intro v2 w2 hown2 hB2; obtain ⟨gw, cw, rfl, hgb, hgl, hatw⟩ := wide_form hown2 HW.out HM.out)))
  have hz0 : A / 2 ^ k % B = 0 := by rw [Int.ediv_eq_zero_of_lt HA0.out HA1.out]; simp
  have hrest : IntBlk ((w2.alloc (.cells ((zerosL m).map (Value.int .i64)).toArray 3)).alloc (.cells ((zerosL k).map (Value.int .i64)).toArray 3)) w2.heap.size (bitsL (A / 2 ^ k % B) m) := by
    rw [hz0, ← zeros_bits]
    exact (IntBlk.new w2 (zerosL m)).below ((Below.refl _ _).alloc (Nat.le_refl _) _) (by simp)
  have hq : IntBlk ((w2.alloc (.cells ((zerosL m).map (Value.int .i64)).toArray 3)).alloc (.cells ((zerosL k).map (Value.int .i64)).toArray 3)) (w2.heap.size + 1) (qL (A / B) k k) := by
    rw [qL_start]
    have := IntBlk.new (w2.alloc (.cells ((zerosL m).map (Value.int .i64)).toArray 3)) (zerosL k)
    simpa using this
  have hBw : Below w.heap.size w ((w2.alloc (.cells ((zerosL m).map (Value.int .i64)).toArray 3)).alloc (.cells ((zerosL k).map (Value.int .i64)).toArray 3)) := by
    have h1 : Below w.heap.size w w1 := ((Below.refl _ _).alloc (Nat.le_refl _) _).trans hB1
    have h2 : Below w.heap.size w w2 := (h1.alloc h1.size _).trans hB2
    exact (h2.alloc h2.size _).alloc (by have := h2.size; simp; omega) _
  have hwd : IntsAt ((w2.alloc (.cells ((zerosL m).map (Value.int .i64)).toArray 3)).alloc (.cells ((zerosL k).map (Value.int .i64)).toArray 3)) (some ⟨gw, 0, none⟩) (bitsL B m) :=
    (hatw.below ((Below.refl _ _).alloc (Nat.le_refl _) _)).below ((Below.refl _ _).alloc (Nat.le_refl _) _)
  have hgq : gw < w2.heap.size + 1 := by omega
  have hgq2 : w.heap.size ≤ w2.heap.size + 1 := by
    have h1 := hB1.size
    have h2 := hB2.size
    simp at h1 h2; omega
  clear hatw hgl hz0 hown1 hB1 hB2 hown2 HL3 hl1 hl2 HON HB' hmk hmk2 HB HW
  generalize ((w2.alloc (.cells ((zerosL m).map (Value.int .i64)).toArray 3)).alloc (.cells ((zerosL k).map (Value.int .i64)).toArray 3)) = w3 at *
  generalize w2.heap.size = gr0 at *
  generalize gr0 + 1 = gq at *
  go_loopw [7, 9] (fun v i wr => ∃ (j gr : Nat), j ≤ k ∧ i = .int .i64 ((j : Int) - 1) ∧ v = .slice (some ⟨gr, 0, none⟩) m m ∧ IntBlk wr gr (bitsL (A / 2 ^ j % B) m) ∧ IntBlk wr gq (qL (A / B) k j) ∧ IntsAt wr (some ⟨gw, 0, none⟩) (bitsL B m) ∧ Below w.heap.size w wr) (fun _ i _ => (intOf i + 1).toNat)
  case atStart => exact ⟨k, gr0, Nat.le_refl _, rfl, rfl, hrest, hq, hwd, hBw⟩
  case round =>
    clear hrest hq hwd hBw
    obtain ⟨j, gr, hj, rfl, rfl, hrest, hq, hwd, hB⟩ := hrel
    rcases j with _ | j
    · rw [show (((0 : Nat) : Int) - 1) = -1 by omega]
      rw [qL_end] at hq
      have h6 : IntsAt wr (some ⟨gr, 0, none⟩) (bitsL (A % B) k) := by
        have h7 := hrest.at_
        rw [Int.pow_zero, Int.ediv_one] at h7
        exact h7.prefix_ (by omega)
      have hkm : (k : Int) ≤ m := by omega
      have hkm' : k ≤ m := by omega
      have H6 := Lib.hid h6
      have HQ := Lib.hid hq
      clear h6 hrest hq
      go_wp2_with fail
      go_quiet (fail)
      go_wp2_with fail
      go_ret2
      exact ⟨_, _, _, _, rfl, HQ.out.at_, H6.out, below_drewN hB nq⟩
    · rw [show (((j + 1 : Nat) : Int) - 1) = (j : Int) by omega]
      obtain ⟨x, hx⟩ : ∃ x, A / 2 ^ j % 2 = x := ⟨_, rfl⟩
      obtain ⟨R, hR⟩ : ∃ R, A / 2 ^ (j + 1) % B = R := ⟨_, rfl⟩
      obtain ⟨R', hR'⟩ : ∃ R', 2 * R + x = R' := ⟨_, rfl⟩
      have hpl := div_place A B HA0.out HB0.out j x hx R' (by rw [hR]; exact hR')
      have hx01 : x = 0 ∨ x = 1 := by omega
      rw [hR] at hrest
      have hset := set_low R x hx01 k
      rw [HM.out, hR'] at hset
      have HSet := Lib.hid hset
      have HPl := Lib.hid hpl
      have HX := Lib.hid hx
      have HX01 := Lib.hid hx01
      have hm1 : 1 ≤ m := by omega
      have hm65 : m ≤ 65 := by omega
      have hj0 : (0 : Int) ≤ (j : Int) := by omega
      have C1 := Lib.hid (up_blk (some ⟨gr, 0, none⟩) m m 1 1 R rfl wr hm65 hm1 hrest.at_)
      have hlt := hrest.lt
      have hqlt := hq.lt
      clear hpl hset hx hR hR' hx01 hrest
      go_wp2_with fail
      refine C1.out.mono ?_
      rintro e w4 ⟨rfl, hb4, hB4⟩
      obtain ⟨b1, o1, rfl, hcell⟩ := HA.out.bit (hB.trans (hB4.mono hB.size)) j (by omega)
      rw [HX.out] at hcell
      have hc4 := hb4.cell 0 (by rw [bitsL_length]; omega)
      have hf4 := hb4.frozen 0
      have hb5 := hb4.set_ 0 x
      rw [HSet.out] at hb5
      generalize (bitsL (R * 2 ^ 1) m)[0]?.getD 0 = old at hc4
      have hq5 := (hq.below hB4 hqlt).far (p := ⟨wr.heap.size, 0, none⟩) (by show gq ≠ wr.heap.size; omega) (.int .i64 x)
      have hw5 := (hwd.below hB4).far (p := ⟨wr.heap.size, 0, none⟩) (by show gw ≠ wr.heap.size; omega) (.int .i64 x)
      have hB5 := (hB.trans (hB4.mono hB.size)).setCell (p := ⟨wr.heap.size, 0, none⟩) hB.size (.int .i64 x)
      have hs5 : wr.heap.size < (w4.setCell ⟨wr.heap.size, 0, none⟩ (.int .i64 x)).heap.size := hb5.lt
      have HB5 := Lib.hid hb5
      have HQ5 := Lib.hid hq5
      have HW5 := Lib.hid hw5
      have HBB5 := Lib.hid hB5
      clear C1 hb4 hB4 hq hwd hB hb5 hq5 hw5 hB5
      go_wp2_with fail
      generalize (w4.setCell ⟨wr.heap.size, 0, none⟩ (.int .i64 x)) = w5 at *
      have hp2 : (2 : Int) ^ m = 2 * 2 ^ k := by rw [← HM.out, Int.pow_succ]; omega
      have CL := Lib.hid (less_w (some ⟨wr.heap.size, 0, none⟩) (some ⟨gw, 0, none⟩) m cw m R' B w5 hm65 (by have := HPl.out.2.2; have := HB1.out; omega) (by have := HB0.out; have := HB1.out; omega) HB5.out.at_ HW5.out)
      clear hp2 hc4 hf4 hcell
      refine CL.out.mono ?_
      rintro e w6 ⟨rfl, q6, hw6⟩
      have HB6 := Lib.hid (show IntBlk w6 wr.heap.size (bitsL R' m) by rw [hw6]; exact HB5.out)
      have HQ6 := Lib.hid (show IntBlk w6 gq (qL (A / B) k (j + 1)) by rw [hw6]; exact HQ5.out)
      have HW6 := Lib.hid (show IntsAt w6 (some ⟨gw, 0, none⟩) (bitsL B m) by rw [hw6]; exact HW5.out)
      have HBB6 := Lib.hid (show Below w.heap.size w w6 by rw [hw6]; exact below_drewN HBB5.out q6)
      clear hw6 HB5 HQ5 HW5 HBB5 CL
      by_cases hlt2 : R' < B
      · have t1 : decide (R' < B) = true := by simp [hlt2]
        have HE := Lib.hid (HPl.out.1 hlt2)
        have hj' : j < k := by omega
        have HQ7 := Lib.hid (show IntBlk w6 gq (qL (A / B) k j) by rw [← qL_keep (A / B) k j hj' HE.out.2]; exact HQ6.out)
        clear hlt2
        go_wp2_with fail
        go_roundw
        case rel => exact ⟨j, _, by omega, by go_num, rfl, by rw [HE.out.1]; exact HB6.out, HQ7.out, HW6.out, HBB6.out⟩
        case measure => simp [intOf]
      · have t1 : decide (R' < B) = false := by simp; omega
        have HE := Lib.hid (HPl.out.2.1 (by omega))
        have C2 := Lib.hid (not_any (some ⟨gw, 0, none⟩) cw m B w6 hm65 HW6.out)
        clear hlt2
        go_wp2_with fail
        refine C2.out.mono ?_
        rintro e w7 ⟨P7, c7, _, rfl, hi7, hB7⟩
        have C3 := Lib.hid (plus_blk (some ⟨wr.heap.size, 0, none⟩) P7 m c7 m R' (-B - 1) 1 w7 hm65 (.inr rfl) (HB6.out.at_.below hB7) hi7)
        have HQ7 := Lib.hid (HQ6.out.below hB7 HQ6.out.lt)
        have HW7 := Lib.hid (HW6.out.below hB7)
        have HBB7 := Lib.hid (HBB6.out.trans (hB7.mono HBB6.out.size))
        clear C2 hi7 hB7
        go_wp2_with fail
        refine C3.out.mono ?_
        rintro e w8 ⟨rfl, hb8, hB8⟩
        have hq8 := HQ7.out.below hB8 HQ7.out.lt
        have hc8 := hq8.cell j (by rw [qL_length]; omega)
        have hf8 := hq8.frozen j
        have hq9 := hq8.set_ j 1
        rw [← HE.out.2, qL_step (A / B) k j (by omega), HE.out.2] at hq9
        have HQ9 := Lib.hid hq9
        have hne8 : w7.heap.size ≠ gq := by have := HQ7.out.lt; omega
        have HB9 := Lib.hid (hb8.far (p := ⟨gq, j, none⟩) hne8 (.int .i64 1))
        have hne9 : gw ≠ gq := by omega
        have HW9 := Lib.hid ((HW7.out.below hB8).far (p := ⟨gq, j, none⟩) hne9 (.int .i64 1))
        have HBB9 := Lib.hid ((HBB7.out.trans (hB8.mono HBB7.out.size)).setCell (p := ⟨gq, j, none⟩) hgq2 (.int .i64 1))
        have hjk : (j : Int) < k := by omega
        generalize (qL (A / B) k (j + 1))[j]?.getD 0 = old2 at hc8
        clear hq8 hq9 hb8 hB8 C3
        go_wp2_with fail
        go_roundw
        case rel => exact ⟨j, _, by omega, by go_num, rfl, by rw [HE.out.1]; exact HB9.out, HQ9.out, HW9.out, HBB9.out⟩
        case measure => simp [intOf]
end Go.Proofs.Ytjhgjplhhhgfcaa
/- The document's division with signs. -/
namespace Go.Proofs.Ytjhgjplhhhgfcaa
open Go.ChangeShapes Go.WideShapes Go.ChangeAt Go.RowKit
open Bits
set_option linter.unusedVariables false

/-- a row's highest bit tells its sign, and how far it is from 0 -/
theorem sign_facts (a : Int) (k : Nat) (hk : 1 ≤ k) :
    (a / 2 ^ (k - 1) % 2 = 0 ∧ 0 ≤ sx k a ∧ a % 2 ^ k = sx k a) ∨ (a / 2 ^ (k - 1) % 2 = 1 ∧ sx k a < 0 ∧ -a % 2 ^ k = -sx k a) := by
  have hH := pow_pos' (k - 1)
  have hP : (2 : Int) ^ k = 2 ^ (k - 1) * 2 := by rw [← Int.pow_succ]; congr 1; omega
  have h1 := emod_mul2 a (2 ^ (k - 1)) hH
  have h2 := Int.emod_nonneg a (Int.ne_of_gt hH)
  have h3 := Int.emod_lt_of_pos a hH
  have h4 := Int.emod_add_mul_ediv a (2 ^ k)
  unfold sx
  rw [hP] at *
  generalize (2 : Int) ^ (k - 1) = H at *
  rcases Int.emod_two_eq (a / H) with h | h
  · left
    rw [h] at h1
    exact ⟨h, by rw [if_pos (by omega)]; omega, by rw [if_pos (by omega)]⟩
  · right
    rw [h] at h1
    refine ⟨h, by rw [if_neg (by omega)]; omega, ?_⟩
    rw [if_neg (by omega)]
    generalize a / (H * 2) = q at *
    have e : -a = (H * 2 - a % (H * 2)) + (H * 2) * (-q - 1) := by rw [Int.mul_sub, Int.mul_neg]; omega
    rw [e, Int.add_mul_emod_self_left, Int.emod_eq_of_lt (by omega) (by omega)]
    omega

/-- what far leaves -/
def FarPost (w : World) (k : Nat) (a : Int) (e : Ending) (w' : World) : Prop :=
  ∃ P c x s, e = .returned (.tuple #[.slice P k c, .int .i64 s]) ∧ IntsAt w' P (bitsL x k) ∧ ((s = 0 ∧ 0 ≤ sx k a ∧ x % 2 ^ k = sx k a) ∨ (s = 1 ∧ sx k a < 0 ∧ x % 2 ^ k = -sx k a)) ∧ Below w.heap.size w w'

set_option maxHeartbeats 1000000 in
theorem far_any (P : Option Addr) (c k : Nat) (a : Int) (w : World) (hk1 : 1 ≤ k) (hk : k ≤ 65) (ha : IntsAt w P (bitsL a k)) :
    Calls Try.prog 87 #[.slice P k c] w (FarPost w k a) := by
  obtain ⟨bb, oo, rfl, hcell⟩ := ha.bit (Below.refl _ _) (k - 1) (by omega)
  have h1 : (0 : Int) ≤ (k : Int) - 1 := by omega
  have h2 : ((k : Int) - 1).toNat = k - 1 := by omega
  have h3 : (k : Int) - 1 < k := by omega
  have hs := sign_facts a k hk1
  have HA := Lib.hid ha
  clear ha
  have HN := Lib.hid (negative_any (some ⟨bb, oo, none⟩) c k a w hk HA.out)
  generalize hf : a / 2 ^ (k - 1) % 2 = f at *
  clear hf
  obtain ⟨m, hm⟩ : ∃ m, k - 1 = m := ⟨_, rfl⟩
  rw [hm] at hcell h2
  clear hm
  rcases hs with ⟨rfl, q1, q2⟩ | ⟨rfl, q1, q2⟩
  · have HP := Lib.hid (show FarPost w k a (.returned (.tuple #[.slice (some ⟨bb, oo, none⟩) k c, .int .i64 0])) w from ⟨_, c, a, 0, rfl, HA.out, .inl ⟨rfl, q1, q2⟩, Below.refl _ _⟩)
    clear q1 q2
    go_enter Try.func87, Try.ntmps87
    go_wp2_with fail
    go_ret2
    exact HP.out
  · have HQ := Lib.hid (And.intro q1 q2)
    clear q1 q2
    go_enter Try.func87, Try.ntmps87
    go_wp2_with fail
    refine HN.out.mono ?_
    rintro e w1 ⟨P1, c1, rfl, hi, hB⟩
    go_wp2_with fail
    go_ret2
    exact ⟨P1, c1, -a, 1, rfl, hi, .inr ⟨rfl, HQ.out.1, HQ.out.2⟩, hB⟩

theorem tq (X Y : Int) (hX : 0 ≤ X) (hY : 0 ≤ Y) : X.tdiv Y = X / Y ∧ (-X).tdiv Y = -(X / Y) ∧ X.tdiv (-Y) = -(X / Y) ∧ (-X).tdiv (-Y) = X / Y ∧ X.tmod Y = X % Y ∧ (-X).tmod Y = -(X % Y) ∧ X.tmod (-Y) = X % Y ∧ (-X).tmod (-Y) = -(X % Y) := by
  refine ⟨Int.tdiv_eq_ediv_of_nonneg hX, by rw [Int.neg_tdiv, Int.tdiv_eq_ediv_of_nonneg hX], by rw [Int.tdiv_neg, Int.tdiv_eq_ediv_of_nonneg hX], by rw [Int.neg_tdiv, Int.tdiv_neg, Int.neg_neg, Int.tdiv_eq_ediv_of_nonneg hX], Int.tmod_eq_emod_of_nonneg hX, by rw [Int.neg_tmod, Int.tmod_eq_emod_of_nonneg hX], by rw [Int.tmod_neg, Int.tmod_eq_emod_of_nonneg hX], by rw [Int.neg_tmod, Int.tmod_neg, Int.tmod_eq_emod_of_nonneg hX]⟩

set_option maxHeartbeats 2000000 in
theorem over_any (P Q : Option Addr) (c d k : Nat) (a b : Int) (w : World) (hk1 : 1 ≤ k) (hk : k ≤ 64) (ha : IntsAt w P (bitsL a k)) (hb : IntsAt w Q (bitsL b k)) (hb0 : 0 < b % 2 ^ k) :
    Calls Try.prog 75 #[.slice P k c, .slice Q k d] w fun e w' => ∃ P1 c1 P2 c2, e = .returned (.tuple #[.slice P1 k c1, .slice P2 k c2]) ∧
      IntsAt w' P1 (bitsL ((sx k a).tdiv (sx k b)) k) ∧ IntsAt w' P2 (bitsL ((sx k a).tmod (sx k b)) k) ∧ Below w.heap.size w w' := by
  have hsb : sx k b ≠ 0 := by
    have hH := pow_pos' k
    unfold sx
    have := Int.emod_lt_of_pos b hH
    split <;> omega
  have HA := Lib.hid ha
  have HB := Lib.hid hb
  have HS := Lib.hid hsb
  have hk65 : k ≤ 65 := by omega
  clear ha hb hb0 hsb
  have C1 := Lib.hid (far_any P c k a w hk1 hk65 HA.out)
  go_enter Try.func75, Try.ntmps75
  go_wp2_with fail
  refine C1.out.mono ?_
  rintro e w1 ⟨P1, c1, x, s, rfl, hi1, hs1, hB1⟩
  have C2 := Lib.hid (far_any Q d k b w1 hk1 hk65 (HB.out.below hB1))
  have HI1 := Lib.hid hi1
  have HS1 := Lib.hid hs1
  clear C1 hi1 hs1
  go_wp2_with fail
  refine C2.out.mono ?_
  rintro e w2 ⟨P2, c2, y, t, rfl, hi2, hs2, hB2⟩
  have HS2 := Lib.hid hs2
  have hB2' := hB1.trans (hB2.mono hB1.size)
  have C3 := Lib.hid (divided_any P1 P2 c1 c2 k x y w2 hk1 hk (HI1.out.below hB2) hi2 (by have := HS.out; rcases hs2 with ⟨_, h1, h2⟩ | ⟨_, h1, h2⟩ <;> omega))
  clear C2 hi2 hs2 hB1 hB2
  go_wp2_with fail
  refine C3.out.mono ?_
  rintro e w3 ⟨P3, c3, P4, c4, rfl, hi3, hi4, hB3⟩
  have HBB := Lib.hid (hB2'.trans (hB3.mono hB2'.size))
  have HI3 := Lib.hid hi3
  have HI4 := Lib.hid hi4
  clear C3 hi3 hi4 hB3 hB2'
  have HT := Lib.hid (tq (x % 2 ^ k) (y % 2 ^ k) (Int.emod_nonneg _ (Int.ne_of_gt (pow_pos' k))) (Int.emod_nonneg _ (Int.ne_of_gt (pow_pos' k))))
  have CN3 := Lib.hid (negative_any P3 c3 k (x % 2 ^ k / (y % 2 ^ k)) w3 hk65 HI3.out)
  rcases HS1.out with ⟨rfl, _, h1⟩ | ⟨rfl, _, h1⟩ <;> rcases HS2.out with ⟨rfl, _, h2⟩ | ⟨rfl, _, h2⟩
  · have HE := Lib.hid (show (sx k a).tdiv (sx k b) = x % 2 ^ k / (y % 2 ^ k) ∧ (sx k a).tmod (sx k b) = x % 2 ^ k % (y % 2 ^ k) from ⟨by rw [← h1, ← h2]; exact HT.out.1, by rw [← h1, ← h2]; exact HT.out.2.2.2.2.1⟩)
    clear h1 h2
    go_wp2_with fail
    go_ret2
    exact ⟨_, _, _, _, rfl, by rw [HE.out.1]; exact HI3.out, by rw [HE.out.2]; exact HI4.out, HBB.out⟩
  · have HE := Lib.hid (show (sx k a).tdiv (sx k b) = -(x % 2 ^ k / (y % 2 ^ k)) ∧ (sx k a).tmod (sx k b) = x % 2 ^ k % (y % 2 ^ k) from ⟨by rw [← h1, show sx k b = -(y % 2 ^ k) by omega]; exact HT.out.2.2.1, by rw [← h1, show sx k b = -(y % 2 ^ k) by omega]; exact HT.out.2.2.2.2.2.2.1⟩)
    clear h1 h2
    go_wp2_with fail
    refine CN3.out.mono ?_
    rintro e w4 ⟨P5, c5, rfl, hi5, hB5⟩
    have HI6 := Lib.hid (HI4.out.below hB5)
    go_wp2_with fail
    go_ret2
    exact ⟨_, _, _, _, rfl, by rw [HE.out.1]; exact hi5, by rw [HE.out.2]; exact HI6.out, HBB.out.trans (hB5.mono HBB.out.size)⟩
  · have HE := Lib.hid (show (sx k a).tdiv (sx k b) = -(x % 2 ^ k / (y % 2 ^ k)) ∧ (sx k a).tmod (sx k b) = -(x % 2 ^ k % (y % 2 ^ k)) from ⟨by rw [← h2, show sx k a = -(x % 2 ^ k) by omega]; exact HT.out.2.1, by rw [← h2, show sx k a = -(x % 2 ^ k) by omega]; exact HT.out.2.2.2.2.2.1⟩)
    clear h1 h2
    go_wp2_with fail
    refine CN3.out.mono ?_
    rintro e w4 ⟨P5, c5, rfl, hi5, hB5⟩
    have CN4 := Lib.hid (negative_any P4 c4 k (x % 2 ^ k % (y % 2 ^ k)) w4 hk65 (HI4.out.below hB5))
    have HI5 := Lib.hid hi5
    clear hi5
    go_wp2_with fail
    refine CN4.out.mono ?_
    rintro e w5 ⟨P6, c6, rfl, hi6, hB6⟩
    have HI7 := Lib.hid (HI5.out.below hB6)
    go_wp2_with fail
    go_ret2
    exact ⟨_, _, _, _, rfl, by rw [HE.out.1]; exact HI7.out, by rw [HE.out.2]; exact hi6, (HBB.out.trans (hB5.mono HBB.out.size)).trans (hB6.mono (Nat.le_trans HBB.out.size hB5.size))⟩
  · have HE := Lib.hid (show (sx k a).tdiv (sx k b) = x % 2 ^ k / (y % 2 ^ k) ∧ (sx k a).tmod (sx k b) = -(x % 2 ^ k % (y % 2 ^ k)) from ⟨by rw [show sx k a = -(x % 2 ^ k) by omega, show sx k b = -(y % 2 ^ k) by omega]; exact HT.out.2.2.2.1, by rw [show sx k a = -(x % 2 ^ k) by omega, show sx k b = -(y % 2 ^ k) by omega]; exact HT.out.2.2.2.2.2.2.2⟩)
    have CN4 := Lib.hid (negative_any P4 c4 k (x % 2 ^ k % (y % 2 ^ k)) w3 hk65 HI4.out)
    clear h1 h2
    go_wp2_with fail
    refine CN4.out.mono ?_
    rintro e w4 ⟨P5, c5, rfl, hi5, hB5⟩
    have HI6 := Lib.hid (HI3.out.below hB5)
    go_wp2_with fail
    go_ret2
    exact ⟨_, _, _, _, rfl, by rw [HE.out.1]; exact HI6.out, by rw [HE.out.2]; exact hi5, HBB.out.trans (hB5.mono HBB.out.size)⟩
end Go.Proofs.Ytjhgjplhhhgfcaa
/- The document's 'joined': two rows of bits, every operation. -/
namespace Go.Proofs.Ytjhgjplhhhgfcaa
open Go.ChangeShapes Go.WideShapes Go.ChangeAt Go.RowKit
open Bits
set_option linter.unusedVariables false

/-- how far a row of k bits is shifted -/
def shk (k : Nat) (b : Int) : Nat := (b % (k : Int)).toNat
theorem num_5 (Q : Option Addr) (k : Nat) (b : Int) (w : World) (hk : 6 ≤ k) (hb : IntsAt w Q (bitsL b k)) :
    Calls Try.prog 56 #[.slice Q 5 k] w fun e w' => e = .returned (.int .i64 (b % 32)) ∧ w = w' := by
  have h := number_n Q 5 k (bitsL b 5) w (bitsL_length _ _) (by decide) (hb.prefix_ (by omega))
  rw [valL_bits, show (2 : Int) ^ 5 = 32 from rfl, IntWalk.wrap64_in _ (by omega)] at h
  exact h
theorem num_6 (Q : Option Addr) (k : Nat) (b : Int) (w : World) (hk : 6 ≤ k) (hb : IntsAt w Q (bitsL b k)) :
    Calls Try.prog 56 #[.slice Q 6 k] w fun e w' => e = .returned (.int .i64 (b % 64)) ∧ w = w' := by
  have h := number_n Q 6 k (bitsL b 6) w (bitsL_length _ _) (by decide) (hb.prefix_ (by omega))
  rw [valL_bits, show (2 : Int) ^ 6 = 64 from rfl, IntWalk.wrap64_in _ (by omega)] at h
  exact h
theorem row_facts {k : Nat} (hk : k = 32 ∨ k = 64) (b : Int) : (((k : Int) == 64) = true ∧ ((shk k b : Nat) : Int) = b % 64) ∨ (((k : Int) == 64) = false ∧ ((shk k b : Nat) : Int) = b % 32) := by
  unfold shk
  rcases hk with rfl | rfl
  · exact .inr ⟨by decide, by omega⟩
  · exact .inl ⟨by decide, by omega⟩
theorem shk_le {k : Nat} (hk : k = 32 ∨ k = 64) (b : Int) : shk k b ≤ k := by
  unfold shk
  rcases hk with rfl | rfl <;> omega
def JOut (w : World) (k : Nat) (x : Int) (e : Ending) (w' : World) : Prop := ∃ P c, e = .returned (.slice P k c) ∧ IntsAt w' P (bitsL x k) ∧ Below w.heap.size w w'

set_option maxRecDepth 100000 in
set_option maxHeartbeats 2000000 in
theorem joined_1 (k : Nat) (hk : k = 32 ∨ k = 64) (P Q : Option Addr) (a b : Int) (w : World) (ha : IntsAt w P (bitsL a k)) (hb : IntsAt w Q (bitsL b k)) :
    Calls Try.prog 57 #[.int .i64 1, .slice P k k, .slice Q k k] w (JOut w k (a + b + 0)) := by
  have hk6 : 6 ≤ k := by omega
  have hk5 : 5 ≤ k := by omega
  have hk6i : (6 : Int) ≤ k := by omega
  have hk5i : (5 : Int) ≤ k := by omega
  have hk65 : k ≤ 65 := by omega
  have N5 := Lib.hid (num_5 Q k b w hk6 hb)
  have N6 := Lib.hid (num_6 Q k b w hk6 hb)
  have HA := Lib.hid ha
  have HB := Lib.hid hb
  have HK := Lib.hid hk
  have HSL := Lib.hid (shk_le hk b)
  rcases row_facts hk b with ⟨t1, hs⟩ | ⟨t1, hs⟩
  all_goals
    have HS := Lib.hid hs
    clear hs ha hb hk
    go_enter Try.func57, Try.ntmps57
    go_wp2_with fail
    refine N5.out.mono ?_
    rintro e w' ⟨rfl, rfl⟩
    go_wp2_with fail
    try (refine N6.out.mono ?_; rintro e w' ⟨rfl, rfl⟩; go_wp2_with fail)
    refine (plus_b P Q k k k a b 0 w w hk65 (.inl rfl) HA.out HB.out (Below.refl _ _)).mono ?_
    rintro e w1 ⟨P1, c1, rfl, hi, hB⟩
    go_wp2_with fail
    go_ret
    exact ⟨_, _, rfl, hi, hB⟩

set_option maxRecDepth 100000 in
set_option maxHeartbeats 2000000 in
theorem joined_2 (k : Nat) (hk : k = 32 ∨ k = 64) (P Q : Option Addr) (a b : Int) (w : World) (ha : IntsAt w P (bitsL a k)) (hb : IntsAt w Q (bitsL b k)) :
    Calls Try.prog 57 #[.int .i64 2, .slice P k k, .slice Q k k] w (JOut w k (a + (-b - 1) + 1)) := by
  have hk6 : 6 ≤ k := by omega
  have hk5 : 5 ≤ k := by omega
  have hk6i : (6 : Int) ≤ k := by omega
  have hk5i : (5 : Int) ≤ k := by omega
  have hk65 : k ≤ 65 := by omega
  have N5 := Lib.hid (num_5 Q k b w hk6 hb)
  have N6 := Lib.hid (num_6 Q k b w hk6 hb)
  have HA := Lib.hid ha
  have HB := Lib.hid hb
  have HK := Lib.hid hk
  have HSL := Lib.hid (shk_le hk b)
  rcases row_facts hk b with ⟨t1, hs⟩ | ⟨t1, hs⟩
  all_goals
    have HS := Lib.hid hs
    clear hs ha hb hk
    go_enter Try.func57, Try.ntmps57
    go_wp2_with fail
    refine N5.out.mono ?_
    rintro e w' ⟨rfl, rfl⟩
    go_wp2_with fail
    try (refine N6.out.mono ?_; rintro e w' ⟨rfl, rfl⟩; go_wp2_with fail)
    refine (not_b Q k k b w w hk65 HB.out (Below.refl _ _)).mono ?_
    rintro e w1 ⟨P1, c1, rfl, hi1, hb1, hB1⟩
    go_wp2_with fail
    refine (plus_b P P1 k c1 k a (-b - 1) 1 w w1 hk65 (.inr rfl) (HA.out.below hb1) hi1 hB1).mono ?_
    rintro e w2 ⟨P2, c2, rfl, hi, hB⟩
    go_wp2_with fail
    go_ret
    exact ⟨_, _, rfl, hi, hB⟩

set_option maxRecDepth 100000 in
set_option maxHeartbeats 2000000 in
theorem joined_3 (k : Nat) (hk : k = 32 ∨ k = 64) (P Q : Option Addr) (a b : Int) (w : World) (ha : IntsAt w P (bitsL a k)) (hb : IntsAt w Q (bitsL b k)) :
    Calls Try.prog 57 #[.int .i64 3, .slice P k k, .slice Q k k] w (JOut w k (a * b)) := by
  have hk6 : 6 ≤ k := by omega
  have hk5 : 5 ≤ k := by omega
  have hk6i : (6 : Int) ≤ k := by omega
  have hk5i : (5 : Int) ≤ k := by omega
  have hk65 : k ≤ 65 := by omega
  have N5 := Lib.hid (num_5 Q k b w hk6 hb)
  have N6 := Lib.hid (num_6 Q k b w hk6 hb)
  have HA := Lib.hid ha
  have HB := Lib.hid hb
  have HK := Lib.hid hk
  have HSL := Lib.hid (shk_le hk b)
  rcases row_facts hk b with ⟨t1, hs⟩ | ⟨t1, hs⟩
  all_goals
    have HS := Lib.hid hs
    clear hs ha hb hk
    go_enter Try.func57, Try.ntmps57
    go_wp2_with fail
    refine N5.out.mono ?_
    rintro e w' ⟨rfl, rfl⟩
    go_wp2_with fail
    try (refine N6.out.mono ?_; rintro e w' ⟨rfl, rfl⟩; go_wp2_with fail)
    refine (times_any P Q k k k a b w hk65 HA.out HB.out).mono ?_
    rintro e w1 ⟨P1, c1, rfl, hi, hB⟩
    go_wp2_with fail
    go_ret
    exact ⟨_, _, rfl, hi, hB⟩

set_option maxRecDepth 100000 in
set_option maxHeartbeats 2000000 in
theorem joined_4 (k : Nat) (hk : k = 32 ∨ k = 64) (P Q : Option Addr) (a b : Int) (w : World) (ha : IntsAt w P (bitsL a k)) (hb : IntsAt w Q (bitsL b k)) (hb0 : 0 < b % 2 ^ k) :
    Calls Try.prog 57 #[.int .i64 4, .slice P k k, .slice Q k k] w (JOut w k (a % 2 ^ k / (b % 2 ^ k))) := by
  have hk6 : 6 ≤ k := by omega
  have hk5 : 5 ≤ k := by omega
  have hk6i : (6 : Int) ≤ k := by omega
  have hk5i : (5 : Int) ≤ k := by omega
  have hk65 : k ≤ 65 := by omega
  have N5 := Lib.hid (num_5 Q k b w hk6 hb)
  have N6 := Lib.hid (num_6 Q k b w hk6 hb)
  have HA := Lib.hid ha
  have HB := Lib.hid hb
  have H0 := Lib.hid hb0
  have HK := Lib.hid hk
  have HSL := Lib.hid (shk_le hk b)
  rcases row_facts hk b with ⟨t1, hs⟩ | ⟨t1, hs⟩
  all_goals
    have HS := Lib.hid hs
    clear hs ha hb hk hb0
    go_enter Try.func57, Try.ntmps57
    go_wp2_with fail
    refine N5.out.mono ?_
    rintro e w' ⟨rfl, rfl⟩
    go_wp2_with fail
    try (refine N6.out.mono ?_; rintro e w' ⟨rfl, rfl⟩; go_wp2_with fail)
    refine (divided_any P Q k k k a b w (by omega) (by have := HK.out; omega) HA.out HB.out H0.out).mono ?_
    rintro e w1 ⟨P1, c1, P2, c2, rfl, hi1, hi2, hB⟩
    go_wp2_with fail
    have hi := hi1
    go_ret
    exact ⟨_, _, rfl, hi, hB⟩

set_option maxRecDepth 100000 in
set_option maxHeartbeats 2000000 in
theorem joined_5 (k : Nat) (hk : k = 32 ∨ k = 64) (P Q : Option Addr) (a b : Int) (w : World) (ha : IntsAt w P (bitsL a k)) (hb : IntsAt w Q (bitsL b k)) (hb0 : 0 < b % 2 ^ k) :
    Calls Try.prog 57 #[.int .i64 5, .slice P k k, .slice Q k k] w (JOut w k (a % 2 ^ k % (b % 2 ^ k))) := by
  have hk6 : 6 ≤ k := by omega
  have hk5 : 5 ≤ k := by omega
  have hk6i : (6 : Int) ≤ k := by omega
  have hk5i : (5 : Int) ≤ k := by omega
  have hk65 : k ≤ 65 := by omega
  have N5 := Lib.hid (num_5 Q k b w hk6 hb)
  have N6 := Lib.hid (num_6 Q k b w hk6 hb)
  have HA := Lib.hid ha
  have HB := Lib.hid hb
  have H0 := Lib.hid hb0
  have HK := Lib.hid hk
  have HSL := Lib.hid (shk_le hk b)
  rcases row_facts hk b with ⟨t1, hs⟩ | ⟨t1, hs⟩
  all_goals
    have HS := Lib.hid hs
    clear hs ha hb hk hb0
    go_enter Try.func57, Try.ntmps57
    go_wp2_with fail
    refine N5.out.mono ?_
    rintro e w' ⟨rfl, rfl⟩
    go_wp2_with fail
    try (refine N6.out.mono ?_; rintro e w' ⟨rfl, rfl⟩; go_wp2_with fail)
    refine (divided_any P Q k k k a b w (by omega) (by have := HK.out; omega) HA.out HB.out H0.out).mono ?_
    rintro e w1 ⟨P1, c1, P2, c2, rfl, hi1, hi2, hB⟩
    go_wp2_with fail
    have hi := hi2
    go_ret
    exact ⟨_, _, rfl, hi, hB⟩

set_option maxRecDepth 100000 in
set_option maxHeartbeats 2000000 in
theorem joined_6 (k : Nat) (hk : k = 32 ∨ k = 64) (P Q : Option Addr) (a b : Int) (w : World) (ha : IntsAt w P (bitsL a k)) (hb : IntsAt w Q (bitsL b k)) (hb0 : 0 < b % 2 ^ k) :
    Calls Try.prog 57 #[.int .i64 6, .slice P k k, .slice Q k k] w (JOut w k ((sx k a).tdiv (sx k b))) := by
  have hk6 : 6 ≤ k := by omega
  have hk5 : 5 ≤ k := by omega
  have hk6i : (6 : Int) ≤ k := by omega
  have hk5i : (5 : Int) ≤ k := by omega
  have hk65 : k ≤ 65 := by omega
  have N5 := Lib.hid (num_5 Q k b w hk6 hb)
  have N6 := Lib.hid (num_6 Q k b w hk6 hb)
  have HA := Lib.hid ha
  have HB := Lib.hid hb
  have H0 := Lib.hid hb0
  have HK := Lib.hid hk
  have HSL := Lib.hid (shk_le hk b)
  rcases row_facts hk b with ⟨t1, hs⟩ | ⟨t1, hs⟩
  all_goals
    have HS := Lib.hid hs
    clear hs ha hb hk hb0
    go_enter Try.func57, Try.ntmps57
    go_wp2_with fail
    refine N5.out.mono ?_
    rintro e w' ⟨rfl, rfl⟩
    go_wp2_with fail
    try (refine N6.out.mono ?_; rintro e w' ⟨rfl, rfl⟩; go_wp2_with fail)
    refine (over_any P Q k k k a b w (by omega) (by have := HK.out; omega) HA.out HB.out H0.out).mono ?_
    rintro e w1 ⟨P1, c1, P2, c2, rfl, hi1, hi2, hB⟩
    go_wp2_with fail
    have hi := hi1
    go_ret
    exact ⟨_, _, rfl, hi, hB⟩

set_option maxRecDepth 100000 in
set_option maxHeartbeats 2000000 in
theorem joined_7 (k : Nat) (hk : k = 32 ∨ k = 64) (P Q : Option Addr) (a b : Int) (w : World) (ha : IntsAt w P (bitsL a k)) (hb : IntsAt w Q (bitsL b k)) (hb0 : 0 < b % 2 ^ k) :
    Calls Try.prog 57 #[.int .i64 7, .slice P k k, .slice Q k k] w (JOut w k ((sx k a).tmod (sx k b))) := by
  have hk6 : 6 ≤ k := by omega
  have hk5 : 5 ≤ k := by omega
  have hk6i : (6 : Int) ≤ k := by omega
  have hk5i : (5 : Int) ≤ k := by omega
  have hk65 : k ≤ 65 := by omega
  have N5 := Lib.hid (num_5 Q k b w hk6 hb)
  have N6 := Lib.hid (num_6 Q k b w hk6 hb)
  have HA := Lib.hid ha
  have HB := Lib.hid hb
  have H0 := Lib.hid hb0
  have HK := Lib.hid hk
  have HSL := Lib.hid (shk_le hk b)
  rcases row_facts hk b with ⟨t1, hs⟩ | ⟨t1, hs⟩
  all_goals
    have HS := Lib.hid hs
    clear hs ha hb hk hb0
    go_enter Try.func57, Try.ntmps57
    go_wp2_with fail
    refine N5.out.mono ?_
    rintro e w' ⟨rfl, rfl⟩
    go_wp2_with fail
    try (refine N6.out.mono ?_; rintro e w' ⟨rfl, rfl⟩; go_wp2_with fail)
    refine (over_any P Q k k k a b w (by omega) (by have := HK.out; omega) HA.out HB.out H0.out).mono ?_
    rintro e w1 ⟨P1, c1, P2, c2, rfl, hi1, hi2, hB⟩
    go_wp2_with fail
    have hi := hi2
    go_ret
    exact ⟨_, _, rfl, hi, hB⟩

set_option maxRecDepth 100000 in
set_option maxHeartbeats 2000000 in
theorem joined_8 (k : Nat) (hk : k = 32 ∨ k = 64) (P Q : Option Addr) (a b : Int) (w : World) (ha : IntsAt w P (bitsL a k)) (hb : IntsAt w Q (bitsL b k)) (X : Int) (hX : ∀ j, j < k → X / 2 ^ j % 2 = bw 8 (a / 2 ^ j % 2 + b / 2 ^ j % 2)) :
    Calls Try.prog 57 #[.int .i64 8, .slice P k k, .slice Q k k] w (JOut w k (X)) := by
  have hk6 : 6 ≤ k := by omega
  have hk5 : 5 ≤ k := by omega
  have hk6i : (6 : Int) ≤ k := by omega
  have hk5i : (5 : Int) ≤ k := by omega
  have hk65 : k ≤ 65 := by omega
  have N5 := Lib.hid (num_5 Q k b w hk6 hb)
  have N6 := Lib.hid (num_6 Q k b w hk6 hb)
  have HA := Lib.hid ha
  have HB := Lib.hid hb
  have HX := Lib.hid hX
  have HK := Lib.hid hk
  have HSL := Lib.hid (shk_le hk b)
  rcases row_facts hk b with ⟨t1, hs⟩ | ⟨t1, hs⟩
  all_goals
    have HS := Lib.hid hs
    clear hs ha hb hk hX
    go_enter Try.func57, Try.ntmps57
    go_wp2_with fail
    refine N5.out.mono ?_
    rintro e w' ⟨rfl, rfl⟩
    go_wp2_with fail
    try (refine N6.out.mono ?_; rintro e w' ⟨rfl, rfl⟩; go_wp2_with fail)
    refine (bitwise_any 8 (by decide) P Q k k k a b X w hk65 HA.out HB.out HX.out).mono ?_
    rintro e w1 ⟨P1, c1, _, rfl, hi, hB⟩
    go_wp2_with fail
    go_ret
    exact ⟨_, _, rfl, hi, hB⟩

set_option maxRecDepth 100000 in
set_option maxHeartbeats 2000000 in
theorem joined_9 (k : Nat) (hk : k = 32 ∨ k = 64) (P Q : Option Addr) (a b : Int) (w : World) (ha : IntsAt w P (bitsL a k)) (hb : IntsAt w Q (bitsL b k)) (X : Int) (hX : ∀ j, j < k → X / 2 ^ j % 2 = bw 9 (a / 2 ^ j % 2 + b / 2 ^ j % 2)) :
    Calls Try.prog 57 #[.int .i64 9, .slice P k k, .slice Q k k] w (JOut w k (X)) := by
  have hk6 : 6 ≤ k := by omega
  have hk5 : 5 ≤ k := by omega
  have hk6i : (6 : Int) ≤ k := by omega
  have hk5i : (5 : Int) ≤ k := by omega
  have hk65 : k ≤ 65 := by omega
  have N5 := Lib.hid (num_5 Q k b w hk6 hb)
  have N6 := Lib.hid (num_6 Q k b w hk6 hb)
  have HA := Lib.hid ha
  have HB := Lib.hid hb
  have HX := Lib.hid hX
  have HK := Lib.hid hk
  have HSL := Lib.hid (shk_le hk b)
  rcases row_facts hk b with ⟨t1, hs⟩ | ⟨t1, hs⟩
  all_goals
    have HS := Lib.hid hs
    clear hs ha hb hk hX
    go_enter Try.func57, Try.ntmps57
    go_wp2_with fail
    refine N5.out.mono ?_
    rintro e w' ⟨rfl, rfl⟩
    go_wp2_with fail
    try (refine N6.out.mono ?_; rintro e w' ⟨rfl, rfl⟩; go_wp2_with fail)
    refine (bitwise_any 9 (by decide) P Q k k k a b X w hk65 HA.out HB.out HX.out).mono ?_
    rintro e w1 ⟨P1, c1, _, rfl, hi, hB⟩
    go_wp2_with fail
    go_ret
    exact ⟨_, _, rfl, hi, hB⟩

set_option maxRecDepth 100000 in
set_option maxHeartbeats 2000000 in
theorem joined_10 (k : Nat) (hk : k = 32 ∨ k = 64) (P Q : Option Addr) (a b : Int) (w : World) (ha : IntsAt w P (bitsL a k)) (hb : IntsAt w Q (bitsL b k)) (X : Int) (hX : ∀ j, j < k → X / 2 ^ j % 2 = bw 10 (a / 2 ^ j % 2 + b / 2 ^ j % 2)) :
    Calls Try.prog 57 #[.int .i64 10, .slice P k k, .slice Q k k] w (JOut w k (X)) := by
  have hk6 : 6 ≤ k := by omega
  have hk5 : 5 ≤ k := by omega
  have hk6i : (6 : Int) ≤ k := by omega
  have hk5i : (5 : Int) ≤ k := by omega
  have hk65 : k ≤ 65 := by omega
  have N5 := Lib.hid (num_5 Q k b w hk6 hb)
  have N6 := Lib.hid (num_6 Q k b w hk6 hb)
  have HA := Lib.hid ha
  have HB := Lib.hid hb
  have HX := Lib.hid hX
  have HK := Lib.hid hk
  have HSL := Lib.hid (shk_le hk b)
  rcases row_facts hk b with ⟨t1, hs⟩ | ⟨t1, hs⟩
  all_goals
    have HS := Lib.hid hs
    clear hs ha hb hk hX
    go_enter Try.func57, Try.ntmps57
    go_wp2_with fail
    refine N5.out.mono ?_
    rintro e w' ⟨rfl, rfl⟩
    go_wp2_with fail
    try (refine N6.out.mono ?_; rintro e w' ⟨rfl, rfl⟩; go_wp2_with fail)
    refine (bitwise_any 10 (by decide) P Q k k k a b X w hk65 HA.out HB.out HX.out).mono ?_
    rintro e w1 ⟨P1, c1, _, rfl, hi, hB⟩
    go_wp2_with fail
    go_ret
    exact ⟨_, _, rfl, hi, hB⟩

set_option maxRecDepth 100000 in
set_option maxHeartbeats 2000000 in
theorem joined_11 (k : Nat) (hk : k = 32 ∨ k = 64) (P Q : Option Addr) (a b : Int) (w : World) (ha : IntsAt w P (bitsL a k)) (hb : IntsAt w Q (bitsL b k)) :
    Calls Try.prog 57 #[.int .i64 11, .slice P k k, .slice Q k k] w (JOut w k (a * 2 ^ shk k b)) := by
  have hk6 : 6 ≤ k := by omega
  have hk5 : 5 ≤ k := by omega
  have hk6i : (6 : Int) ≤ k := by omega
  have hk5i : (5 : Int) ≤ k := by omega
  have hk65 : k ≤ 65 := by omega
  have N5 := Lib.hid (num_5 Q k b w hk6 hb)
  have N6 := Lib.hid (num_6 Q k b w hk6 hb)
  have HA := Lib.hid ha
  have HB := Lib.hid hb
  have HK := Lib.hid hk
  have HSL := Lib.hid (shk_le hk b)
  rcases row_facts hk b with ⟨t1, hs⟩ | ⟨t1, hs⟩
  all_goals
    have HS := Lib.hid hs
    clear hs ha hb hk
    go_enter Try.func57, Try.ntmps57
    go_wp2_with fail
    refine N5.out.mono ?_
    rintro e w' ⟨rfl, rfl⟩
    go_wp2_with fail
    try (refine N6.out.mono ?_; rintro e w' ⟨rfl, rfl⟩; go_wp2_with fail)
    refine (up_b P k k (shk k b) _ a HS.out w w hk65 HSL.out HA.out (Below.refl _ _)).mono ?_
    rintro e w1 ⟨P1, c1, rfl, hi, _, hB⟩
    go_wp2_with fail
    go_ret
    exact ⟨_, _, rfl, hi, hB⟩

set_option maxRecDepth 100000 in
set_option maxHeartbeats 2000000 in
theorem joined_12 (k : Nat) (hk : k = 32 ∨ k = 64) (P Q : Option Addr) (a b : Int) (w : World) (ha : IntsAt w P (bitsL a k)) (hb : IntsAt w Q (bitsL b k)) :
    Calls Try.prog 57 #[.int .i64 12, .slice P k k, .slice Q k k] w (JOut w k ((a % 2 ^ k - 0 * 2 ^ k) / 2 ^ shk k b)) := by
  have hk6 : 6 ≤ k := by omega
  have hk5 : 5 ≤ k := by omega
  have hk6i : (6 : Int) ≤ k := by omega
  have hk5i : (5 : Int) ≤ k := by omega
  have hk65 : k ≤ 65 := by omega
  have N5 := Lib.hid (num_5 Q k b w hk6 hb)
  have N6 := Lib.hid (num_6 Q k b w hk6 hb)
  have HA := Lib.hid ha
  have HB := Lib.hid hb
  have HK := Lib.hid hk
  have HSL := Lib.hid (shk_le hk b)
  rcases row_facts hk b with ⟨t1, hs⟩ | ⟨t1, hs⟩
  all_goals
    have HS := Lib.hid hs
    clear hs ha hb hk
    go_enter Try.func57, Try.ntmps57
    go_wp2_with fail
    refine N5.out.mono ?_
    rintro e w' ⟨rfl, rfl⟩
    go_wp2_with fail
    try (refine N6.out.mono ?_; rintro e w' ⟨rfl, rfl⟩; go_wp2_with fail)
    refine (down_any P k k (shk k b) _ a 0 HS.out (.inl rfl) w hk65 HSL.out HA.out).mono ?_
    rintro e w1 ⟨P1, c1, _, rfl, hi, hB⟩
    go_wp2_with fail
    go_ret
    exact ⟨_, _, rfl, hi, hB⟩

set_option maxRecDepth 100000 in
set_option maxHeartbeats 2000000 in
theorem joined_13 (k : Nat) (hk : k = 32 ∨ k = 64) (P Q : Option Addr) (a b : Int) (w : World) (ha : IntsAt w P (bitsL a k)) (hb : IntsAt w Q (bitsL b k)) :
    Calls Try.prog 57 #[.int .i64 13, .slice P k k, .slice Q k k] w (JOut w k ((a % 2 ^ k - (a / 2 ^ (k - 1) % 2) * 2 ^ k) / 2 ^ shk k b)) := by
  have hk6 : 6 ≤ k := by omega
  have hk5 : 5 ≤ k := by omega
  have hk6i : (6 : Int) ≤ k := by omega
  have hk5i : (5 : Int) ≤ k := by omega
  have hk65 : k ≤ 65 := by omega
  have N5 := Lib.hid (num_5 Q k b w hk6 hb)
  have N6 := Lib.hid (num_6 Q k b w hk6 hb)
  have HA := Lib.hid ha
  have HB := Lib.hid hb
  have HK := Lib.hid hk
  have HSL := Lib.hid (shk_le hk b)
  obtain ⟨bb, oo, hP, hcell⟩ := ha.bit (Below.refl _ _) (k - 1) (by omega)
  have hP := Lib.hid hP
  have hk1 : (0 : Int) ≤ (k : Int) - 1 := by omega
  have hk2 : ((k : Int) - 1).toNat = k - 1 := by omega
  have hk3 : (k : Int) - 1 < k := by omega
  have hf01 : a / 2 ^ (k - 1) % 2 = 0 ∨ a / 2 ^ (k - 1) % 2 = 1 := by omega
  generalize a / 2 ^ (k - 1) % 2 = f at *
  have HF := Lib.hid hf01
  clear hf01
  rcases row_facts hk b with ⟨t1, hs⟩ | ⟨t1, hs⟩
  all_goals
    have HS := Lib.hid hs
    clear hs ha hb hk
    have hPP := hP.out
    subst hPP
    obtain ⟨m1, hm1⟩ : ∃ m1, k - 1 = m1 := ⟨_, rfl⟩
    rw [hm1] at hcell hk2
    clear hm1
    go_enter Try.func57, Try.ntmps57
    go_wp2_with fail
    refine N5.out.mono ?_
    rintro e w' ⟨rfl, rfl⟩
    go_wp2_with fail
    try (refine N6.out.mono ?_; rintro e w' ⟨rfl, rfl⟩; go_wp2_with fail)
    refine (down_any _ k k (shk k b) _ a f HS.out HF.out w hk65 HSL.out HA.out).mono ?_
    rintro e w1 ⟨P1, c1, _, rfl, hi, hB⟩
    go_wp2_with fail
    go_ret
    exact ⟨_, _, rfl, hi, hB⟩

set_option maxRecDepth 100000 in
set_option maxHeartbeats 2000000 in
theorem joined_14 (k : Nat) (hk : k = 32 ∨ k = 64) (P Q : Option Addr) (a b : Int) (w : World) (ha : IntsAt w P (bitsL a k)) (hb : IntsAt w Q (bitsL b k)) :
    Calls Try.prog 57 #[.int .i64 14, .slice P k k, .slice Q k k] w (JOut w k (-a)) := by
  have hk6 : 6 ≤ k := by omega
  have hk5 : 5 ≤ k := by omega
  have hk6i : (6 : Int) ≤ k := by omega
  have hk5i : (5 : Int) ≤ k := by omega
  have hk65 : k ≤ 65 := by omega
  have N5 := Lib.hid (num_5 Q k b w hk6 hb)
  have N6 := Lib.hid (num_6 Q k b w hk6 hb)
  have HA := Lib.hid ha
  have HB := Lib.hid hb
  have HK := Lib.hid hk
  have HSL := Lib.hid (shk_le hk b)
  rcases row_facts hk b with ⟨t1, hs⟩ | ⟨t1, hs⟩
  all_goals
    have HS := Lib.hid hs
    clear hs ha hb hk
    go_enter Try.func57, Try.ntmps57
    go_wp2_with fail
    refine N5.out.mono ?_
    rintro e w' ⟨rfl, rfl⟩
    go_wp2_with fail
    try (refine N6.out.mono ?_; rintro e w' ⟨rfl, rfl⟩; go_wp2_with fail)
    refine (negative_any P k k a w hk65 HA.out).mono ?_
    rintro e w1 ⟨P1, c1, rfl, hi, hB⟩
    go_wp2_with fail
    go_ret
    exact ⟨_, _, rfl, hi, hB⟩

set_option maxRecDepth 100000 in
set_option maxHeartbeats 2000000 in
theorem joined_15 (k : Nat) (hk : k = 32 ∨ k = 64) (P Q : Option Addr) (a b : Int) (w : World) (ha : IntsAt w P (bitsL a k)) (hb : IntsAt w Q (bitsL b k)) :
    Calls Try.prog 57 #[.int .i64 15, .slice P k k, .slice Q k k] w (JOut w k (b)) := by
  have hk6 : 6 ≤ k := by omega
  have hk5 : 5 ≤ k := by omega
  have hk6i : (6 : Int) ≤ k := by omega
  have hk5i : (5 : Int) ≤ k := by omega
  have hk65 : k ≤ 65 := by omega
  have N5 := Lib.hid (num_5 Q k b w hk6 hb)
  have N6 := Lib.hid (num_6 Q k b w hk6 hb)
  have HA := Lib.hid ha
  have HB := Lib.hid hb
  have HK := Lib.hid hk
  have HSL := Lib.hid (shk_le hk b)
  rcases row_facts hk b with ⟨t1, hs⟩ | ⟨t1, hs⟩
  all_goals
    have HS := Lib.hid hs
    clear hs ha hb hk
    go_enter Try.func57, Try.ntmps57
    go_wp2_with fail
    refine N5.out.mono ?_
    rintro e w' ⟨rfl, rfl⟩
    go_wp2_with fail
    try (refine N6.out.mono ?_; rintro e w' ⟨rfl, rfl⟩; go_wp2_with fail)
    have hi := HB.out
    have hB := Below.refl w.heap.size w
    go_ret
    exact ⟨_, _, rfl, hi, hB⟩

end Go.Proofs.Ytjhgjplhhhgfcaa
/- The document's Alu: what it answers, for every operation, two numbers, wide and narrow. -/
namespace Go.Proofs.Ytjhgjplhhhgfcaa
open Go.ChangeShapes Go.WideShapes Go.ChangeAt Go.RowKit
open Bits
set_option linter.unusedVariables false

theorem same_zero (P Q : Option Addr) (c d k : Nat) (b : Int) (w : World) (hk : k ≤ 64) (hb : IntsAt w P (bitsL b k)) (hz : IntsAt w Q (bitsL 0 k)) :
    Calls Try.prog 55 #[.slice P k c, .slice Q k d] w fun e w' => e = .returned (.bool (decide (b % 2 ^ k = 0))) ∧ ∃ m, w' = w.drewN m := by
  have h := same_any P Q c d k (bitsL b k) (bitsL 0 k) w (bitsL_length _ _) (bitsL_length _ _) hk (bit_bits _ _) (bit_bits _ _) hb hz
  rw [valL_bits, valL_bits, Int.zero_emod] at h
  exact h
theorem num_k (P : Option Addr) (c k : Nat) (V : Int) (w : World) (hk : k ≤ 64) (h : IntsAt w P (bitsL V k)) :
    Calls Try.prog 56 #[.slice P k c] w fun e w' => e = .returned (.int .i64 (wrap64 (V % 2 ^ k))) ∧ w = w' := by
  have h := number_n P k c (bitsL V k) w (bitsL_length _ _) (by omega) h
  rw [valL_bits] at h
  exact h
theorem refAlu_no (op : Int) (n : Bool) (a b : Int) (h : op < 1 ∨ 15 < op) (w : World) :
    Calls Try.prog 28 #[.int .i64 op, .bool n, .int .i64 a, .int .i64 b] w fun e w' => e = .returned (.tuple #[.int .i64 0, .int .i64 1]) ∧ Below w.heap.size w w' := by
  rcases h with h | h
  · go_enter Try.func28, Try.ntmps28
    go_wp2_with fail
    go_ret2
    exact ⟨rfl, Below.refl _ _⟩
  · have h2 : decide (op < 1) = false := by simp; omega
    go_enter Try.func28, Try.ntmps28
    go_wp2_with fail
    go_ret2
    exact ⟨rfl, Below.refl _ _⟩
/-- which of the four divisions it is, or none -/
def DivArm (op : Int) : Prop := (op == 4) = true ∨ ((op == 4) = false ∧ (op == 5) = true) ∨ ((op == 4) = false ∧ (op == 5) = false ∧ (op == 6) = true) ∨ ((op == 4) = false ∧ (op == 5) = false ∧ (op == 6) = false ∧ (op == 7) = true)
def NoArm (op : Int) : Prop := (op == 4) = false ∧ (op == 5) = false ∧ (op == 6) = false ∧ (op == 7) = false
theorem div_arm {op : Int} (h : 4 ≤ op ∧ op ≤ 7) : DivArm op := by
  have : op = 4 ∨ op = 5 ∨ op = 6 ∨ op = 7 := by omega
  unfold DivArm
  rcases this with rfl | rfl | rfl | rfl <;> decide
theorem no_arm {op : Int} (h : ¬ (4 ≤ op ∧ op ≤ 7)) : NoArm op := by
  unfold NoArm
  refine ⟨?_, ?_, ?_, ?_⟩ <;> (rw [beq_eq_false_iff_ne]; omega)

set_option maxRecDepth 100000 in
set_option maxHeartbeats 4000000 in
theorem refAlu_nd_32 (op : Int) (h : 1 ≤ op ∧ op ≤ 15) (hn : ¬ (4 ≤ op ∧ op ≤ 7)) (a b V : Int) (w : World) (HJ0 : ∀ (w : World) (P Q : Option Addr), IntsAt w P (bitsL a 32) → IntsAt w Q (bitsL b 32) → Calls Try.prog 57 #[.int .i64 op, .slice P 32 32, .slice Q 32 32] w (JOut w 32 V)) :
    Calls Try.prog 28 #[.int .i64 op, .bool true, .int .i64 a, .int .i64 b] w fun e w' => e = .returned (.tuple #[.int .i64 (wrap64 (V % 2 ^ 32)), .int .i64 0]) ∧ Below w.heap.size w w' := by
  have h1 : decide (op < 1) = false := by simp; omega
  have h2 : decide (15 < op) = false := by simp; omega
  obtain ⟨t4, t5, t6, t7⟩ := no_arm hn
  have HJ := Lib.hid HJ0
  clear HJ0 h hn
  go_enter Try.func28, Try.ntmps28
  go_wp2_with fail
  refine (width_any true _).mono ?_
  rintro e w' ⟨rfl, rfl⟩
  go_wp2_with fail
  refine (row_n _ _ 32 (by decide) (by decide) _).mono ?_
  rintro e w1 ⟨rfl, hx1, hB1, hs1⟩
  go_wp2_with fail
  refine (width_any true _).mono ?_
  rintro e w' ⟨rfl, rfl⟩
  go_wp2_with fail
  refine (row_n _ _ 32 (by decide) (by decide) _).mono ?_
  rintro e w2 ⟨rfl, hy2, hB2, hs2⟩
  have hx2 := (hx1.below hB2 hx1.lt).at_
  have hy2' := hy2.at_
  have hB := hB1.trans (hB2.mono hB1.size)
  clear hx1 hB1 hs1 hB2 hs2 hy2
  obtain ⟨g2, hg2⟩ : ∃ g2, w1.heap.size = g2 := ⟨_, rfl⟩
  rw [hg2] at hy2' ⊢
  clear hg2
  go_wp2_with fail
  refine (HJ.out _ _ _ hx2 hy2').mono ?_
  rintro e w4 ⟨P4, c4, rfl, hi4, hB4⟩
  have hB5 := hB.trans (hB4.mono hB.size)
  clear HJ
  go_wp2_with fail
  refine (num_k _ _ 32 V _ (by decide) hi4).mono ?_
  rintro e w' ⟨rfl, rfl⟩
  go_wp2_with fail
  go_ret2
  exact ⟨rfl, hB5⟩

set_option maxRecDepth 100000 in
set_option maxHeartbeats 8000000 in
theorem refAlu_d_32 (op : Int) (h : 4 ≤ op ∧ op ≤ 7) (a b V : Int) (hb0 : 0 < b % 2 ^ 32) (w : World) (HJ0 : ∀ (w : World) (P Q : Option Addr), IntsAt w P (bitsL a 32) → IntsAt w Q (bitsL b 32) → Calls Try.prog 57 #[.int .i64 op, .slice P 32 32, .slice Q 32 32] w (JOut w 32 V)) :
    Calls Try.prog 28 #[.int .i64 op, .bool true, .int .i64 a, .int .i64 b] w fun e w' => e = .returned (.tuple #[.int .i64 (wrap64 (V % 2 ^ 32)), .int .i64 0]) ∧ Below w.heap.size w w' := by
  have hz : decide (b % 2 ^ 32 = 0) = false := by rw [decide_eq_false_iff_not]; omega
  have HJ := Lib.hid HJ0
  clear HJ0
  have h1 : decide (op < 1) = false := by simp; omega
  have h2 : decide (15 < op) = false := by simp; omega
  have hmk : ∀ w, (Instr.makeSlice 63 (.int .i64 32) (.int .i64 32)).run Try.prog w = .ok (.slice (some ⟨w.heap.size, 0, none⟩) 32 32) (w.alloc (.cells ((zerosL 32).map (Value.int .i64)).toArray 3)) := make_ints 32 (by decide)
  have HZ := Lib.hid hz
  have HM := Lib.hid hmk
  clear hz hmk hb0
  rcases div_arm h with t4 | ⟨t4, t5⟩ | ⟨t4, t5, t6⟩ | ⟨t4, t5, t6, t7⟩
  all_goals
    go_enter Try.func28, Try.ntmps28
    go_wp2_with fail
    refine (width_any true _).mono ?_
    rintro e w' ⟨rfl, rfl⟩
    go_wp2_with fail
    refine (row_n _ _ 32 (by decide) (by decide) _).mono ?_
    rintro e w1 ⟨rfl, hx1, hB1, hs1⟩
    go_wp2_with fail
    refine (width_any true _).mono ?_
    rintro e w' ⟨rfl, rfl⟩
    go_wp2_with fail
    refine (row_n _ _ 32 (by decide) (by decide) _).mono ?_
    rintro e w2 ⟨rfl, hy2, hB2, hs2⟩
    have hx2 := (hx1.below hB2 hx1.lt).at_
    have hy2' := hy2.at_
    have hB := hB1.trans (hB2.mono hB1.size)
    clear hx1 hB1 hs1 hB2 hs2 hy2
    obtain ⟨g2, hg2⟩ : ∃ g2, w1.heap.size = g2 := ⟨_, rfl⟩
    rw [hg2] at hy2' ⊢
    clear hg2
    have hx3 := hx2.below ((Below.refl _ _).alloc (Nat.le_refl _) (.cells ((zerosL 32).map (Value.int .i64)).toArray 3))
    have hy3 := hy2'.below ((Below.refl _ _).alloc (Nat.le_refl _) (.cells ((zerosL 32).map (Value.int .i64)).toArray 3))
    have hB3 := hB.alloc hB.size (.cells ((zerosL 32).map (Value.int .i64)).toArray 3)
    have CS := Lib.hid (same_zero (some ⟨g2, 0, none⟩) (some ⟨w2.heap.size, 0, none⟩) 32 32 32 b _ (by decide) hy3 (zeros_new 32 w2))
    have hmk := HM.out
    rw [HZ.out] at CS
    clear hx2 hy2' hB
    go_wp2_with fail
    clear hmk
    refine CS.out.mono ?_
    rintro e w3 ⟨rfl, q, hw3⟩
    have hx4 := hx3.drewN q
    have hy4 := hy3.drewN q
    have hB4' := below_drewN hB3 q
    rw [← hw3] at hx4 hy4 hB4'
    clear hx3 hy3 hB3 CS hw3
    go_wp2_with fail
    refine (HJ.out _ _ _ hx4 hy4).mono ?_
    rintro e w4 ⟨P4, c4, rfl, hi4, hB4⟩
    have hB5 := hB4'.trans (hB4.mono hB4'.size)
    clear HJ
    go_wp2_with fail
    refine (num_k _ _ 32 V _ (by decide) hi4).mono ?_
    rintro e w' ⟨rfl, rfl⟩
    go_wp2_with fail
    go_ret2
    exact ⟨rfl, hB5⟩

set_option maxRecDepth 100000 in
set_option maxHeartbeats 8000000 in
theorem refAlu_dz_32 (op : Int) (h : 4 ≤ op ∧ op ≤ 7) (a b : Int) (hb0 : b % 2 ^ 32 = 0) (w : World) :
    Calls Try.prog 28 #[.int .i64 op, .bool true, .int .i64 a, .int .i64 b] w fun e w' => e = .returned (.tuple #[.int .i64 0, .int .i64 84]) ∧ Below w.heap.size w w' := by
  have hz : decide (b % 2 ^ 32 = 0) = true := by rw [decide_eq_true_iff]; exact hb0
  have h1 : decide (op < 1) = false := by simp; omega
  have h2 : decide (15 < op) = false := by simp; omega
  have hmk : ∀ w, (Instr.makeSlice 63 (.int .i64 32) (.int .i64 32)).run Try.prog w = .ok (.slice (some ⟨w.heap.size, 0, none⟩) 32 32) (w.alloc (.cells ((zerosL 32).map (Value.int .i64)).toArray 3)) := make_ints 32 (by decide)
  have HZ := Lib.hid hz
  have HM := Lib.hid hmk
  clear hz hmk hb0
  rcases div_arm h with t4 | ⟨t4, t5⟩ | ⟨t4, t5, t6⟩ | ⟨t4, t5, t6, t7⟩
  all_goals
    go_enter Try.func28, Try.ntmps28
    go_wp2_with fail
    refine (width_any true _).mono ?_
    rintro e w' ⟨rfl, rfl⟩
    go_wp2_with fail
    refine (row_n _ _ 32 (by decide) (by decide) _).mono ?_
    rintro e w1 ⟨rfl, hx1, hB1, hs1⟩
    go_wp2_with fail
    refine (width_any true _).mono ?_
    rintro e w' ⟨rfl, rfl⟩
    go_wp2_with fail
    refine (row_n _ _ 32 (by decide) (by decide) _).mono ?_
    rintro e w2 ⟨rfl, hy2, hB2, hs2⟩
    have hx2 := (hx1.below hB2 hx1.lt).at_
    have hy2' := hy2.at_
    have hB := hB1.trans (hB2.mono hB1.size)
    clear hx1 hB1 hs1 hB2 hs2 hy2
    obtain ⟨g2, hg2⟩ : ∃ g2, w1.heap.size = g2 := ⟨_, rfl⟩
    rw [hg2] at hy2' ⊢
    clear hg2
    have hx3 := hx2.below ((Below.refl _ _).alloc (Nat.le_refl _) (.cells ((zerosL 32).map (Value.int .i64)).toArray 3))
    have hy3 := hy2'.below ((Below.refl _ _).alloc (Nat.le_refl _) (.cells ((zerosL 32).map (Value.int .i64)).toArray 3))
    have hB3 := hB.alloc hB.size (.cells ((zerosL 32).map (Value.int .i64)).toArray 3)
    have CS := Lib.hid (same_zero (some ⟨g2, 0, none⟩) (some ⟨w2.heap.size, 0, none⟩) 32 32 32 b _ (by decide) hy3 (zeros_new 32 w2))
    have hmk := HM.out
    rw [HZ.out] at CS
    clear hx2 hy2' hB
    go_wp2_with fail
    clear hmk
    refine CS.out.mono ?_
    rintro e w3 ⟨rfl, q, hw3⟩
    have hx4 := hx3.drewN q
    have hy4 := hy3.drewN q
    have hB4' := below_drewN hB3 q
    rw [← hw3] at hx4 hy4 hB4'
    clear hx3 hy3 hB3 CS hw3
    go_wp2_with fail
    go_ret2
    exact ⟨rfl, hB4'⟩

set_option maxRecDepth 100000 in
set_option maxHeartbeats 4000000 in
theorem refAlu_nd_64 (op : Int) (h : 1 ≤ op ∧ op ≤ 15) (hn : ¬ (4 ≤ op ∧ op ≤ 7)) (a b V : Int) (w : World) (HJ0 : ∀ (w : World) (P Q : Option Addr), IntsAt w P (bitsL a 64) → IntsAt w Q (bitsL b 64) → Calls Try.prog 57 #[.int .i64 op, .slice P 64 64, .slice Q 64 64] w (JOut w 64 V)) :
    Calls Try.prog 28 #[.int .i64 op, .bool false, .int .i64 a, .int .i64 b] w fun e w' => e = .returned (.tuple #[.int .i64 (wrap64 (V % 2 ^ 64)), .int .i64 0]) ∧ Below w.heap.size w w' := by
  have h1 : decide (op < 1) = false := by simp; omega
  have h2 : decide (15 < op) = false := by simp; omega
  obtain ⟨t4, t5, t6, t7⟩ := no_arm hn
  have HJ := Lib.hid HJ0
  clear HJ0 h hn
  go_enter Try.func28, Try.ntmps28
  go_wp2_with fail
  refine (width_any false _).mono ?_
  rintro e w' ⟨rfl, rfl⟩
  go_wp2_with fail
  refine (row_n _ _ 64 (by decide) (by decide) _).mono ?_
  rintro e w1 ⟨rfl, hx1, hB1, hs1⟩
  go_wp2_with fail
  refine (width_any false _).mono ?_
  rintro e w' ⟨rfl, rfl⟩
  go_wp2_with fail
  refine (row_n _ _ 64 (by decide) (by decide) _).mono ?_
  rintro e w2 ⟨rfl, hy2, hB2, hs2⟩
  have hx2 := (hx1.below hB2 hx1.lt).at_
  have hy2' := hy2.at_
  have hB := hB1.trans (hB2.mono hB1.size)
  clear hx1 hB1 hs1 hB2 hs2 hy2
  obtain ⟨g2, hg2⟩ : ∃ g2, w1.heap.size = g2 := ⟨_, rfl⟩
  rw [hg2] at hy2' ⊢
  clear hg2
  go_wp2_with fail
  refine (HJ.out _ _ _ hx2 hy2').mono ?_
  rintro e w4 ⟨P4, c4, rfl, hi4, hB4⟩
  have hB5 := hB.trans (hB4.mono hB.size)
  clear HJ
  go_wp2_with fail
  refine (num_k _ _ 64 V _ (by decide) hi4).mono ?_
  rintro e w' ⟨rfl, rfl⟩
  go_wp2_with fail
  go_ret2
  exact ⟨rfl, hB5⟩

set_option maxRecDepth 100000 in
set_option maxHeartbeats 8000000 in
theorem refAlu_d_64 (op : Int) (h : 4 ≤ op ∧ op ≤ 7) (a b V : Int) (hb0 : 0 < b % 2 ^ 64) (w : World) (HJ0 : ∀ (w : World) (P Q : Option Addr), IntsAt w P (bitsL a 64) → IntsAt w Q (bitsL b 64) → Calls Try.prog 57 #[.int .i64 op, .slice P 64 64, .slice Q 64 64] w (JOut w 64 V)) :
    Calls Try.prog 28 #[.int .i64 op, .bool false, .int .i64 a, .int .i64 b] w fun e w' => e = .returned (.tuple #[.int .i64 (wrap64 (V % 2 ^ 64)), .int .i64 0]) ∧ Below w.heap.size w w' := by
  have hz : decide (b % 2 ^ 64 = 0) = false := by rw [decide_eq_false_iff_not]; omega
  have HJ := Lib.hid HJ0
  clear HJ0
  have h1 : decide (op < 1) = false := by simp; omega
  have h2 : decide (15 < op) = false := by simp; omega
  have hmk : ∀ w, (Instr.makeSlice 63 (.int .i64 64) (.int .i64 64)).run Try.prog w = .ok (.slice (some ⟨w.heap.size, 0, none⟩) 64 64) (w.alloc (.cells ((zerosL 64).map (Value.int .i64)).toArray 3)) := make_ints 64 (by decide)
  have HZ := Lib.hid hz
  have HM := Lib.hid hmk
  clear hz hmk hb0
  rcases div_arm h with t4 | ⟨t4, t5⟩ | ⟨t4, t5, t6⟩ | ⟨t4, t5, t6, t7⟩
  all_goals
    go_enter Try.func28, Try.ntmps28
    go_wp2_with fail
    refine (width_any false _).mono ?_
    rintro e w' ⟨rfl, rfl⟩
    go_wp2_with fail
    refine (row_n _ _ 64 (by decide) (by decide) _).mono ?_
    rintro e w1 ⟨rfl, hx1, hB1, hs1⟩
    go_wp2_with fail
    refine (width_any false _).mono ?_
    rintro e w' ⟨rfl, rfl⟩
    go_wp2_with fail
    refine (row_n _ _ 64 (by decide) (by decide) _).mono ?_
    rintro e w2 ⟨rfl, hy2, hB2, hs2⟩
    have hx2 := (hx1.below hB2 hx1.lt).at_
    have hy2' := hy2.at_
    have hB := hB1.trans (hB2.mono hB1.size)
    clear hx1 hB1 hs1 hB2 hs2 hy2
    obtain ⟨g2, hg2⟩ : ∃ g2, w1.heap.size = g2 := ⟨_, rfl⟩
    rw [hg2] at hy2' ⊢
    clear hg2
    have hx3 := hx2.below ((Below.refl _ _).alloc (Nat.le_refl _) (.cells ((zerosL 64).map (Value.int .i64)).toArray 3))
    have hy3 := hy2'.below ((Below.refl _ _).alloc (Nat.le_refl _) (.cells ((zerosL 64).map (Value.int .i64)).toArray 3))
    have hB3 := hB.alloc hB.size (.cells ((zerosL 64).map (Value.int .i64)).toArray 3)
    have CS := Lib.hid (same_zero (some ⟨g2, 0, none⟩) (some ⟨w2.heap.size, 0, none⟩) 64 64 64 b _ (by decide) hy3 (zeros_new 64 w2))
    have hmk := HM.out
    rw [HZ.out] at CS
    clear hx2 hy2' hB
    go_wp2_with fail
    clear hmk
    refine CS.out.mono ?_
    rintro e w3 ⟨rfl, q, hw3⟩
    have hx4 := hx3.drewN q
    have hy4 := hy3.drewN q
    have hB4' := below_drewN hB3 q
    rw [← hw3] at hx4 hy4 hB4'
    clear hx3 hy3 hB3 CS hw3
    go_wp2_with fail
    refine (HJ.out _ _ _ hx4 hy4).mono ?_
    rintro e w4 ⟨P4, c4, rfl, hi4, hB4⟩
    have hB5 := hB4'.trans (hB4.mono hB4'.size)
    clear HJ
    go_wp2_with fail
    refine (num_k _ _ 64 V _ (by decide) hi4).mono ?_
    rintro e w' ⟨rfl, rfl⟩
    go_wp2_with fail
    go_ret2
    exact ⟨rfl, hB5⟩

set_option maxRecDepth 100000 in
set_option maxHeartbeats 8000000 in
theorem refAlu_dz_64 (op : Int) (h : 4 ≤ op ∧ op ≤ 7) (a b : Int) (hb0 : b % 2 ^ 64 = 0) (w : World) :
    Calls Try.prog 28 #[.int .i64 op, .bool false, .int .i64 a, .int .i64 b] w fun e w' => e = .returned (.tuple #[.int .i64 0, .int .i64 84]) ∧ Below w.heap.size w w' := by
  have hz : decide (b % 2 ^ 64 = 0) = true := by rw [decide_eq_true_iff]; exact hb0
  have h1 : decide (op < 1) = false := by simp; omega
  have h2 : decide (15 < op) = false := by simp; omega
  have hmk : ∀ w, (Instr.makeSlice 63 (.int .i64 64) (.int .i64 64)).run Try.prog w = .ok (.slice (some ⟨w.heap.size, 0, none⟩) 64 64) (w.alloc (.cells ((zerosL 64).map (Value.int .i64)).toArray 3)) := make_ints 64 (by decide)
  have HZ := Lib.hid hz
  have HM := Lib.hid hmk
  clear hz hmk hb0
  rcases div_arm h with t4 | ⟨t4, t5⟩ | ⟨t4, t5, t6⟩ | ⟨t4, t5, t6, t7⟩
  all_goals
    go_enter Try.func28, Try.ntmps28
    go_wp2_with fail
    refine (width_any false _).mono ?_
    rintro e w' ⟨rfl, rfl⟩
    go_wp2_with fail
    refine (row_n _ _ 64 (by decide) (by decide) _).mono ?_
    rintro e w1 ⟨rfl, hx1, hB1, hs1⟩
    go_wp2_with fail
    refine (width_any false _).mono ?_
    rintro e w' ⟨rfl, rfl⟩
    go_wp2_with fail
    refine (row_n _ _ 64 (by decide) (by decide) _).mono ?_
    rintro e w2 ⟨rfl, hy2, hB2, hs2⟩
    have hx2 := (hx1.below hB2 hx1.lt).at_
    have hy2' := hy2.at_
    have hB := hB1.trans (hB2.mono hB1.size)
    clear hx1 hB1 hs1 hB2 hs2 hy2
    obtain ⟨g2, hg2⟩ : ∃ g2, w1.heap.size = g2 := ⟨_, rfl⟩
    rw [hg2] at hy2' ⊢
    clear hg2
    have hx3 := hx2.below ((Below.refl _ _).alloc (Nat.le_refl _) (.cells ((zerosL 64).map (Value.int .i64)).toArray 3))
    have hy3 := hy2'.below ((Below.refl _ _).alloc (Nat.le_refl _) (.cells ((zerosL 64).map (Value.int .i64)).toArray 3))
    have hB3 := hB.alloc hB.size (.cells ((zerosL 64).map (Value.int .i64)).toArray 3)
    have CS := Lib.hid (same_zero (some ⟨g2, 0, none⟩) (some ⟨w2.heap.size, 0, none⟩) 64 64 64 b _ (by decide) hy3 (zeros_new 64 w2))
    have hmk := HM.out
    rw [HZ.out] at CS
    clear hx2 hy2' hB
    go_wp2_with fail
    clear hmk
    refine CS.out.mono ?_
    rintro e w3 ⟨rfl, q, hw3⟩
    have hx4 := hx3.drewN q
    have hy4 := hy3.drewN q
    have hB4' := below_drewN hB3 q
    rw [← hw3] at hx4 hy4 hB4'
    clear hx3 hy3 hB3 CS hw3
    go_wp2_with fail
    go_ret2
    exact ⟨rfl, hB4'⟩

end Go.Proofs.Ytjhgjplhhhgfcaa
/- WordHalves: an operation of halves sees only the low halves. -/
namespace Go.Proofs.Ytjhgjplhhhgfcaa
open Go.ChangeShapes Go.WideShapes Go.ChangeAt Go.RowKit
open Bits
set_option linter.unusedVariables false

theorem u_low (a : Int) : IntKind.u64.wrap a % 4294967296 = a % 4294967296 := by
  have := u_mod a
  omega
theorem sx32_c {a b : Int} (h : a % 4294967296 = b % 4294967296) : sx 32 a = sx 32 b := by
  have e : ∀ x, sx 32 x = if x % 4294967296 < 2147483648 then x % 4294967296 else x % 4294967296 - 4294967296 := fun _ => rfl
  rw [e, e, h]
theorem sg_c {a b : Int} (h : a % 4294967296 = b % 4294967296) : sg (IntKind.u64.wrap a) = sg (IntKind.u64.wrap b) := by
  unfold sg; rw [sx32_c (show IntKind.u64.wrap a % 4294967296 = IntKind.u64.wrap b % 4294967296 by rw [u_low, u_low, h])]
theorem hv1_c (op : Int) {a b : Int} (h : a % 4294967296 = b % 4294967296) : hv1 op (IntKind.u64.wrap a) = hv1 op (IntKind.u64.wrap b) := by
  unfold hv1; rw [sg_c h, u_low, u_low, h]
theorem hv2_c (op : Int) {a b : Int} (h : a % 4294967296 = b % 4294967296) : hv2 op (IntKind.u64.wrap a) = hv2 op (IntKind.u64.wrap b) := by
  have h5 : IntKind.u64.wrap a % 32 = IntKind.u64.wrap b % 32 := by
    have h1 := u_low a; have h2 := u_low b
    generalize IntKind.u64.wrap a = x at *
    generalize IntKind.u64.wrap b = y at *
    omega
  unfold hv2; rw [sg_c h, u_low, u_low, h, h5]
theorem aluE_c (op : Int) {b b' : Int} (h : b % 4294967296 = b' % 4294967296) : aluE op true b = aluE op true b' := by
  unfold aluE; rw [dv_t, dv_t, hv2_c op h]
theorem aluR_c (op : Int) {a a' b b' : Int} (ha : a % 4294967296 = a' % 4294967296) (h : b % 4294967296 = b' % 4294967296) : aluR op true a b = aluR op true a' b' := by
  unfold aluR; rw [aluE_c op h, aluV_t, aluV_t, hv1_c op ha, hv2_c op h]
theorem S32_c {a b : Int} (h : a % 4294967296 = b % 4294967296) : S32 (IntKind.u64.wrap a) = S32 (IntKind.u64.wrap b) := by
  have e : IntKind.u64.wrap (IntKind.u64.wrap a * 4294967296) = IntKind.u64.wrap (IntKind.u64.wrap b * 4294967296) := by
    have h1 := u_low a; have h2 := u_low b
    generalize IntKind.u64.wrap a = x at *
    generalize IntKind.u64.wrap b = y at *
    rw [IntKind.wrap_u64, IntKind.wrap_u64]
    omega
  unfold S32; rw [e]
theorem holds_c (op : Int) {a a' b b' : Int} (ha : a % 4294967296 = a' % 4294967296) (h : b % 4294967296 = b' % 4294967296) : holdsM op true a b = holdsM op true a' b' := by
  unfold holdsM; rw [if_pos rfl, if_pos rfl, S32_c ha, S32_c h]
theorem aluR_rng (op a b : Int) : 0 ≤ aluR op true a b ∧ aluR op true a b < 4294967296 := by
  unfold aluR
  split
  · rw [aluV_t]
    generalize wv op (hv1 op (IntKind.u64.wrap a)) (hv2 op (IntKind.u64.wrap b)) = x
    omega
  · omega

/-! ### division by a low half of zero -/
theorem dv_zero (op b : Int) (h : 4 ≤ op ∧ op ≤ 7) : dv op true b = 0 ↔ b % 4294967296 = 0 := by
  rw [dv_t]
  have hop : op = 4 ∨ op = 5 ∨ op = 6 ∨ op = 7 := by omega
  have hs : sg (IntKind.u64.wrap b) = 0 ↔ b % 4294967296 = 0 := by
    have e : ∀ x, sx 32 x = if x % 4294967296 < 2147483648 then x % 4294967296 else x % 4294967296 - 4294967296 := fun _ => rfl
    unfold sg
    rw [e, u_low, IntKind.wrap_u64]
    split <;> omega
  rcases hop with rfl | rfl | rfl | rfl
  · rw [hv2_4, u_low]
  · rw [hv2_5, u_low]
  · rw [hv2_6]; exact hs
  · rw [hv2_7]; exact hs

/-! ### the low half of the whole -/
theorem w64_low (x : Int) : wrap64 x % 4294967296 = x % 4294967296 := by unfold wrap64; omega
theorem h_add (a b : Int) : aluV 1 true a b = aluV 1 false a b % 4294967296 := by
  rw [m_add, w64_low, aluV_t, wv_1, hv1_1, hv2_1, u_low, u_low, u_low]; omega
theorem h_sub (a b : Int) : aluV 2 true a b = aluV 2 false a b % 4294967296 := by
  rw [m_sub, w64_low, aluV_t, wv_2, hv1_2, hv2_2, u_low, u_low, u_low]; omega
theorem h_mul (a b : Int) : aluV 3 true a b = aluV 3 false a b % 4294967296 := by
  rw [m_mul, w64_low, aluV_t, wv_3, hv1_3, hv2_3, u_low, u_low, u_low, ← Int.mul_emod]
theorem h_neg (a b : Int) : aluV 14 true a b = aluV 14 false a b % 4294967296 := by
  rw [m_neg, w64_low, aluV_t, wv_14, hv1_14, u_low, u_low]; omega
theorem h_mov (a b : Int) : aluV 15 true a b = aluV 15 false a b % 4294967296 := by
  rw [m_mov, w64_low, aluV_t, wv_15, hv2_15, u_low]; omega
theorem nat_low (a : Int) : ∃ m : Nat, IntKind.u64.wrap a = m ∧ m < 18446744073709551616 ∧ IntKind.u64.wrap a % 4294967296 = ((m % 4294967296 : Nat) : Int) ∧ m % 4294967296 < 18446744073709551616 := by
  obtain ⟨m, e, h⟩ := un_lt' a
  exact ⟨m, e, h, by rw [e]; omega, by omega⟩
theorem h_or (a b : Int) : aluV 8 true a b = aluV 8 false a b % 4294967296 := by
  obtain ⟨m, e1, h1, l1, k1⟩ := nat_low a
  obtain ⟨n, e2, h2, l2, k2⟩ := nat_low b
  have e := @Nat.or_mod_two_pow m n 32
  rw [show (2 : Nat) ^ 32 = 4294967296 from rfl] at e
  have e' := @Nat.or_mod_two_pow (m % 4294967296) (n % 4294967296) 32
  rw [show (2 : Nat) ^ 32 = 4294967296 from rfl, Nat.mod_mod, Nat.mod_mod] at e'
  rw [m_or, w64_low, aluV_t, wv_8, hv1_8, hv2_8, l1, l2, e1, e2, u64_or_nat m n h1 h2, u64_or_nat _ _ k1 k2]
  omega
theorem h_and (a b : Int) : aluV 9 true a b = aluV 9 false a b % 4294967296 := by
  obtain ⟨m, e1, h1, l1, k1⟩ := nat_low a
  obtain ⟨n, e2, h2, l2, k2⟩ := nat_low b
  have e := @Nat.and_mod_two_pow m n 32
  rw [show (2 : Nat) ^ 32 = 4294967296 from rfl] at e
  have e' := @Nat.and_mod_two_pow (m % 4294967296) (n % 4294967296) 32
  rw [show (2 : Nat) ^ 32 = 4294967296 from rfl, Nat.mod_mod, Nat.mod_mod] at e'
  rw [m_and, w64_low, aluV_t, wv_9, hv1_9, hv2_9, l1, l2, e1, e2, u64_and_nat m n h1 h2, u64_and_nat _ _ k1 k2]
  omega
theorem h_xor (a b : Int) : aluV 10 true a b = aluV 10 false a b % 4294967296 := by
  obtain ⟨m, e1, h1, l1, k1⟩ := nat_low a
  obtain ⟨n, e2, h2, l2, k2⟩ := nat_low b
  have e := @Nat.xor_mod_two_pow m n 32
  rw [show (2 : Nat) ^ 32 = 4294967296 from rfl] at e
  have e' := @Nat.xor_mod_two_pow (m % 4294967296) (n % 4294967296) 32
  rw [show (2 : Nat) ^ 32 = 4294967296 from rfl, Nat.mod_mod, Nat.mod_mod] at e'
  rw [m_xor, w64_low, aluV_t, wv_10, hv1_10, hv2_10, l1, l2, e1, e2, u64_xor_nat m n h1 h2, u64_xor_nat _ _ k1 k2]
  omega
theorem h_whole (op a b : Int) (h : (1 ≤ op ∧ op ≤ 3) ∨ (8 ≤ op ∧ op ≤ 10) ∨ (14 ≤ op ∧ op ≤ 15)) : aluV op true a b = aluV op false a b % 4294967296 := by
  have : op = 1 ∨ op = 2 ∨ op = 3 ∨ op = 8 ∨ op = 9 ∨ op = 10 ∨ op = 14 ∨ op = 15 := by omega
  rcases this with rfl | rfl | rfl | rfl | rfl | rfl | rfl | rfl
  · exact h_add a b
  · exact h_sub a b
  · exact h_mul a b
  · exact h_or a b
  · exact h_and a b
  · exact h_xor a b
  · exact h_neg a b
  · exact h_mov a b

/-! ### a low half, with another high half -/
theorem mix_low (x y : Int) : bits BinOp.or IntKind.i64 (x % 4294967296) (wrap64 (y * 4294967296)) % 4294967296 = x % 4294967296 := by
  show IntKind.i64.wrap (((BitVec.ofInt 64 (x % 4294967296) ||| BitVec.ofInt 64 (wrap64 (y * 4294967296))).toNat : Nat) : Int) % 4294967296 = x % 4294967296
  have w : ∀ v : Int, IntKind.i64.wrap v % 4294967296 = v % 4294967296 := fun v => by rw [IntKind.wrap_i64]; omega
  rw [w, BitVec.toNat_or, BitVec.toNat_ofInt, BitVec.toNat_ofInt]
  have e := @Nat.or_mod_two_pow ((x % 4294967296 % ((2 ^ 64 : Nat) : Int)).toNat) ((wrap64 (y * 4294967296) % ((2 ^ 64 : Nat) : Int)).toNat) 32
  rw [show (2 : Nat) ^ 32 = 4294967296 from rfl] at e
  have e0 : (wrap64 (y * 4294967296) % ((2 ^ 64 : Nat) : Int)).toNat % 4294967296 = 0 := by
    rw [show ((2 ^ 64 : Nat) : Int) = 18446744073709551616 by decide, w64_mod]
    omega
  have e1 : (x % 4294967296 % ((2 ^ 64 : Nat) : Int)).toNat % 4294967296 = (x % 4294967296).toNat := by
    rw [show ((2 ^ 64 : Nat) : Int) = 18446744073709551616 by decide]
    omega
  rw [e0, e1, Nat.or_zero] at e
  have e2 := congrArg (fun n : Nat => (n : Int)) e
  simp only [Int.natCast_emod] at e2
  have e3 : (((4294967296 : Nat)) : Int) = 4294967296 := rfl
  rw [e3] at e2
  rw [e2]
  omega
theorem ext16_c {a b : Int} (h : a % 4294967296 = b % 4294967296) : extI 16 true a = extI 16 true b := by
  have e : ∀ x, extI 16 true x = (if x % 65536 < 32768 then x % 65536 else x % 65536 - 65536) % 4294967296 := fun _ => rfl
  rw [e, e, show a % 65536 = b % 65536 by omega]
theorem ext8_c {a b : Int} (h : a % 4294967296 = b % 4294967296) : extI 8 true a = extI 8 false b % 4294967296 := by
  have e : ∀ x, extI 8 true x = (if x % 256 < 128 then x % 256 else x % 256 - 256) % 4294967296 := fun _ => rfl
  have f : ∀ x, extI 8 false x = (if x % 256 < 128 then x % 256 else x % 256 - 256) := fun _ => rfl
  rw [e, f, show a % 256 = b % 256 by omega]
end Go.Proofs.Ytjhgjplhhhgfcaa
/- What the document's Alu answers is what the program's does: plain arithmetic. -/
namespace Go.Proofs.Ytjhgjplhhhgfcaa
open Go.ChangeShapes Go.WideShapes Go.ChangeAt Go.RowKit
open Bits
set_option linter.unusedVariables false

theorem p64 : (2 : Int) ^ 64 = 18446744073709551616 := by decide
theorem p32 : (2 : Int) ^ 32 = 4294967296 := by decide
theorem w64_m64 (V : Int) : wrap64 (V % 2 ^ 64) = wrap64 V := by rw [p64]; exact w64_congr (by omega)
theorem w64_m32 (V : Int) : wrap64 (V % 2 ^ 32) = V % 4294967296 := by rw [p32]; exact w64_self (by omega)
theorem u_m64 (a : Int) : IntKind.u64.wrap a = a % 2 ^ 64 := u64_pow a
/-- bits of or, and, xor -/
theorem nat_bit (m n j : Nat) : (m ||| n) / 2 ^ j % 2 = (if 0 < m / 2 ^ j % 2 + n / 2 ^ j % 2 then 1 else 0) ∧ (m &&& n) / 2 ^ j % 2 = (if m / 2 ^ j % 2 + n / 2 ^ j % 2 = 2 then 1 else 0) ∧ (m ^^^ n) / 2 ^ j % 2 = (if m / 2 ^ j % 2 + n / 2 ^ j % 2 = 1 then 1 else 0) := by
  rw [Nat.or_div_two_pow, Nat.and_div_two_pow, Nat.xor_div_two_pow]
  generalize m / 2 ^ j = x
  generalize n / 2 ^ j = y
  have o := @Nat.or_mod_two_pow x y 1
  have a := @Nat.and_mod_two_pow x y 1
  have e := @Nat.xor_mod_two_pow x y 1
  simp only [Nat.pow_one] at o a e
  rw [o, a, e]
  rcases Nat.mod_two_eq_zero_or_one x with h1 | h1 <;> rcases Nat.mod_two_eq_zero_or_one y with h2 | h2 <;> rw [h1, h2] <;> decide
theorem int_bit (a : Int) (m j : Nat) (h : IntKind.u64.wrap a = m) (hj : j < 64) : ((m / 2 ^ j % 2 : Nat) : Int) = a / 2 ^ j % 2 := by
  have h1 : (m : Int) / 2 ^ j % 2 = a / 2 ^ j % 2 := bit_congr (n := 64) (by rw [← h, u64_pow, Int.emod_emod]) hj
  rw [← h1]
  simp
theorem bw_8 (s : Int) : bw 8 s = if 0 < s then 1 else 0 := by unfold bw; rw [if_pos rfl]
theorem bw_9 (s : Int) : bw 9 s = if s = 2 then 1 else 0 := by unfold bw; rw [if_neg (by decide), if_pos rfl]
theorem bw_10 (s : Int) : bw 10 s = if s = 1 then 1 else 0 := by unfold bw; rw [if_neg (by decide), if_neg (by decide)]
theorem or_bit (a b : Int) (j : Nat) (hj : j < 64) : bits BinOp.or IntKind.u64 (IntKind.u64.wrap a) (IntKind.u64.wrap b) / 2 ^ j % 2 = bw 8 (a / 2 ^ j % 2 + b / 2 ^ j % 2) := by
  obtain ⟨m, e1, h1⟩ := un_lt' a
  obtain ⟨n, e2, h2⟩ := un_lt' b
  rw [e1, e2, u64_or_nat m n h1 h2, ← int_bit a m j e1 hj, ← int_bit b n j e2 hj]
  have h := (nat_bit m n j).1
  have hc : (((m ||| n : Nat) : Int) / 2 ^ j % 2) = (((m ||| n) / 2 ^ j % 2 : Nat) : Int) := by simp
  rw [hc, h]
  rw [bw_8]
  split <;> split <;> omega
theorem and_bit (a b : Int) (j : Nat) (hj : j < 64) : bits BinOp.and IntKind.u64 (IntKind.u64.wrap a) (IntKind.u64.wrap b) / 2 ^ j % 2 = bw 9 (a / 2 ^ j % 2 + b / 2 ^ j % 2) := by
  obtain ⟨m, e1, h1⟩ := un_lt' a
  obtain ⟨n, e2, h2⟩ := un_lt' b
  rw [e1, e2, u64_and_nat m n h1 h2, ← int_bit a m j e1 hj, ← int_bit b n j e2 hj]
  have h := (nat_bit m n j).2.1
  have hc : (((m &&& n : Nat) : Int) / 2 ^ j % 2) = (((m &&& n) / 2 ^ j % 2 : Nat) : Int) := by simp
  rw [hc, h]
  rw [bw_9]
  split <;> split <;> omega
theorem xor_bit (a b : Int) (j : Nat) (hj : j < 64) : bits BinOp.xor IntKind.u64 (IntKind.u64.wrap a) (IntKind.u64.wrap b) / 2 ^ j % 2 = bw 10 (a / 2 ^ j % 2 + b / 2 ^ j % 2) := by
  obtain ⟨m, e1, h1⟩ := un_lt' a
  obtain ⟨n, e2, h2⟩ := un_lt' b
  rw [e1, e2, u64_xor_nat m n h1 h2, ← int_bit a m j e1 hj, ← int_bit b n j e2 hj]
  have h := (nat_bit m n j).2.2
  have hc : (((m ^^^ n : Nat) : Int) / 2 ^ j % 2) = (((m ^^^ n) / 2 ^ j % 2 : Nat) : Int) := by simp
  rw [hc, h]
  rw [bw_10]
  split <;> split <;> omega

theorem shk64 (b : Int) : (IntKind.u64.wrap b % 64).toNat = shk 64 b := by unfold shk; rw [IntKind.wrap_u64]; congr 1; omega
theorem shk32 (b : Int) : (IntKind.u64.wrap b % 32 % 64).toNat = shk 32 b := by unfold shk; rw [IntKind.wrap_u64]; congr 1; omega
theorem sx32_rng (a : Int) : -2147483648 ≤ sx 32 a ∧ sx 32 a < 2147483648 := by
  have := sx_rng 32 (by decide) a
  rwa [show (2 : Int) ^ (32 - 1) = 2147483648 from rfl] at this
theorem sg_eq (a : Int) : wrap64 (sg (IntKind.u64.wrap a)) = sx 32 a := by
  unfold sg
  rw [sx_u64 32 (by omega), w64_wrap, w64_self (by have := sx32_rng a; omega)]
theorem sx64_w (a : Int) : sx 64 a = wrap64 a := by
  unfold sx
  have e1 : (2 : Int) ^ 64 = 18446744073709551616 := by decide
  have e2 : (2 : Int) ^ (64 - 1) = 9223372036854775808 := by decide
  rw [e1, e2]
  unfold wrap64
  split <;> omega
theorem sx64_eq (a : Int) : wrap64 (IntKind.u64.wrap a) = sx 64 a := by rw [w64_wrap, sx64_w]
theorem filled_sx (a : Int) (k : Nat) (hk : 1 ≤ k) : a % 2 ^ k - (a / 2 ^ (k - 1) % 2) * 2 ^ k = sx k a := by
  have hP : (2 : Int) ^ k = 2 ^ (k - 1) * 2 := by rw [← Int.pow_succ]; congr 1; omega
  have h1 := emod_mul2 a (2 ^ (k - 1)) (pow_pos' _)
  have h2 := Int.emod_nonneg a (Int.ne_of_gt (pow_pos' (k - 1)))
  have h3 := Int.emod_lt_of_pos a (pow_pos' (k - 1))
  unfold sx
  rw [hP] at *
  generalize (2 : Int) ^ (k - 1) = H at *
  rcases Int.emod_two_eq (a / H) with h | h
  · rw [h] at h1 ⊢; rw [if_pos (by omega)]; omega
  · rw [h] at h1 ⊢; rw [if_neg (by omega)]; omega

/-! ### wide -/
theorem W4 (a b : Int) : wrap64 (a % 2 ^ 64 / (b % 2 ^ 64)) = aluV 4 false a b := by rw [aluV_f, wv_4, u_m64, u_m64]
theorem W5 (a b : Int) : wrap64 (a % 2 ^ 64 % (b % 2 ^ 64)) = aluV 5 false a b := by rw [aluV_f, wv_5, u_m64, u_m64]
theorem w64_w64 (x : Int) : wrap64 (wrap64 x) = wrap64 x := by unfold wrap64; omega
theorem W6 (a b : Int) : wrap64 ((sx 64 a).tdiv (sx 64 b)) = aluV 6 false a b := by rw [aluV_f, wv_6, w64_wrap, w64_w64, sx64_eq, sx64_eq]
theorem W7 (a b : Int) : wrap64 ((sx 64 a).tmod (sx 64 b)) = aluV 7 false a b := by rw [aluV_f, wv_7, w64_wrap, sx64_eq, sx64_eq]
theorem W11 (a b : Int) : wrap64 (a * 2 ^ shk 64 b) = aluV 11 false a b := by
  rw [aluV_f, wv_11, w64_wrap, shk64]
  refine w64_congr ?_
  rw [Int.mul_emod (IntKind.u64.wrap a), u_mod, ← Int.mul_emod]
theorem W12 (a b : Int) : wrap64 ((a % 2 ^ 64 - 0 * 2 ^ 64) / 2 ^ shk 64 b) = aluV 12 false a b := by
  rw [aluV_f, wv_12, shk64, u_m64, Int.zero_mul, Int.sub_zero]
theorem W13 (a b : Int) : wrap64 ((a % 2 ^ 64 - (a / 2 ^ (64 - 1) % 2) * 2 ^ 64) / 2 ^ shk 64 b) = aluV 13 false a b := by
  rw [filled_sx a 64 (by decide), aluV_f, wv_13, w64_wrap, shk64, sx64_eq]
/-! ### narrow -/
theorem N4 (a b : Int) : a % 2 ^ 32 / (b % 2 ^ 32) % 4294967296 = aluV 4 true a b := by rw [aluV_t, wv_4, hv1_4, hv2_4, u_low, u_low, p32]
theorem N5 (a b : Int) : a % 2 ^ 32 % (b % 2 ^ 32) % 4294967296 = aluV 5 true a b := by rw [aluV_t, wv_5, hv1_5, hv2_5, u_low, u_low, p32]
theorem u_low' (x : Int) : IntKind.u64.wrap x % 4294967296 = x % 4294967296 := by rw [IntKind.wrap_u64]; omega
theorem N6 (a b : Int) : ((sx 32 a).tdiv (sx 32 b)) % 4294967296 = aluV 6 true a b := by rw [aluV_t, wv_6, hv1_6, hv2_6, u_low', w64_low, sg_eq, sg_eq]
theorem N7 (a b : Int) : ((sx 32 a).tmod (sx 32 b)) % 4294967296 = aluV 7 true a b := by rw [aluV_t, wv_7, hv1_7, hv2_7, u_low', sg_eq, sg_eq]
theorem N11 (a b : Int) : (a * 2 ^ shk 32 b) % 4294967296 = aluV 11 true a b := by
  rw [aluV_t, wv_11, hv1_11, hv2_11, u_low', shk32, u_low', Int.mul_emod (a % 4294967296), Int.emod_emod, ← Int.mul_emod]
theorem N12 (a b : Int) : ((a % 2 ^ 32 - 0 * 2 ^ 32) / 2 ^ shk 32 b) % 4294967296 = aluV 12 true a b := by
  rw [aluV_t, wv_12, hv1_12, hv2_12, shk32, u_low', p32, Int.zero_mul, Int.sub_zero]
theorem N13 (a b : Int) : ((a % 2 ^ 32 - (a / 2 ^ (32 - 1) % 2) * 2 ^ 32) / 2 ^ shk 32 b) % 4294967296 = aluV 13 true a b := by
  rw [filled_sx a 32 (by decide), aluV_t, wv_13, hv1_13, hv2_13, u_low', shk32, sg_eq]
end Go.Proofs.Ytjhgjplhhhgfcaa
/- WordAlus: the walk of the law. -/
namespace Go.Proofs.Ytjhgjplhhhgfcaa
open Go.ChangeShapes Go.WideShapes Go.ChangeAt Go.RowKit
open Bits
set_option linter.unusedVariables false

/-- what an Alu leaves -/
def AluPost (w : World) (op : Int) (n : Bool) (a b : Int) (e : Ending) (w' : World) : Prop :=
  e = .returned (.tuple #[.int .i64 (aluR op n a b), .int .i64 (aluE op n b)]) ∧ Below w.heap.size w w'
theorem fin64 {w : World} {op a b V : Int} (hE : aluE op false b = 0) (hV : wrap64 V = aluV op false a b)
    (C : Calls Try.prog 28 #[.int .i64 op, .bool false, .int .i64 a, .int .i64 b] w fun e w' => e = .returned (.tuple #[.int .i64 (wrap64 (V % 2 ^ 64)), .int .i64 0]) ∧ Below w.heap.size w w') :
    Calls Try.prog 28 #[.int .i64 op, .bool false, .int .i64 a, .int .i64 b] w (AluPost w op false a b) := by
  rw [w64_m64, hV] at C
  unfold AluPost
  rw [aluR_ok hE, hE]
  exact C
theorem fin32 {w : World} {op a b V : Int} (hE : aluE op true b = 0) (hV : V % 4294967296 = aluV op true a b)
    (C : Calls Try.prog 28 #[.int .i64 op, .bool true, .int .i64 a, .int .i64 b] w fun e w' => e = .returned (.tuple #[.int .i64 (wrap64 (V % 2 ^ 32)), .int .i64 0]) ∧ Below w.heap.size w w') :
    Calls Try.prog 28 #[.int .i64 op, .bool true, .int .i64 a, .int .i64 b] w (AluPost w op true a b) := by
  rw [w64_m32, hV] at C
  unfold AluPost
  rw [aluR_ok hE, hE]
  exact C

theorem ra_f_1 (a b : Int) (w : World) (hE : aluE 1 false b = 0) : Calls Try.prog 28 #[.int .i64 1, .bool false, .int .i64 a, .int .i64 b] w (AluPost w 1 false a b) :=
  fin64 hE (by rw [Int.add_zero, m_add]) (refAlu_nd_64 1 (by decide) (by decide) a b (a + b + 0) w (fun w P Q ha hb => joined_1 64 (.inr rfl) P Q a b w ha hb))
theorem ra_f_2 (a b : Int) (w : World) (hE : aluE 2 false b = 0) : Calls Try.prog 28 #[.int .i64 2, .bool false, .int .i64 a, .int .i64 b] w (AluPost w 2 false a b) :=
  fin64 hE (by rw [show a + (-b - 1) + 1 = a - b by omega, m_sub]) (refAlu_nd_64 2 (by decide) (by decide) a b (a + (-b - 1) + 1) w (fun w P Q ha hb => joined_2 64 (.inr rfl) P Q a b w ha hb))
theorem ra_f_3 (a b : Int) (w : World) (hE : aluE 3 false b = 0) : Calls Try.prog 28 #[.int .i64 3, .bool false, .int .i64 a, .int .i64 b] w (AluPost w 3 false a b) :=
  fin64 hE ((m_mul a b).symm) (refAlu_nd_64 3 (by decide) (by decide) a b (a * b) w (fun w P Q ha hb => joined_3 64 (.inr rfl) P Q a b w ha hb))
theorem ra_f_4 (a b : Int) (w : World) (hE : aluE 4 false b = 0) (hb0 : 0 < b % 2 ^ 64) : Calls Try.prog 28 #[.int .i64 4, .bool false, .int .i64 a, .int .i64 b] w (AluPost w 4 false a b) :=
  fin64 hE (W4 a b) (refAlu_d_64 4 (by decide) a b (a % 2 ^ 64 / (b % 2 ^ 64)) hb0 w (fun w P Q ha hb => joined_4 64 (.inr rfl) P Q a b w ha hb hb0))
theorem ra_f_5 (a b : Int) (w : World) (hE : aluE 5 false b = 0) (hb0 : 0 < b % 2 ^ 64) : Calls Try.prog 28 #[.int .i64 5, .bool false, .int .i64 a, .int .i64 b] w (AluPost w 5 false a b) :=
  fin64 hE (W5 a b) (refAlu_d_64 5 (by decide) a b (a % 2 ^ 64 % (b % 2 ^ 64)) hb0 w (fun w P Q ha hb => joined_5 64 (.inr rfl) P Q a b w ha hb hb0))
theorem ra_f_6 (a b : Int) (w : World) (hE : aluE 6 false b = 0) (hb0 : 0 < b % 2 ^ 64) : Calls Try.prog 28 #[.int .i64 6, .bool false, .int .i64 a, .int .i64 b] w (AluPost w 6 false a b) :=
  fin64 hE (W6 a b) (refAlu_d_64 6 (by decide) a b ((sx 64 a).tdiv (sx 64 b)) hb0 w (fun w P Q ha hb => joined_6 64 (.inr rfl) P Q a b w ha hb hb0))
theorem ra_f_7 (a b : Int) (w : World) (hE : aluE 7 false b = 0) (hb0 : 0 < b % 2 ^ 64) : Calls Try.prog 28 #[.int .i64 7, .bool false, .int .i64 a, .int .i64 b] w (AluPost w 7 false a b) :=
  fin64 hE (W7 a b) (refAlu_d_64 7 (by decide) a b ((sx 64 a).tmod (sx 64 b)) hb0 w (fun w P Q ha hb => joined_7 64 (.inr rfl) P Q a b w ha hb hb0))
theorem ra_f_8 (a b : Int) (w : World) (hE : aluE 8 false b = 0) : Calls Try.prog 28 #[.int .i64 8, .bool false, .int .i64 a, .int .i64 b] w (AluPost w 8 false a b) :=
  fin64 hE ((m_or a b).symm) (refAlu_nd_64 8 (by decide) (by decide) a b (bits BinOp.or IntKind.u64 (IntKind.u64.wrap a) (IntKind.u64.wrap b)) w (fun w P Q ha hb => joined_8 64 (.inr rfl) P Q a b w ha hb _ (fun j hj => or_bit a b j (by omega))))
theorem ra_f_9 (a b : Int) (w : World) (hE : aluE 9 false b = 0) : Calls Try.prog 28 #[.int .i64 9, .bool false, .int .i64 a, .int .i64 b] w (AluPost w 9 false a b) :=
  fin64 hE ((m_and a b).symm) (refAlu_nd_64 9 (by decide) (by decide) a b (bits BinOp.and IntKind.u64 (IntKind.u64.wrap a) (IntKind.u64.wrap b)) w (fun w P Q ha hb => joined_9 64 (.inr rfl) P Q a b w ha hb _ (fun j hj => and_bit a b j (by omega))))
theorem ra_f_10 (a b : Int) (w : World) (hE : aluE 10 false b = 0) : Calls Try.prog 28 #[.int .i64 10, .bool false, .int .i64 a, .int .i64 b] w (AluPost w 10 false a b) :=
  fin64 hE ((m_xor a b).symm) (refAlu_nd_64 10 (by decide) (by decide) a b (bits BinOp.xor IntKind.u64 (IntKind.u64.wrap a) (IntKind.u64.wrap b)) w (fun w P Q ha hb => joined_10 64 (.inr rfl) P Q a b w ha hb _ (fun j hj => xor_bit a b j (by omega))))
theorem ra_f_11 (a b : Int) (w : World) (hE : aluE 11 false b = 0) : Calls Try.prog 28 #[.int .i64 11, .bool false, .int .i64 a, .int .i64 b] w (AluPost w 11 false a b) :=
  fin64 hE (W11 a b) (refAlu_nd_64 11 (by decide) (by decide) a b (a * 2 ^ shk 64 b) w (fun w P Q ha hb => joined_11 64 (.inr rfl) P Q a b w ha hb))
theorem ra_f_12 (a b : Int) (w : World) (hE : aluE 12 false b = 0) : Calls Try.prog 28 #[.int .i64 12, .bool false, .int .i64 a, .int .i64 b] w (AluPost w 12 false a b) :=
  fin64 hE (W12 a b) (refAlu_nd_64 12 (by decide) (by decide) a b ((a % 2 ^ 64 - 0 * 2 ^ 64) / 2 ^ shk 64 b) w (fun w P Q ha hb => joined_12 64 (.inr rfl) P Q a b w ha hb))
theorem ra_f_13 (a b : Int) (w : World) (hE : aluE 13 false b = 0) : Calls Try.prog 28 #[.int .i64 13, .bool false, .int .i64 a, .int .i64 b] w (AluPost w 13 false a b) :=
  fin64 hE (W13 a b) (refAlu_nd_64 13 (by decide) (by decide) a b ((a % 2 ^ 64 - (a / 2 ^ (64 - 1) % 2) * 2 ^ 64) / 2 ^ shk 64 b) w (fun w P Q ha hb => joined_13 64 (.inr rfl) P Q a b w ha hb))
theorem ra_f_14 (a b : Int) (w : World) (hE : aluE 14 false b = 0) : Calls Try.prog 28 #[.int .i64 14, .bool false, .int .i64 a, .int .i64 b] w (AluPost w 14 false a b) :=
  fin64 hE ((m_neg a b).symm) (refAlu_nd_64 14 (by decide) (by decide) a b (-a) w (fun w P Q ha hb => joined_14 64 (.inr rfl) P Q a b w ha hb))
theorem ra_f_15 (a b : Int) (w : World) (hE : aluE 15 false b = 0) : Calls Try.prog 28 #[.int .i64 15, .bool false, .int .i64 a, .int .i64 b] w (AluPost w 15 false a b) :=
  fin64 hE ((m_mov a b).symm) (refAlu_nd_64 15 (by decide) (by decide) a b (b) w (fun w P Q ha hb => joined_15 64 (.inr rfl) P Q a b w ha hb))
theorem ra_t_1 (a b : Int) (w : World) (hE : aluE 1 true b = 0) : Calls Try.prog 28 #[.int .i64 1, .bool true, .int .i64 a, .int .i64 b] w (AluPost w 1 true a b) :=
  fin32 hE (by rw [h_whole 1 a b (by decide), m_add, Int.add_zero, w64_low]) (refAlu_nd_32 1 (by decide) (by decide) a b (a + b + 0) w (fun w P Q ha hb => joined_1 32 (.inl rfl) P Q a b w ha hb))
theorem ra_t_2 (a b : Int) (w : World) (hE : aluE 2 true b = 0) : Calls Try.prog 28 #[.int .i64 2, .bool true, .int .i64 a, .int .i64 b] w (AluPost w 2 true a b) :=
  fin32 hE (by rw [h_whole 2 a b (by decide), m_sub, show a + (-b - 1) + 1 = a - b by omega, w64_low]) (refAlu_nd_32 2 (by decide) (by decide) a b (a + (-b - 1) + 1) w (fun w P Q ha hb => joined_2 32 (.inl rfl) P Q a b w ha hb))
theorem ra_t_3 (a b : Int) (w : World) (hE : aluE 3 true b = 0) : Calls Try.prog 28 #[.int .i64 3, .bool true, .int .i64 a, .int .i64 b] w (AluPost w 3 true a b) :=
  fin32 hE (by rw [h_whole 3 a b (by decide), m_mul, w64_low]) (refAlu_nd_32 3 (by decide) (by decide) a b (a * b) w (fun w P Q ha hb => joined_3 32 (.inl rfl) P Q a b w ha hb))
theorem ra_t_4 (a b : Int) (w : World) (hE : aluE 4 true b = 0) (hb0 : 0 < b % 2 ^ 32) : Calls Try.prog 28 #[.int .i64 4, .bool true, .int .i64 a, .int .i64 b] w (AluPost w 4 true a b) :=
  fin32 hE (N4 a b) (refAlu_d_32 4 (by decide) a b (a % 2 ^ 32 / (b % 2 ^ 32)) hb0 w (fun w P Q ha hb => joined_4 32 (.inl rfl) P Q a b w ha hb hb0))
theorem ra_t_5 (a b : Int) (w : World) (hE : aluE 5 true b = 0) (hb0 : 0 < b % 2 ^ 32) : Calls Try.prog 28 #[.int .i64 5, .bool true, .int .i64 a, .int .i64 b] w (AluPost w 5 true a b) :=
  fin32 hE (N5 a b) (refAlu_d_32 5 (by decide) a b (a % 2 ^ 32 % (b % 2 ^ 32)) hb0 w (fun w P Q ha hb => joined_5 32 (.inl rfl) P Q a b w ha hb hb0))
theorem ra_t_6 (a b : Int) (w : World) (hE : aluE 6 true b = 0) (hb0 : 0 < b % 2 ^ 32) : Calls Try.prog 28 #[.int .i64 6, .bool true, .int .i64 a, .int .i64 b] w (AluPost w 6 true a b) :=
  fin32 hE (N6 a b) (refAlu_d_32 6 (by decide) a b ((sx 32 a).tdiv (sx 32 b)) hb0 w (fun w P Q ha hb => joined_6 32 (.inl rfl) P Q a b w ha hb hb0))
theorem ra_t_7 (a b : Int) (w : World) (hE : aluE 7 true b = 0) (hb0 : 0 < b % 2 ^ 32) : Calls Try.prog 28 #[.int .i64 7, .bool true, .int .i64 a, .int .i64 b] w (AluPost w 7 true a b) :=
  fin32 hE (N7 a b) (refAlu_d_32 7 (by decide) a b ((sx 32 a).tmod (sx 32 b)) hb0 w (fun w P Q ha hb => joined_7 32 (.inl rfl) P Q a b w ha hb hb0))
theorem ra_t_8 (a b : Int) (w : World) (hE : aluE 8 true b = 0) : Calls Try.prog 28 #[.int .i64 8, .bool true, .int .i64 a, .int .i64 b] w (AluPost w 8 true a b) :=
  fin32 hE (by rw [h_whole 8 a b (by decide), m_or, w64_low]) (refAlu_nd_32 8 (by decide) (by decide) a b (bits BinOp.or IntKind.u64 (IntKind.u64.wrap a) (IntKind.u64.wrap b)) w (fun w P Q ha hb => joined_8 32 (.inl rfl) P Q a b w ha hb _ (fun j hj => or_bit a b j (by omega))))
theorem ra_t_9 (a b : Int) (w : World) (hE : aluE 9 true b = 0) : Calls Try.prog 28 #[.int .i64 9, .bool true, .int .i64 a, .int .i64 b] w (AluPost w 9 true a b) :=
  fin32 hE (by rw [h_whole 9 a b (by decide), m_and, w64_low]) (refAlu_nd_32 9 (by decide) (by decide) a b (bits BinOp.and IntKind.u64 (IntKind.u64.wrap a) (IntKind.u64.wrap b)) w (fun w P Q ha hb => joined_9 32 (.inl rfl) P Q a b w ha hb _ (fun j hj => and_bit a b j (by omega))))
theorem ra_t_10 (a b : Int) (w : World) (hE : aluE 10 true b = 0) : Calls Try.prog 28 #[.int .i64 10, .bool true, .int .i64 a, .int .i64 b] w (AluPost w 10 true a b) :=
  fin32 hE (by rw [h_whole 10 a b (by decide), m_xor, w64_low]) (refAlu_nd_32 10 (by decide) (by decide) a b (bits BinOp.xor IntKind.u64 (IntKind.u64.wrap a) (IntKind.u64.wrap b)) w (fun w P Q ha hb => joined_10 32 (.inl rfl) P Q a b w ha hb _ (fun j hj => xor_bit a b j (by omega))))
theorem ra_t_11 (a b : Int) (w : World) (hE : aluE 11 true b = 0) : Calls Try.prog 28 #[.int .i64 11, .bool true, .int .i64 a, .int .i64 b] w (AluPost w 11 true a b) :=
  fin32 hE (N11 a b) (refAlu_nd_32 11 (by decide) (by decide) a b (a * 2 ^ shk 32 b) w (fun w P Q ha hb => joined_11 32 (.inl rfl) P Q a b w ha hb))
theorem ra_t_12 (a b : Int) (w : World) (hE : aluE 12 true b = 0) : Calls Try.prog 28 #[.int .i64 12, .bool true, .int .i64 a, .int .i64 b] w (AluPost w 12 true a b) :=
  fin32 hE (N12 a b) (refAlu_nd_32 12 (by decide) (by decide) a b ((a % 2 ^ 32 - 0 * 2 ^ 32) / 2 ^ shk 32 b) w (fun w P Q ha hb => joined_12 32 (.inl rfl) P Q a b w ha hb))
theorem ra_t_13 (a b : Int) (w : World) (hE : aluE 13 true b = 0) : Calls Try.prog 28 #[.int .i64 13, .bool true, .int .i64 a, .int .i64 b] w (AluPost w 13 true a b) :=
  fin32 hE (N13 a b) (refAlu_nd_32 13 (by decide) (by decide) a b ((a % 2 ^ 32 - (a / 2 ^ (32 - 1) % 2) * 2 ^ 32) / 2 ^ shk 32 b) w (fun w P Q ha hb => joined_13 32 (.inl rfl) P Q a b w ha hb))
theorem ra_t_14 (a b : Int) (w : World) (hE : aluE 14 true b = 0) : Calls Try.prog 28 #[.int .i64 14, .bool true, .int .i64 a, .int .i64 b] w (AluPost w 14 true a b) :=
  fin32 hE (by rw [h_whole 14 a b (by decide), m_neg, w64_low]) (refAlu_nd_32 14 (by decide) (by decide) a b (-a) w (fun w P Q ha hb => joined_14 32 (.inl rfl) P Q a b w ha hb))
theorem ra_t_15 (a b : Int) (w : World) (hE : aluE 15 true b = 0) : Calls Try.prog 28 #[.int .i64 15, .bool true, .int .i64 a, .int .i64 b] w (AluPost w 15 true a b) :=
  fin32 hE (by rw [h_whole 15 a b (by decide), m_mov, w64_low]) (refAlu_nd_32 15 (by decide) (by decide) a b (b) w (fun w P Q ha hb => joined_15 32 (.inl rfl) P Q a b w ha hb))

theorem refAlu_any (op : Int) (n : Bool) (a b : Int) (w : World) : Calls Try.prog 28 #[.int .i64 op, .bool n, .int .i64 a, .int .i64 b] w (AluPost w op n a b) := by
  by_cases h : op < 1 ∨ 15 < op
  · have e := aluE_no h n b
    unfold AluPost
    rw [e, aluR_no (by rw [e]; decide)]
    exact refAlu_no op n a b h w
  · have hz : n = false → (dv op n b = 0 ↔ b % 2 ^ 64 = 0) := fun e => by rw [e, dv_f, u_m64]
    have hz' : n = true → 4 ≤ op ∧ op ≤ 7 → (dv op n b = 0 ↔ b % 2 ^ 32 = 0) := fun e h => by rw [e, dv_zero op b h, p32]
    by_cases h2 : (4 ≤ op ∧ op ≤ 7) ∧ dv op n b = 0
    · have e := aluE_zero h n b h2
      unfold AluPost
      rw [e, aluR_no (by rw [e]; decide)]
      cases n
      · exact refAlu_dz_64 op h2.1 a b ((hz rfl).1 h2.2) w
      · exact refAlu_dz_32 op h2.1 a b ((hz' rfl h2.1).1 h2.2) w
    · have e := aluE_ok h n b h2
      have hc : op = 1 ∨ op = 2 ∨ op = 3 ∨ op = 4 ∨ op = 5 ∨ op = 6 ∨ op = 7 ∨ op = 8 ∨ op = 9 ∨ op = 10 ∨ op = 11 ∨ op = 12 ∨ op = 13 ∨ op = 14 ∨ op = 15 := by omega
      have hd64 : n = false → 4 ≤ op → op ≤ 7 → 0 < b % 2 ^ 64 := fun e h3 h4 => by
        have h5 := Int.emod_nonneg b (Int.ne_of_gt (pow_pos' 64))
        have : b % 2 ^ 64 ≠ 0 := fun h6 => h2 ⟨⟨h3, h4⟩, (hz e).2 h6⟩
        omega
      have hd32 : n = true → 4 ≤ op → op ≤ 7 → 0 < b % 2 ^ 32 := fun e h3 h4 => by
        have h5 := Int.emod_nonneg b (Int.ne_of_gt (pow_pos' 32))
        have : b % 2 ^ 32 ≠ 0 := fun h6 => h2 ⟨⟨h3, h4⟩, (hz' e ⟨h3, h4⟩).2 h6⟩
        omega
      clear hz hz' h2 h
      cases n
      · rcases hc with rfl | rfl | rfl | rfl | rfl | rfl | rfl | rfl | rfl | rfl | rfl | rfl | rfl | rfl | rfl
        · exact ra_f_1 a b w e
        · exact ra_f_2 a b w e
        · exact ra_f_3 a b w e
        · exact ra_f_4 a b w e (hd64 rfl (by decide) (by decide))
        · exact ra_f_5 a b w e (hd64 rfl (by decide) (by decide))
        · exact ra_f_6 a b w e (hd64 rfl (by decide) (by decide))
        · exact ra_f_7 a b w e (hd64 rfl (by decide) (by decide))
        · exact ra_f_8 a b w e
        · exact ra_f_9 a b w e
        · exact ra_f_10 a b w e
        · exact ra_f_11 a b w e
        · exact ra_f_12 a b w e
        · exact ra_f_13 a b w e
        · exact ra_f_14 a b w e
        · exact ra_f_15 a b w e
      · rcases hc with rfl | rfl | rfl | rfl | rfl | rfl | rfl | rfl | rfl | rfl | rfl | rfl | rfl | rfl | rfl
        · exact ra_t_1 a b w e
        · exact ra_t_2 a b w e
        · exact ra_t_3 a b w e
        · exact ra_t_4 a b w e (hd32 rfl (by decide) (by decide))
        · exact ra_t_5 a b w e (hd32 rfl (by decide) (by decide))
        · exact ra_t_6 a b w e (hd32 rfl (by decide) (by decide))
        · exact ra_t_7 a b w e (hd32 rfl (by decide) (by decide))
        · exact ra_t_8 a b w e
        · exact ra_t_9 a b w e
        · exact ra_t_10 a b w e
        · exact ra_t_11 a b w e
        · exact ra_t_12 a b w e
        · exact ra_t_13 a b w e
        · exact ra_t_14 a b w e
        · exact ra_t_15 a b w e

theorem aluE_rng (op : Int) (n : Bool) (b : Int) : 0 ≤ aluE op n b ∧ aluE op n b ≤ 100 := by
  unfold aluE
  split
  · decide
  · split <;> decide

end Go.Proofs.Ytjhgjplhhhgfcaa
/- What 64 bits make of numbers between the ends lies in the first row's answer. Plain mathematics. -/
namespace Go.Proofs.Ytjhgjplhhhgfcaa
open Go.ChangeShapes Go.WideShapes Go.ChangeAt Go.RowKit
open Bits Spn
namespace Spc
set_option linter.unusedVariables false
set_option maxRecDepth 100000
theorem first_cons {l : Rw} {ls : List Rw} {s t : Int} {a b r : E} (h : firstX (l :: ls) s t a b = some r) :
    (tells s l.a = true ∧ tells t l.b = true ∧ l.j a b = some r) ∨ firstX ls s t a b = some r := by
  rw [firstX] at h
  split at h
  · rename_i hc
    rw [Bool.and_eq_true] at hc
    split at h
    · rename_i u e
      exact .inl ⟨hc.1, hc.2, by rw [e]; exact h⟩
    · exact .inr h
  · exact .inr h
theorem first_nil {s t : Int} {a b r : E} (h : firstX [] s t a b = some r) : False := by rw [firstX] at h; cases h
theorem nat_of {r : E} (h : r.ok) (ht : tells (sgX r) 1 = true) : 0 ≤ r.lo := by rw [tells_1 r h.1] at ht; exact of_decide_eq_true ht
theorem pos_of {r : E} (h : r.ok) (ht : tells (sgX r) 5 = true) : 0 < r.lo := by rw [tells_5 r h.1] at ht; exact of_decide_eq_true ht
theorem neg_of {r : E} (ht : tells (sgX r) 2 = true) : r.hi < 0 := by rw [tells_2 r] at ht; exact of_decide_eq_true ht
theorem apart_of {r : E} (ht : tells (sgX r) 4 = true) : 0 < r.lo ∨ r.hi < 0 := by rw [tells_4 r] at ht; exact of_decide_eq_true ht
theorem some_inj {a b : E} (h : some a = some b) : a = b := Option.some.inj h
theorem good_of {r : E} {v : Int} (h0 : LEAST ≤ r.lo) (h1 : r.lo ≤ v) (h2 : v ≤ r.hi) (h3 : r.hi ≤ TOP) : Spn.Good r v := ⟨⟨Int.le_trans h1 h2, h0, h3⟩, h1, h2⟩
theorem good_eq {r : E} {v w : Int} (h : Spn.Good r w) (e : v = w) : Spn.Good r v := by rw [e]; exact h
theorem least_0 : LEAST ≤ 0 := by decide
theorem good_self {a : E} {x : Int} (ha : a.ok) (hx : a.has x) : Spn.Good a x := ⟨ha, hx⟩
theorem ediv_anti {z c d : Int} (hz : 0 ≤ z) (hc : 0 < c) (h : c ≤ d) : z / d ≤ z / c := by
  have := tdiv_anti hz hc h
  rwa [Int.tdiv_eq_ediv_of_nonneg hz, Int.tdiv_eq_ediv_of_nonneg hz] at this
/-! ### quotients and rests -/
theorem V4 (x y : Int) : aluV 4 false x y = wrap64 (x % 18446744073709551616 / (y % 18446744073709551616)) := by rw [← W4, p64]
theorem V5 (x y : Int) : aluV 5 false x y = wrap64 (x % 18446744073709551616 % (y % 18446744073709551616)) := by rw [← W5, p64]
theorem sx_self {x : Int} (h : I64 x) : sx 64 x = x := by rw [sx64_w]; exact w64_id h
theorem V6 {x y : Int} (hx : I64 x) (hy : I64 y) : aluV 6 false x y = wrap64 (x.tdiv y) := by rw [← W6, sx_self hx, sx_self hy]
theorem V7 {x y : Int} (hx : I64 x) (hy : I64 y) : aluV 7 false x y = wrap64 (x.tmod y) := by rw [← W7, sx_self hx, sx_self hy]
theorem u_pos {x : Int} (h : I64 x) (h0 : 0 ≤ x) : x % 18446744073709551616 = x := by unfold I64 TOP at h; omega
theorem u_neg {x : Int} (h : I64 x) (h0 : x < 0) : x % 18446744073709551616 = x + 18446744073709551616 := by unfold I64 LEAST at h; omega
theorem row_div1 {a b r : E} {x y : Int} (h : cornX quotX a b = some r) (ha : a.ok) (hb : b.ok) (h1 : 0 ≤ a.lo) (h2 : 0 < b.lo) (hx : a.has x) (hy : b.has y) : Spn.Good r (aluV 4 false x y) := by
  have x0 : 0 ≤ x := Int.le_trans h1 hx.1
  have y0 : 0 < y := Int.lt_of_lt_of_le h2 hy.1
  rw [V4, u_pos (has64 ha hx) x0, u_pos (has64 hb hy) (Int.le_of_lt y0), ← Int.tdiv_eq_ediv_of_nonneg x0]
  exact (g_quot h (.inl h2) hx hy).wrap
theorem row_div2 {a b r : E} {x y : Int} (h : sharesX a b = some r) (hb : b.ok) (hy : b.has y) : Spn.Good r (aluV 4 false x y) := by
  unfold sharesX at h
  split at h
  · cases h
  · rename_i hl
    have e := some_inj h
    subst e
    have y0 : 2 ≤ y := Int.le_trans (by omega) hy.1
    rw [V4, u_pos (has64 hb hy) (by omega)]
    have u0 : 0 ≤ x % 18446744073709551616 := by omega
    have u1 : x % 18446744073709551616 ≤ 18446744073709551615 := by omega
    generalize x % 18446744073709551616 = u at *
    have k1 : u / y ≤ 18446744073709551615 / y := Int.ediv_le_ediv (by omega) u1
    have k2 : (18446744073709551615 : Int) / y ≤ 18446744073709551615 / b.lo := ediv_anti (by decide) (by omega) hy.1
    have k3 : (18446744073709551615 : Int) / b.lo < 9223372036854775808 := Int.ediv_lt_of_lt_mul (by omega) (by omega)
    have k0 : 0 ≤ u / y := Int.ediv_nonneg u0 (by omega)
    exact Spn.Good.wrap (good_of (by unfold LEAST; show _ ≤ (0 : Int); omega) k0 (Int.le_trans k1 k2) (by unfold TOP; show (18446744073709551615 : Int) / b.lo ≤ _; omega))
theorem row_div3 {b : E} {x y : Int} (hb : b.ok) (hn : b.hi < 0) (hy : b.has y) : Spn.Good ⟨0, 1⟩ (aluV 4 false x y) := by
  have y0 : y < 0 := Int.lt_of_le_of_lt hy.2 hn
  have iy := has64 hb hy
  rw [V4, u_neg iy y0]
  unfold I64 LEAST at iy
  have u0 : 0 ≤ x % 18446744073709551616 := by omega
  have u1 : x % 18446744073709551616 ≤ 18446744073709551615 := by omega
  generalize x % 18446744073709551616 = u at *
  have k0 : 0 ≤ u / (y + 18446744073709551616) := Int.ediv_nonneg u0 (by omega)
  have k1 : u / (y + 18446744073709551616) < 2 := Int.ediv_lt_of_lt_mul (by omega) (by omega)
  exact Spn.Good.wrap (good_of least_0 k0 (by show _ ≤ (1 : Int); omega) (by decide))
theorem row_mod1 {a b : E} {x y : Int} (ha : a.ok) (hb : b.ok) (h1 : 0 ≤ a.lo) (hn : b.hi < 0) (hx : a.has x) (hy : b.has y) : Spn.Good a (aluV 5 false x y) := by
  have x0 : 0 ≤ x := Int.le_trans h1 hx.1
  have y0 : y < 0 := Int.lt_of_le_of_lt hy.2 hn
  have ix := has64 ha hx
  have iy := has64 hb hy
  rw [V5, u_pos ix x0, u_neg iy y0]
  unfold I64 LEAST TOP at ix iy
  rw [Int.emod_eq_of_lt x0 (by omega)]
  exact (good_self ha hx).wrap
theorem row_mod2 {a b : E} {x y : Int} (ha : a.ok) (hb : b.ok) (h1 : 0 ≤ a.lo) (hl : a.hi < b.lo) (hx : a.has x) (hy : b.has y) : Spn.Good a (aluV 5 false x y) := by
  have x0 : 0 ≤ x := Int.le_trans h1 hx.1
  have hxy : x < y := Int.lt_of_le_of_lt hx.2 (Int.lt_of_lt_of_le hl hy.1)
  rw [V5, u_pos (has64 ha hx) x0, u_pos (has64 hb hy) (by omega), Int.emod_eq_of_lt x0 hxy]
  exact (good_self ha hx).wrap
theorem row_mod3 {a b : E} {x y : Int} (ha : a.ok) (hb : b.ok) (h1 : 0 ≤ a.lo) (h2 : 0 < b.lo) (hx : a.has x) (hy : b.has y) : Spn.Good ⟨0, min a.hi (b.hi - 1)⟩ (aluV 5 false x y) := by
  have x0 : 0 ≤ x := Int.le_trans h1 hx.1
  have y0 : 0 < y := Int.lt_of_lt_of_le h2 hy.1
  rw [V5, u_pos (has64 ha hx) x0, u_pos (has64 hb hy) (Int.le_of_lt y0)]
  have k0 := Int.emod_nonneg x (show y ≠ 0 by omega)
  have k1 := Int.emod_lt_of_pos x y0
  have k2 : x % y ≤ x := by
    rcases Int.lt_or_le x y with g | g
    · rw [Int.emod_eq_of_lt x0 g]; exact Int.le_refl _
    · omega
  have k3 := hx.2
  have k4 := hy.2
  have k5 := ha.2.2
  exact Spn.Good.wrap (good_of least_0 k0 (by show _ ≤ min a.hi (b.hi - 1); omega) (by show min a.hi (b.hi - 1) ≤ _; omega))
theorem row_mod4 {b : E} {x y : Int} (hb : b.ok) (h2 : 0 < b.lo) (hy : b.has y) : Spn.Good ⟨0, b.hi - 1⟩ (aluV 5 false x y) := by
  have y0 : 0 < y := Int.lt_of_lt_of_le h2 hy.1
  rw [V5, u_pos (has64 hb hy) (Int.le_of_lt y0)]
  generalize x % 18446744073709551616 = u
  have k0 := Int.emod_nonneg u (show y ≠ 0 by omega)
  have k1 := Int.emod_lt_of_pos u y0
  have k4 := hy.2
  have k5 := hb.2.2
  exact Spn.Good.wrap (good_of least_0 k0 (by show _ ≤ b.hi - 1; omega) (by show b.hi - 1 ≤ _; omega))
theorem tmod_up {x y : Int} (x0 : 0 ≤ x) (hy : y ≠ 0) : 0 ≤ x.tmod y ∧ x.tmod y ≤ x ∧ x.tmod y ≤ max y (-y) - 1 := by
  have key : ∀ z : Int, 0 < z → 0 ≤ x % z ∧ x % z ≤ x ∧ x % z ≤ z - 1 := fun z hz => by
    have k0 := Int.emod_nonneg x (show z ≠ 0 by omega)
    have k1 := Int.emod_lt_of_pos x hz
    rcases Int.lt_or_le x z with g | g
    · rw [Int.emod_eq_of_lt x0 g] at *; omega
    · omega
  rw [Int.tmod_eq_emod_of_nonneg x0]
  rcases Int.lt_or_gt_of_ne hy with h | h
  · have := key (-y) (by omega)
    rw [Int.emod_neg] at this
    omega
  · have := key y h
    omega
theorem tmod_down {x y : Int} (x0 : x ≤ 0) (hy : y ≠ 0) : x.tmod y ≤ 0 ∧ x ≤ x.tmod y ∧ -(max y (-y) - 1) ≤ x.tmod y := by
  have h := tmod_up (x := -x) (y := y) (by omega) hy
  rw [Int.neg_tmod] at h
  omega
theorem row_rest {a b r : E} {x y : Int} (h : restX a b = some r) (ha : a.ok) (hb : b.ok) (h2 : 0 < b.lo ∨ b.hi < 0) (hx : a.has x) (hy : b.has y) : Spn.Good r (aluV 7 false x y) := by
  rw [V7 (has64 ha hx) (has64 hb hy)]
  have e := some_inj h
  subst e
  obtain ⟨x1, x2⟩ := hx
  obtain ⟨y1, y2⟩ := hy
  obtain ⟨-, a1, a2⟩ := ha
  have y0 : y ≠ 0 := by omega
  refine Spn.Good.wrap ?_
  rcases Int.le_total 0 x with x0 | x0
  · obtain ⟨t1, t2, t3⟩ := tmod_up x0 y0
    generalize x.tmod y = t at *
    unfold LEAST TOP at *
    refine good_of ?_ ?_ ?_ ?_
    · show _ ≤ min 0 (max (-max (b.hi - 1) (-(b.lo + 1))) a.lo); unfold LEAST; omega
    · show min 0 (max (-max (b.hi - 1) (-(b.lo + 1))) a.lo) ≤ t; omega
    · show t ≤ max 0 (min (max (b.hi - 1) (-(b.lo + 1))) a.hi); omega
    · show max 0 (min (max (b.hi - 1) (-(b.lo + 1))) a.hi) ≤ _; unfold TOP; omega
  · obtain ⟨t1, t2, t3⟩ := tmod_down x0 y0
    generalize x.tmod y = t at *
    unfold LEAST TOP at *
    refine good_of ?_ ?_ ?_ ?_
    · show _ ≤ min 0 (max (-max (b.hi - 1) (-(b.lo + 1))) a.lo); unfold LEAST; omega
    · show min 0 (max (-max (b.hi - 1) (-(b.lo + 1))) a.lo) ≤ t; omega
    · show t ≤ max 0 (min (max (b.hi - 1) (-(b.lo + 1))) a.hi); omega
    · show max 0 (min (max (b.hi - 1) (-(b.lo + 1))) a.hi) ≤ _; unfold TOP; omega
/-! ### bit by bit -/
theorem un_of {x : Int} (h : I64 x) : ∃ m : Nat, IntKind.u64.wrap x = m ∧ m < 18446744073709551616 ∧ (0 ≤ x → (m : Int) = x) ∧ (x < 0 → (m : Int) = x + 18446744073709551616) := by
  obtain ⟨m, e, hm⟩ := un_lt' x
  refine ⟨m, e, hm, fun h0 => ?_, fun h0 => ?_⟩
  · rw [← e, IntKind.wrap_u64]; exact u_pos h h0
  · rw [← e, IntKind.wrap_u64]; exact u_neg h h0
theorem and_v {x y : Int} {m n : Nat} (e1 : IntKind.u64.wrap x = m) (e2 : IntKind.u64.wrap y = n) (h1 : m < 18446744073709551616) (h2 : n < 18446744073709551616) : aluV 9 false x y = wrap64 ((m &&& n : Nat) : Int) := by rw [m_and, e1, e2, u64_and_nat m n h1 h2]
theorem or_v {x y : Int} {m n : Nat} (e1 : IntKind.u64.wrap x = m) (e2 : IntKind.u64.wrap y = n) (h1 : m < 18446744073709551616) (h2 : n < 18446744073709551616) : aluV 8 false x y = wrap64 ((m ||| n : Nat) : Int) := by rw [m_or, e1, e2, u64_or_nat m n h1 h2]
theorem xor_v {x y : Int} {m n : Nat} (e1 : IntKind.u64.wrap x = m) (e2 : IntKind.u64.wrap y = n) (h1 : m < 18446744073709551616) (h2 : n < 18446744073709551616) : aluV 10 false x y = wrap64 ((m ^^^ n : Nat) : Int) := by rw [m_xor, e1, e2, u64_xor_nat m n h1 h2]
theorem row_and1 {a b : E} {x y : Int} (ha : a.ok) (hb : b.ok) (h1 : 0 ≤ a.lo) (h2 : 0 ≤ b.lo) (hx : a.has x) (hy : b.has y) : Spn.Good ⟨0, min a.hi b.hi⟩ (aluV 9 false x y) := by
  obtain ⟨m, e1, m1, mp, -⟩ := un_of (has64 ha hx)
  obtain ⟨n, e2, n1, np, -⟩ := un_of (has64 hb hy)
  rw [and_v e1 e2 m1 n1]
  have k1 : m &&& n ≤ m := Nat.and_le_left
  have k2 : m &&& n ≤ n := Nat.and_le_right
  have k3 := mp (Int.le_trans h1 hx.1)
  have k4 := np (Int.le_trans h2 hy.1)
  generalize m &&& n = z at *
  have k5 := hx.2
  have k6 := hy.2
  have k7 := ha.2.2
  exact Spn.Good.wrap (good_of least_0 (by show (0 : Int) ≤ z; omega) (by show (z : Int) ≤ min a.hi b.hi; omega) (by show min a.hi b.hi ≤ _; omega))
theorem row_and2 {a b : E} {x y : Int} (ha : a.ok) (hb : b.ok) (h1 : 0 ≤ a.lo) (hx : a.has x) (hy : b.has y) : Spn.Good ⟨0, a.hi⟩ (aluV 9 false x y) := by
  obtain ⟨m, e1, m1, mp, -⟩ := un_of (has64 ha hx)
  obtain ⟨n, e2, n1, -, -⟩ := un_of (has64 hb hy)
  rw [and_v e1 e2 m1 n1]
  have k1 : m &&& n ≤ m := Nat.and_le_left
  have k3 := mp (Int.le_trans h1 hx.1)
  generalize m &&& n = z at *
  have k5 := hx.2
  exact Spn.Good.wrap (good_of least_0 (by show (0 : Int) ≤ z; omega) (by show (z : Int) ≤ a.hi; omega) ha.2.2)
theorem row_and3 {a b : E} {x y : Int} (ha : a.ok) (hb : b.ok) (h2 : 0 ≤ b.lo) (hx : a.has x) (hy : b.has y) : Spn.Good ⟨0, b.hi⟩ (aluV 9 false x y) := by
  obtain ⟨m, e1, m1, -, -⟩ := un_of (has64 ha hx)
  obtain ⟨n, e2, n1, np, -⟩ := un_of (has64 hb hy)
  rw [and_v e1 e2 m1 n1]
  have k1 : m &&& n ≤ n := Nat.and_le_right
  have k3 := np (Int.le_trans h2 hy.1)
  generalize m &&& n = z at *
  have k5 := hy.2
  exact Spn.Good.wrap (good_of least_0 (by show (0 : Int) ≤ z; omega) (by show (z : Int) ≤ b.hi; omega) hb.2.2)
theorem and_top {m n : Nat} (hm : 9223372036854775808 ≤ m) (m1 : m < 18446744073709551616) (hn : 9223372036854775808 ≤ n) (n1 : n < 18446744073709551616) : 9223372036854775808 ≤ m &&& n := by
  have h := @Nat.and_div_two_pow m n 63
  rw [show m / 2 ^ 63 = 1 by omega, show n / 2 ^ 63 = 1 by omega, show (1 &&& 1 : Nat) = 1 from rfl] at h
  omega
theorem w64_high {z : Int} (h0 : 9223372036854775808 ≤ z) (h1 : z < 18446744073709551616) : wrap64 z = z - 18446744073709551616 := by unfold wrap64; omega
theorem high_least {z : Int} (h0 : 9223372036854775808 ≤ z) : LEAST ≤ z - 18446744073709551616 := by unfold LEAST; omega
theorem row_and4 {a b : E} {x y : Int} (ha : a.ok) (hb : b.ok) (h1 : a.hi < 0) (h2 : b.hi < 0) (hx : a.has x) (hy : b.has y) : Spn.Good ⟨LEAST, min a.hi b.hi⟩ (aluV 9 false x y) := by
  have ix := has64 ha hx
  have iy := has64 hb hy
  obtain ⟨m, e1, m1, -, mp⟩ := un_of ix
  obtain ⟨n, e2, n1, -, np⟩ := un_of iy
  rw [and_v e1 e2 m1 n1]
  have k3 := mp (Int.lt_of_le_of_lt hx.2 h1)
  have k4 := np (Int.lt_of_le_of_lt hy.2 h2)
  unfold I64 LEAST at ix iy
  have k0 := and_top (m := m) (n := n) (by omega) m1 (by omega) n1
  have k1 : m &&& n ≤ m := Nat.and_le_left
  have k2 : m &&& n ≤ n := Nat.and_le_right
  generalize m &&& n = z at *
  have k5 := hx.2
  have k6 := hy.2
  have z1 : (9223372036854775808 : Int) ≤ z := by omega
  have z2 : (z : Int) < 18446744073709551616 := by omega
  have r2 : (z : Int) - 18446744073709551616 ≤ min a.hi b.hi := by omega
  have r3 : min a.hi b.hi ≤ TOP := Int.le_trans (Int.min_le_left _ _) ha.2.2
  have e : wrap64 (z : Int) = z - 18446744073709551616 := w64_high z1 z2
  have r1 : LEAST ≤ (z : Int) - 18446744073709551616 := high_least z1
  exact good_eq (good_of (r := ⟨LEAST, min a.hi b.hi⟩) (v := (z : Int) - 18446744073709551616) (Int.le_refl LEAST) r1 r2 r3) e
theorem lt_len : ∀ (f x : Nat), x < 2 ^ f → f ≤ 64 → x < 2 ^ Go.Lib.bitLen x := by
  intro f
  induction f with
  | zero =>
    intro x h _
    have : x = 0 := by omega
    subst this
    exact Nat.lt_of_lt_of_le (by decide) (Nat.pow_pos (by decide))
  | succ f ih =>
    intro x h hf
    by_cases h0 : x = 0
    · subst h0
      exact Nat.pow_pos (by decide)
    · have h64 : x < 2 ^ 64 := Nat.lt_of_lt_of_le h (Nat.pow_le_pow_right (by decide) hf)
      rw [Go.Lib.bitLen_half x h0 h64]
      have := ih (x / 2) (by rw [Nat.pow_succ] at h; omega) (by omega)
      rw [Nat.pow_add, Nat.pow_one]
      omega
theorem fill_ge {A B x y : Int} (hA : 0 ≤ A ∧ A ≤ TOP) (hB : 0 ≤ B ∧ B ≤ TOP) (hx : 0 ≤ x ∧ x ≤ A) (hy : 0 ≤ y ∧ y ≤ B) : ∃ k : Nat, k ≤ 63 ∧ fillX A B = 2 ^ k - 1 ∧ x.toNat < 2 ^ k ∧ y.toNat < 2 ^ k := by
  unfold TOP at hA hB
  have o1 : A.toNat ≤ A.toNat ||| B.toNat := Nat.left_le_or
  have o2 : B.toNat ≤ A.toNat ||| B.toNat := Nat.right_le_or
  have o3 : A.toNat ||| B.toNat < 2 ^ 63 := Nat.or_lt_two_pow (by omega) (by omega)
  have o4 := lt_len 63 _ o3 (by decide)
  have o5 := Go.Lib.bitLen_le _ 63 (by decide) o3
  refine ⟨Go.Lib.bitLen (A.toNat ||| B.toNat), o5, rfl, ?_, ?_⟩
  · generalize 2 ^ Go.Lib.bitLen (A.toNat ||| B.toNat) = K at *; omega
  · generalize 2 ^ Go.Lib.bitLen (A.toNat ||| B.toNat) = K at *; omega
theorem pow_63 {k : Nat} (h : k ≤ 63) : (2 : Int) ^ k ≤ 9223372036854775808 := pow2_le h
theorem row_or1 {a b : E} {x y : Int} (ha : a.ok) (hb : b.ok) (h1 : 0 ≤ a.lo) (h2 : 0 ≤ b.lo) (hx : a.has x) (hy : b.has y) : Spn.Good ⟨max a.lo b.lo, fillX a.hi b.hi⟩ (aluV 8 false x y) := by
  have x0 := Int.le_trans h1 hx.1
  have y0 := Int.le_trans h2 hy.1
  obtain ⟨m, e1, m1, mp, -⟩ := un_of (has64 ha hx)
  obtain ⟨n, e2, n1, np, -⟩ := un_of (has64 hb hy)
  rw [or_v e1 e2 m1 n1]
  have k3 := mp x0
  have k4 := np y0
  obtain ⟨k, hk, ef, f1, f2⟩ := fill_ge (A := a.hi) (B := b.hi) (x := x) (y := y) ⟨Int.le_trans x0 hx.2, ha.2.2⟩ ⟨Int.le_trans y0 hy.2, hb.2.2⟩ ⟨x0, hx.2⟩ ⟨y0, hy.2⟩
  rw [ef]
  have o1 : m ≤ m ||| n := Nat.left_le_or
  have o2 : n ≤ m ||| n := Nat.right_le_or
  have o3 : m ||| n < 2 ^ k := Nat.or_lt_two_pow (by omega) (by omega)
  have o4 : (((2 ^ k : Nat)) : Int) = 2 ^ k := by simp
  have o5 := pow_63 hk
  have k5 := hx.1
  have k6 := hy.1
  have k7 := ha.2.1
  generalize m ||| n = z at *
  rw [← o4] at *
  generalize 2 ^ k = K at *
  refine Spn.Good.wrap (good_of ?_ ?_ ?_ ?_)
  · show _ ≤ max a.lo b.lo; omega
  · show max a.lo b.lo ≤ (z : Int); omega
  · show (z : Int) ≤ (K : Int) - 1; omega
  · show (K : Int) - 1 ≤ _; unfold TOP; omega
theorem row_xor {a b : E} {x y : Int} (ha : a.ok) (hb : b.ok) (h1 : 0 ≤ a.lo) (h2 : 0 ≤ b.lo) (hx : a.has x) (hy : b.has y) : Spn.Good ⟨0, fillX a.hi b.hi⟩ (aluV 10 false x y) := by
  have x0 := Int.le_trans h1 hx.1
  have y0 := Int.le_trans h2 hy.1
  obtain ⟨m, e1, m1, mp, -⟩ := un_of (has64 ha hx)
  obtain ⟨n, e2, n1, np, -⟩ := un_of (has64 hb hy)
  rw [xor_v e1 e2 m1 n1]
  have k3 := mp x0
  have k4 := np y0
  obtain ⟨k, hk, ef, f1, f2⟩ := fill_ge (A := a.hi) (B := b.hi) (x := x) (y := y) ⟨Int.le_trans x0 hx.2, ha.2.2⟩ ⟨Int.le_trans y0 hy.2, hb.2.2⟩ ⟨x0, hx.2⟩ ⟨y0, hy.2⟩
  rw [ef]
  have o3 : m ^^^ n < 2 ^ k := Nat.xor_lt_two_pow (by omega) (by omega)
  have o4 : (((2 ^ k : Nat)) : Int) = 2 ^ k := by simp
  have o5 := pow_63 hk
  generalize m ^^^ n = z at *
  rw [← o4] at *
  generalize 2 ^ k = K at *
  refine Spn.Good.wrap (good_of least_0 ?_ ?_ ?_)
  · show (0 : Int) ≤ (z : Int); omega
  · show (z : Int) ≤ (K : Int) - 1; omega
  · show (K : Int) - 1 ≤ _; unfold TOP; omega
theorem or_neg {x y : Int} (ix : I64 x) (iy : I64 y) (h : x < 0 ∨ y < 0) : (x < 0 → x ≤ aluV 8 false x y) ∧ (y < 0 → y ≤ aluV 8 false x y) ∧ aluV 8 false x y ≤ -1 := by
  obtain ⟨m, e1, m1, -, mp⟩ := un_of ix
  obtain ⟨n, e2, n1, -, np⟩ := un_of iy
  rw [or_v e1 e2 m1 n1]
  have o1 : m ≤ m ||| n := Nat.left_le_or
  have o2 : n ≤ m ||| n := Nat.right_le_or
  have o3 : m ||| n < 2 ^ 64 := Nat.or_lt_two_pow (by omega) (by omega)
  generalize m ||| n = z at *
  unfold I64 LEAST at ix iy
  have hz : 9223372036854775808 ≤ z := by
    rcases h with h | h
    · have := mp h; omega
    · have := np h; omega
  have e : wrap64 (z : Int) = z - 18446744073709551616 := by unfold wrap64; omega
  rw [e]
  refine ⟨fun h => ?_, fun h => ?_, by omega⟩
  · have := mp h; omega
  · have := np h; omega
/-! ### shifts -/
theorem shk_of {y : Int} (h0 : 0 ≤ y) (h1 : y ≤ 63) : shk 64 y = y.toNat := by unfold shk; rw [Int.emod_eq_of_lt h0 (by omega)]
theorem row_left {a c r : E} {x y : Int} (h : cornX leftX a c = some r) (hs : 0 ≤ a.lo ∨ c.lo = c.hi) (h0 : 0 ≤ c.lo) (h1 : c.hi ≤ 63) (hx : a.has x) (hy : c.has y) : Spn.Good r (aluV 11 false x y) := by
  rw [← W11, shk_of (Int.le_trans h0 hy.1) (Int.le_trans hy.2 h1)]
  exact (g_left h hs hx hy).wrap
theorem V12 (x y : Int) : aluV 12 false x y = wrap64 (x % 18446744073709551616 / 2 ^ shk 64 y) := by rw [← W12, p64, Int.zero_mul, Int.sub_zero]
theorem row_right1 {a c r : E} {x y : Int} (h : cornX rightX a c = some r) (ha : a.ok) (hn : 0 ≤ a.lo) (h0 : 0 ≤ c.lo) (h1 : c.hi ≤ 63) (hx : a.has x) (hy : c.has y) : Spn.Good r (aluV 12 false x y) := by
  rw [V12, shk_of (Int.le_trans h0 hy.1) (Int.le_trans hy.2 h1), u_pos (has64 ha hx) (Int.le_trans hn hx.1)]
  exact (g_right h ha hx hy).wrap
theorem row_right2 {c : E} {x y : Int} (h0 : 0 < c.lo) (h1 : c.hi ≤ 63) (hy : c.has y) : Spn.Good ⟨0, 2 ^ (64 - c.lo).toNat - 1⟩ (aluV 12 false x y) := by
  obtain ⟨y1, y2⟩ := hy
  rw [V12, shk_of (by omega) (by omega)]
  have u0 : 0 ≤ x % 18446744073709551616 := by omega
  have u1 : x % 18446744073709551616 < 18446744073709551616 := by omega
  generalize x % 18446744073709551616 = u at *
  have hp := pow2_pos y.toNat
  have k0 : 0 ≤ u / 2 ^ y.toNat := Int.ediv_nonneg u0 (Int.le_of_lt hp)
  have e : (18446744073709551616 : Int) = 2 ^ (64 - c.lo).toNat * 2 ^ c.lo.toNat := by rw [pow_split (show (64 - c.lo).toNat + c.lo.toNat = 64 by omega)]; rfl
  have k1 : u / 2 ^ y.toNat < 2 ^ (64 - c.lo).toNat := by
    refine Int.ediv_lt_of_lt_mul hp ?_
    have : (2 : Int) ^ (64 - c.lo).toNat * 2 ^ c.lo.toNat ≤ 2 ^ (64 - c.lo).toNat * 2 ^ y.toNat := Int.mul_le_mul_of_nonneg_left (pow2_le (by omega)) (Int.le_of_lt (pow2_pos _))
    omega
  have k2 := pow_63 (k := (64 - c.lo).toNat) (by omega)
  generalize (2 : Int) ^ (64 - c.lo).toNat = K at *
  generalize u / 2 ^ y.toNat = z at *
  exact Spn.Good.wrap (good_of least_0 k0 (by show z ≤ K - 1; omega) (by show K - 1 ≤ _; unfold TOP; omega))
theorem V13 {x : Int} (hx : I64 x) (y : Int) : aluV 13 false x y = wrap64 (x / 2 ^ shk 64 y) := by rw [← W13, filled_sx x 64 (by decide), sx_self hx]
theorem row_arsh {a c r : E} {x y : Int} (h : cornX rightX a c = some r) (ha : a.ok) (h0 : 0 ≤ c.lo) (h1 : c.hi ≤ 63) (hx : a.has x) (hy : c.has y) : Spn.Good r (aluV 13 false x y) := by
  rw [V13 (has64 ha hx), shk_of (Int.le_trans h0 hy.1) (Int.le_trans hy.2 h1)]
  exact (g_right h ha hx hy).wrap
end Spc
end Go.Proofs.Ytjhgjplhhhgfcaa
/- What 64 bits make of numbers between the ends lies in the answer; wide. Plain mathematics. -/
namespace Go.Proofs.Ytjhgjplhhhgfcaa
open Go.ChangeShapes Go.WideShapes Go.ChangeAt Go.RowKit
open Bits Spn
namespace Spc
set_option linter.unusedVariables false
set_option maxRecDepth 100000
theorem m_or_no {op : Int} (h : rowsX op = []) {a b r : E} : ¬ answerX op a b = some r := by
  unfold answerX
  rw [h]
  exact fun h => first_nil h
theorem rows_no {op : Int} (h1 : op ≠ 1) (h2 : op ≠ 2) (h3 : op ≠ 3) (h4 : op ≠ 4) (h5 : op ≠ 5) (h6 : op ≠ 6) (h7 : op ≠ 7) (h8 : op ≠ 8) (h9 : op ≠ 9) (h10 : op ≠ 10) (h11 : op ≠ 11) (h12 : op ≠ 12) (h13 : op ≠ 13) (h15 : op ≠ 15) : rowsX op = [] := by
  unfold rowsX
  rw [if_neg h15, if_neg h1, if_neg h2, if_neg h3, if_neg h4, if_neg h5, if_neg h6, if_neg h7, if_neg h9, if_neg h8, if_neg h10, if_neg h11, if_neg h12, if_neg h13]
theorem a_good1 {p q r : E} {x y : Int} (h : answerX 1 p q = some r) (hx : p.has x) (hy : q.has y) : Spn.Good r (aluV 1 false x y) := by
  rcases first_cons h with ⟨-, -, h⟩ | h
  · rw [m_add]; exact (g_add h hx hy).wrap
  · exact (first_nil h).elim
theorem a_good2 {p q r : E} {x y : Int} (h : answerX 2 p q = some r) (hx : p.has x) (hy : q.has y) : Spn.Good r (aluV 2 false x y) := by
  rcases first_cons h with ⟨-, -, h⟩ | h
  · rw [m_sub]; exact (g_sub h hx hy).wrap
  · exact (first_nil h).elim
theorem a_good3 {p q r : E} {x y : Int} (h : answerX 3 p q = some r) (hx : p.has x) (hy : q.has y) : Spn.Good r (aluV 3 false x y) := by
  rcases first_cons h with ⟨-, -, h⟩ | h
  · rw [m_mul]; exact (g_mul h hx hy).wrap
  · exact (first_nil h).elim
theorem a_good15 {p q r : E} {x y : Int} (h : answerX 15 p q = some r) (hq : q.ok) (hy : q.has y) : Spn.Good r (aluV 15 false x y) := by
  rcases first_cons h with ⟨-, -, h⟩ | h
  · have e := some_inj h
    subst e
    rw [m_mov]; exact (good_self hq hy).wrap
  · exact (first_nil h).elim
theorem a_good4 {p q r : E} {x y : Int} (h : answerX 4 p q = some r) (hp : p.ok) (hq : q.ok) (hx : p.has x) (hy : q.has y) : Spn.Good r (aluV 4 false x y) := by
  rcases first_cons h with ⟨t1, t2, h⟩ | h
  · exact row_div1 h hp hq (nat_of hp t1) (pos_of hq t2) hx hy
  rcases first_cons h with ⟨t1, t2, h⟩ | h
  · exact row_div2 (a := p) h hq hy
  rcases first_cons h with ⟨t1, t2, h⟩ | h
  · have e := some_inj h
    subst e
    exact row_div3 hq (neg_of t2) hy
  · exact (first_nil h).elim
theorem a_good5 {p q r : E} {x y : Int} (h : answerX 5 p q = some r) (hp : p.ok) (hq : q.ok) (hx : p.has x) (hy : q.has y) : Spn.Good r (aluV 5 false x y) := by
  rcases first_cons h with ⟨t1, t2, h⟩ | h
  · have e := some_inj h
    subst e
    exact row_mod1 hp hq (nat_of hp t1) (neg_of t2) hx hy
  rcases first_cons h with ⟨t1, t2, h⟩ | h
  · have h' : (if p.hi < q.lo then some p else none) = some r := h
    split at h'
    · rename_i hl
      have e := some_inj h'
      subst e
      exact row_mod2 hp hq (nat_of hp t1) hl hx hy
    · cases h'
  rcases first_cons h with ⟨t1, t2, h⟩ | h
  · have e := some_inj h
    subst e
    exact row_mod3 hp hq (nat_of hp t1) (pos_of hq t2) hx hy
  rcases first_cons h with ⟨t1, t2, h⟩ | h
  · have e := some_inj h
    subst e
    exact row_mod4 hq (pos_of hq t2) hy
  · exact (first_nil h).elim
theorem a_good6 {p q r : E} {x y : Int} (h : answerX 6 p q = some r) (hp : p.ok) (hq : q.ok) (hx : p.has x) (hy : q.has y) : Spn.Good r (aluV 6 false x y) := by
  rcases first_cons h with ⟨t1, t2, h⟩ | h
  · rw [V6 (has64 hp hx) (has64 hq hy)]
    exact (g_quot h (apart_of t2) hx hy).wrap
  · exact (first_nil h).elim
theorem a_good7 {p q r : E} {x y : Int} (h : answerX 7 p q = some r) (hp : p.ok) (hq : q.ok) (hx : p.has x) (hy : q.has y) : Spn.Good r (aluV 7 false x y) := by
  rcases first_cons h with ⟨t1, t2, h⟩ | h
  · exact row_rest h hp hq (apart_of t2) hx hy
  · exact (first_nil h).elim
theorem a_good9 {p q r : E} {x y : Int} (h : answerX 9 p q = some r) (hp : p.ok) (hq : q.ok) (hx : p.has x) (hy : q.has y) : Spn.Good r (aluV 9 false x y) := by
  rcases first_cons h with ⟨t1, t2, h⟩ | h
  · have e := some_inj h
    subst e
    exact row_and1 hp hq (nat_of hp t1) (nat_of hq t2) hx hy
  rcases first_cons h with ⟨t1, t2, h⟩ | h
  · have e := some_inj h
    subst e
    exact row_and2 hp hq (nat_of hp t1) hx hy
  rcases first_cons h with ⟨t1, t2, h⟩ | h
  · have e := some_inj h
    subst e
    exact row_and3 hp hq (nat_of hq t2) hx hy
  rcases first_cons h with ⟨t1, t2, h⟩ | h
  · have e := some_inj h
    subst e
    exact row_and4 hp hq (neg_of t1) (neg_of t2) hx hy
  · exact (first_nil h).elim
theorem neg_1 : (-1 : Int) ≤ TOP := by decide
theorem a_good8 {p q r : E} {x y : Int} (h : answerX 8 p q = some r) (hp : p.ok) (hq : q.ok) (hx : p.has x) (hy : q.has y) : Spn.Good r (aluV 8 false x y) := by
  rcases first_cons h with ⟨t1, t2, h⟩ | h
  · have e := some_inj h
    subst e
    exact row_or1 hp hq (nat_of hp t1) (nat_of hq t2) hx hy
  rcases first_cons h with ⟨t1, t2, h⟩ | h
  · have e := some_inj h
    subst e
    have x0 : x < 0 := Int.lt_of_le_of_lt hx.2 (neg_of t1)
    have y0 : y < 0 := Int.lt_of_le_of_lt hy.2 (neg_of t2)
    obtain ⟨k1, k2, k3⟩ := or_neg (has64 hp hx) (has64 hq hy) (.inl x0)
    have k4 := Int.le_trans hx.1 (k1 x0)
    have k5 := Int.le_trans hy.1 (k2 y0)
    exact good_of (r := ⟨max p.lo q.lo, -1⟩) (Int.le_trans hp.2.1 (Int.le_max_left _ _)) (Int.max_le.2 ⟨k4, k5⟩) k3 neg_1
  rcases first_cons h with ⟨t1, t2, h⟩ | h
  · have e := some_inj h
    subst e
    have x0 : x < 0 := Int.lt_of_le_of_lt hx.2 (neg_of t1)
    obtain ⟨k1, k2, k3⟩ := or_neg (has64 hp hx) (has64 hq hy) (.inl x0)
    exact good_of (r := ⟨p.lo, -1⟩) hp.2.1 (Int.le_trans hx.1 (k1 x0)) k3 neg_1
  rcases first_cons h with ⟨t1, t2, h⟩ | h
  · have e := some_inj h
    subst e
    have y0 : y < 0 := Int.lt_of_le_of_lt hy.2 (neg_of t2)
    obtain ⟨k1, k2, k3⟩ := or_neg (has64 hp hx) (has64 hq hy) (.inr y0)
    exact good_of (r := ⟨q.lo, -1⟩) hq.2.1 (Int.le_trans hy.1 (k2 y0)) k3 neg_1
  · exact (first_nil h).elim
theorem a_good10 {p q r : E} {x y : Int} (h : answerX 10 p q = some r) (hp : p.ok) (hq : q.ok) (hx : p.has x) (hy : q.has y) : Spn.Good r (aluV 10 false x y) := by
  rcases first_cons h with ⟨t1, t2, h⟩ | h
  · have e := some_inj h
    subst e
    exact row_xor hp hq (nat_of hp t1) (nat_of hq t2) hx hy
  · exact (first_nil h).elim
theorem a_good11 {p q r : E} {x y : Int} (h : answerX 11 p q = some r) (hp : p.ok) (h0 : 0 ≤ q.lo) (h1 : q.hi ≤ 63) (hx : p.has x) (hy : q.has y) : Spn.Good r (aluV 11 false x y) := by
  rcases first_cons h with ⟨t1, t2, h⟩ | h
  · have h' : alikeX p q = some r := h
    unfold alikeX at h'
    split at h'
    · rename_i hs
      exact row_left h' (.inr hs) h0 h1 hx hy
    · cases h'
  rcases first_cons h with ⟨t1, t2, h⟩ | h
  · exact row_left h (.inl (nat_of hp t1)) h0 h1 hx hy
  · exact (first_nil h).elim
theorem a_good12 {p q r : E} {x y : Int} (h : answerX 12 p q = some r) (hp : p.ok) (hq : q.ok) (h0 : 0 ≤ q.lo) (h1 : q.hi ≤ 63) (hx : p.has x) (hy : q.has y) : Spn.Good r (aluV 12 false x y) := by
  rcases first_cons h with ⟨t1, t2, h⟩ | h
  · exact row_right1 h hp (nat_of hp t1) h0 h1 hx hy
  rcases first_cons h with ⟨t1, t2, h⟩ | h
  · have e := some_inj h
    subst e
    exact row_right2 (pos_of hq t2) h1 hy
  · exact (first_nil h).elim
theorem a_good13 {p q r : E} {x y : Int} (h : answerX 13 p q = some r) (hp : p.ok) (h0 : 0 ≤ q.lo) (h1 : q.hi ≤ 63) (hx : p.has x) (hy : q.has y) : Spn.Good r (aluV 13 false x y) := by
  rcases first_cons h with ⟨t1, t2, h⟩ | h
  · exact row_arsh h hp h0 h1 hx hy
  · exact (first_nil h).elim
/-- what 64 bits make of numbers between the ends is one of the answer's -/
theorem ans_good (op : Int) {p q r : E} {x y : Int} (h : answerX op p q = some r) (hp : p.ok) (hq : q.ok) (hc : (op = 11 ∨ op = 12 ∨ op = 13) → 0 ≤ q.lo ∧ q.hi ≤ 63) (hx : p.has x) (hy : q.has y) : Spn.Good r (aluV op false x y) := by
  by_cases h1 : op = 1
  · subst h1; exact a_good1 h hx hy
  by_cases h2 : op = 2
  · subst h2; exact a_good2 h hx hy
  by_cases h3 : op = 3
  · subst h3; exact a_good3 h hx hy
  by_cases h4 : op = 4
  · subst h4; exact a_good4 h hp hq hx hy
  by_cases h5 : op = 5
  · subst h5; exact a_good5 h hp hq hx hy
  by_cases h6 : op = 6
  · subst h6; exact a_good6 h hp hq hx hy
  by_cases h7 : op = 7
  · subst h7; exact a_good7 h hp hq hx hy
  by_cases h8 : op = 8
  · subst h8; exact a_good8 h hp hq hx hy
  by_cases h9 : op = 9
  · subst h9; exact a_good9 h hp hq hx hy
  by_cases h10 : op = 10
  · subst h10; exact a_good10 h hp hq hx hy
  by_cases h11 : op = 11
  · obtain ⟨c0, c1⟩ := hc (.inl h11); subst h11; exact a_good11 h hp c0 c1 hx hy
  by_cases h12 : op = 12
  · obtain ⟨c0, c1⟩ := hc (.inr (.inl h12)); subst h12; exact a_good12 h hp hq c0 c1 hx hy
  by_cases h13 : op = 13
  · obtain ⟨c0, c1⟩ := hc (.inr (.inr h13)); subst h13; exact a_good13 h hp c0 c1 hx hy
  by_cases h15 : op = 15
  · subst h15; exact a_good15 h hq hy
  exact absurd h (m_or_no (rows_no h1 h2 h3 h4 h5 h6 h7 h8 h9 h10 h11 h12 h13 h15))
theorem ok_has {p : E} (h : p.ok) : p.has p.lo := ⟨Int.le_refl _, h.1⟩
theorem ans_ok (op : Int) {p q r : E} (h : answerX op p q = some r) (hp : p.ok) (hq : q.ok) (hc : (op = 11 ∨ op = 12 ∨ op = 13) → 0 ≤ q.lo ∧ q.hi ≤ 63) : r.ok := (ans_good op h hp hq hc (ok_has hp) (ok_has hq)).1
/-! ### wide -/
theorem counts_has (b low : E) (h : Int) {y z : Int} (hh : 1 ≤ h) (hy : b.has y) (hz : low.has z) (e : z % h = y % h) : (countsX b low h).has (y % h) := by
  have k0 := Int.emod_nonneg y (show h ≠ 0 by omega)
  have k1 := Int.emod_lt_of_pos y (show 0 < h by omega)
  unfold countsX
  split
  · rename_i hs
    have e : y = b.lo := by have := hy.1; have := hy.2; omega
    rw [e]
    exact ⟨Int.le_refl _, Int.le_refl _⟩
  · split
    · rename_i hw
      unfold withinB at hw
      simp only [Bool.and_eq_true, decide_eq_true_eq] at hw
      obtain ⟨w1, w2⟩ := hw
      obtain ⟨z1, z2⟩ := hz
      have w1' : 0 ≤ low.lo := w1
      have w2' : low.hi ≤ h - 1 := w2
      rw [← e, Int.emod_eq_of_lt (by omega) (by omega)]
      exact ⟨z1, z2⟩
    · exact ⟨k0, by show y % h ≤ h - 1; omega⟩
theorem shk_mod (y : Int) : shk 64 (y % 64) = shk 64 y := by
  show ((y % 64) % 64).toNat = (y % 64).toNat
  rw [Int.emod_emod]
/-- what is done is done on the operands -/
theorem oper_v (op : Int) {x y : Int} (hx : I64 x) (hE : 1 ≤ op ∧ op ≤ 15) {a b c p q : E} {o : Int} (h : operX op a b c 0 = (o, p, q)) (ha : a.has x) (hb : b.has y) (hc : c.has (y % 64)) :
    ∃ x2 y2, p.has x2 ∧ q.has y2 ∧ aluV op false x y = aluV o false x2 y2 := by
  unfold operX at h
  split at h
  · rename_i hs
    injection h with e1 e2
    injection e2 with e2 e3
    subst e1 e2 e3
    refine ⟨x, y % 64, ha, hc, ?_⟩
    rcases hs with rfl | rfl | rfl
    · rw [← W11, ← W11, shk_mod]
    · rw [V12, V12, shk_mod]
    · rw [V13 hx, V13 hx, shk_mod]
  · split at h
    · rename_i h14
      injection h with e1 e2
      injection e2 with e2 e3
      subst e1 e2 e3 h14
      refine ⟨0, x, ⟨Int.le_refl _, Int.le_refl _⟩, ha, ?_⟩
      rw [m_neg, m_sub, Int.zero_sub]
    · injection h with e1 e2
      injection e2 with e2 e3
      subst e1 e2 e3
      exact ⟨x, y, ha, hb, rfl⟩
theorem wide_ok (op : Int) {a b : E} (ha : a.ok) (hb : b.ok) : (wideX op a b).ok := by
  obtain ⟨c0, c1, c2⟩ := counts_rng b b 64 hb (by decide) (by decide)
  unfold wideX
  rcases eo : operX op a b (countsX b b 64) 0 with ⟨o, p, q⟩
  obtain ⟨k1, k2, k3⟩ := oper_ok eo ha hb c0 c1 c2 (by decide)
  dsimp only
  cases e : answerX o p q with
  | none => exact allE_ok
  | some r => exact ans_ok o e k1 k2 k3
theorem all_has {v : Int} (h : I64 v) : allE.has v := h
theorem aluV_64 (op x y : Int) : I64 (aluV op false x y) := by rw [aluV_f]; exact w64_in _
theorem wide_has (op : Int) {a b : E} {x y : Int} (ha : a.ok) (hb : b.ok) (hE : 1 ≤ op ∧ op ≤ 15) (hx : a.has x) (hy : b.has y) : (wideX op a b).has (aluV op false x y) := by
  obtain ⟨c0, c1, c2⟩ := counts_rng b b 64 hb (by decide) (by decide)
  unfold wideX
  rcases eo : operX op a b (countsX b b 64) 0 with ⟨o, p, q⟩
  obtain ⟨k1, k2, k3⟩ := oper_ok eo ha hb c0 c1 c2 (by decide)
  obtain ⟨x2, y2, hp, hq, ev⟩ := oper_v op (has64 ha hx) hE eo hx hy (counts_has b b 64 (by decide) hy hy rfl)
  dsimp only
  cases e : answerX o p q with
  | none => exact all_has (aluV_64 _ _ _)
  | some r =>
    rw [ev]
    exact (ans_good o e k1 k2 k3 hp hq).2
end Spc
end Go.Proofs.Ytjhgjplhhhgfcaa
/- What 32 bits make of numbers between the ends lies in the answer; Alu whole. Plain mathematics. -/
namespace Go.Proofs.Ytjhgjplhhhgfcaa
open Go.ChangeShapes Go.WideShapes Go.ChangeAt Go.RowKit
open Bits Spn
namespace Spc
set_option linter.unusedVariables false
set_option maxRecDepth 100000
theorem halfE_ok : halfE.ok := ⟨by decide, by decide, by decide⟩
theorem half_ok (op : Int) {a b : E} (ha : a.ok) (hb : b.ok) : (halfX op a b).ok := by
  have ka := lowE_ok' a ha.1
  have kb := lowE_ok' b hb.1
  obtain ⟨c0, c1, c2⟩ := counts_rng b (lowE b) 32 kb (by decide) (by decide)
  unfold halfX
  rcases eo : operX op (lowE a) (lowE b) (countsX b (lowE b) 32) 4294967296 with ⟨o, p, q⟩
  have c2' : (countsX b (lowE b) 32).hi ≤ 63 := by omega
  obtain ⟨k1, k2, k3⟩ := oper_ok eo ka kb c0 c1 c2' (by decide)
  dsimp only
  split
  · exact halfE_ok
  · split
    · rename_i r e
      split
      · exact ans_ok (plainX o) e k1 k2 (fun h => k3 (plain_sh h))
      · exact halfE_ok
    · exact halfE_ok
theorem aluV_c (op : Int) {a a' b b' : Int} (ha : a % 4294967296 = a' % 4294967296) (h : b % 4294967296 = b' % 4294967296) : aluV op true a b = aluV op true a' b' := by
  rw [aluV_t, aluV_t, hv1_c op ha, hv2_c op h]
theorem low_low (x : Int) : x % 4294967296 = x % 4294967296 % 4294967296 := by omega
theorem v_whole (op : Int) (x y : Int) (h : (1 ≤ op ∧ op ≤ 3) ∨ (8 ≤ op ∧ op ≤ 10) ∨ (14 ≤ op ∧ op ≤ 15)) : aluV op true x y = aluV op false (x % 4294967296) (y % 4294967296) % 4294967296 := by
  rw [aluV_c op (low_low x) (low_low y)]
  exact h_whole op _ _ h
theorem low_64 (x : Int) : x % 4294967296 % 18446744073709551616 = x % 4294967296 := by omega
theorem v_div (x y : Int) : aluV 4 true x y = aluV 4 false (x % 4294967296) (y % 4294967296) % 4294967296 := by
  rw [V4, w64_low, low_64, low_64, ← N4, p32]
theorem v_mod (x y : Int) : aluV 5 true x y = aluV 5 false (x % 4294967296) (y % 4294967296) % 4294967296 := by
  rw [V5, w64_low, low_64, low_64, ← N5, p32]
theorem sx_nat {x : Int} (h : x % 4294967296 ≤ 2147483647) : sx 32 x = x % 4294967296 := by
  unfold sx
  rw [show (2 : Int) ^ 32 = 4294967296 from rfl, show (2 : Int) ^ (32 - 1) = 2147483648 from rfl]
  rw [if_pos (by omega)]
theorem v_sdiv {x y : Int} (hx : x % 4294967296 ≤ 2147483647) (hy : y % 4294967296 ≤ 2147483647) : aluV 6 true x y = aluV 4 false (x % 4294967296) (y % 4294967296) % 4294967296 := by
  rw [V4, w64_low, low_64, low_64, ← N6, sx_nat hx, sx_nat hy, Int.tdiv_eq_ediv_of_nonneg (by omega)]
theorem v_smod {x y : Int} (hx : x % 4294967296 ≤ 2147483647) (hy : y % 4294967296 ≤ 2147483647) : aluV 7 true x y = aluV 5 false (x % 4294967296) (y % 4294967296) % 4294967296 := by
  rw [V5, w64_low, low_64, low_64, ← N7, sx_nat hx, sx_nat hy, Int.tmod_eq_emod_of_nonneg (by omega)]
theorem shk_32 (y : Int) : shk 64 (y % 32) = shk 32 y := by
  show ((y % 32) % 64).toNat = (y % 32).toNat
  rw [Int.emod_eq_of_lt (by omega) (by omega)]
theorem mulmod (x K M : Int) : x * K % M = x % M * K % M := by
  have h1 := Int.mul_emod x K M
  have h2 := Int.mul_emod (x % M) K M
  rw [Int.emod_emod] at h2
  rw [h1, h2]
theorem v_lsh (x y : Int) : aluV 11 true x y = aluV 11 false (x % 4294967296) (y % 32) % 4294967296 := by
  rw [← W11, w64_low, shk_32, ← N11]
  exact mulmod _ _ _
theorem v_rsh (x y : Int) : aluV 12 true x y = aluV 12 false (x % 4294967296) (y % 32) % 4294967296 := by
  rw [V12, w64_low, shk_32, low_64, ← N12, p32, Int.zero_mul, Int.sub_zero]
theorem bit_31 {x : Int} (hx : x % 4294967296 ≤ 2147483647) : x / 2147483648 % 2 = 0 := by omega
theorem v_arsh {x : Int} (y : Int) (hx : x % 4294967296 ≤ 2147483647) : aluV 13 true x y = aluV 12 false (x % 4294967296) (y % 32) % 4294967296 := by
  rw [V12, w64_low, shk_32, low_64, ← N13, p32, show (2 : Int) ^ (32 - 1) = 2147483648 from rfl, bit_31 hx, Int.zero_mul, Int.sub_zero]
theorem v_neg (x y : Int) : aluV 14 true x y = aluV 2 false 4294967296 (x % 4294967296) % 4294967296 := by
  rw [h_neg, m_neg, m_sub, w64_low, w64_low]
  omega
theorem hi_of {p : E} {x : Int} (h : withinB p ⟨0, 2147483647⟩ = true) (hx : p.has x) : x ≤ 2147483647 := by
  unfold withinB at h
  simp only [Bool.and_eq_true, decide_eq_true_eq] at h
  exact Int.le_trans hx.2 h.2
theorem plain_13 : plainX 13 = 12 := by decide
theorem plain_6 : plainX 6 = 4 := by decide
theorem plain_7 : plainX 7 = 5 := by decide
theorem plain_no {o : Int} (h6 : o ≠ 6) (h7 : o ≠ 7) (h13 : o ≠ 13) : plainX o = o := by unfold plainX; rw [if_neg h6, if_neg h7, if_neg h13]
/-- what is done in 32 bits is done, signless, in 64 on the operands -/
theorem oper_h (op : Int) {x y : Int} (hE : 1 ≤ op ∧ op ≤ 15) {a b c p q : E} {o : Int} (h : operX op a b c 4294967296 = (o, p, q)) (ha : a.has (x % 4294967296)) (hb : b.has (y % 4294967296)) (hc : c.has (y % 32))
    (hn : plainX o = o ∨ (withinB p ⟨0, 2147483647⟩ = true ∧ withinB q ⟨0, 2147483647⟩ = true)) :
    ∃ x2 y2, p.has x2 ∧ q.has y2 ∧ aluV op true x y = aluV (plainX o) false x2 y2 % 4294967296 := by
  unfold operX at h
  split at h
  · rename_i hs
    injection h with e1 e2
    injection e2 with e2 e3
    subst e1 e2 e3
    refine ⟨x % 4294967296, y % 32, ha, hc, ?_⟩
    rcases hs with rfl | rfl | rfl
    · rw [plain_no (by decide) (by decide) (by decide)]; exact v_lsh x y
    · rw [plain_no (by decide) (by decide) (by decide)]; exact v_rsh x y
    · rw [plain_13] at hn ⊢
      exact v_arsh y (hi_of (hn.resolve_left (by decide)).1 ha)
  · rename_i hns
    split at h
    · rename_i h14
      injection h with e1 e2
      injection e2 with e2 e3
      subst e1 e2 e3 h14
      refine ⟨4294967296, x % 4294967296, ⟨Int.le_refl _, Int.le_refl _⟩, ha, ?_⟩
      rw [plain_no (by decide) (by decide) (by decide)]
      exact v_neg x y
    · rename_i hn14
      injection h with e1 e2
      injection e2 with e2 e3
      subst e1 e2 e3
      refine ⟨x % 4294967296, y % 4294967296, ha, hb, ?_⟩
      by_cases h4 : op = 4
      · subst h4; rw [plain_no (by decide) (by decide) (by decide)]; exact v_div x y
      by_cases h5 : op = 5
      · subst h5; rw [plain_no (by decide) (by decide) (by decide)]; exact v_mod x y
      by_cases h6 : op = 6
      · subst h6; rw [plain_6] at hn ⊢; obtain ⟨w1, w2⟩ := hn.resolve_left (by decide); exact v_sdiv (hi_of w1 ha) (hi_of w2 hb)
      by_cases h7 : op = 7
      · subst h7; rw [plain_7] at hn ⊢; obtain ⟨w1, w2⟩ := hn.resolve_left (by decide); exact v_smod (hi_of w1 ha) (hi_of w2 hb)
      rw [plain_no h6 h7 (by omega)]
      exact v_whole op x y (by omega)
theorem half_in {v : Int} : halfE.has (v % 4294967296) := ⟨by show (0 : Int) ≤ v % 4294967296; omega, by show v % 4294967296 ≤ 4294967295; omega⟩
theorem half_has (op : Int) {a b : E} {x y : Int} (ha : a.ok) (hb : b.ok) (hE : 1 ≤ op ∧ op ≤ 15) (hx : a.has x) (hy : b.has y) : (halfX op a b).has (aluV op true x y) := by
  have ka := lowE_ok' a ha.1
  have kb := lowE_ok' b hb.1
  obtain ⟨c0, c1, c2⟩ := counts_rng b (lowE b) 32 kb (by decide) (by decide)
  have hv : ∃ v, aluV op true x y = v % 4294967296 := ⟨_, aluV_t op x y⟩
  unfold halfX
  rcases eo : operX op (lowE a) (lowE b) (countsX b (lowE b) 32) 4294967296 with ⟨o, p, q⟩
  have c2' : (countsX b (lowE b) 32).hi ≤ 63 := by omega
  obtain ⟨k1, k2, k3⟩ := oper_ok eo ka kb c0 c1 c2' (by decide)
  have hh : halfE.has (aluV op true x y) := by
    obtain ⟨v, e⟩ := hv
    rw [e]
    exact half_in
  dsimp only
  split
  · exact hh
  · rename_i hno
    split
    · rename_i r e
      split
      · rename_i hw
        have hn : plainX o = o ∨ (withinB p ⟨0, 2147483647⟩ = true ∧ withinB q ⟨0, 2147483647⟩ = true) := by
          by_cases hp : plainX o = o
          · exact .inl hp
          · right
            cases w1 : withinB p ⟨0, 2147483647⟩ with
            | false => exact absurd ⟨hp, by rw [w1]; rfl⟩ hno
            | true =>
              cases w2 : withinB q ⟨0, 2147483647⟩ with
              | false => exact absurd ⟨hp, by rw [w1, w2]; rfl⟩ hno
              | true => exact ⟨rfl, rfl⟩
        obtain ⟨x2, y2, hp2, hq2, ev⟩ := oper_h op hE eo (lowE_has a hx) (lowE_has b hy) (counts_has b (lowE b) 32 (by decide) hy (lowE_has b hy) (by omega)) hn
        have hg := (ans_good (plainX o) e k1 k2 (fun h => k3 (plain_sh h)) hp2 hq2).2
        unfold withinB halfE at hw
        simp only [Bool.and_eq_true, decide_eq_true_eq] at hw
        rw [ev]
        generalize aluV (plainX o) false x2 y2 = z at *
        obtain ⟨g1, g2⟩ := hg
        have e2 : z % 4294967296 = z := Int.emod_eq_of_lt (by omega) (by omega)
        rw [e2]
        exact ⟨g1, g2⟩
      · exact hh
    · exact hh
/-! ### Alu whole -/
theorem aluR_mov' (n : Bool) (a b c : Int) (hE : aluE 15 n b = 0) : aluR 15 n a b = aluR 15 n c b := by
  rw [aluR_ok hE, aluR_ok hE]
  cases n
  · rw [aluV_f, aluV_f, wv_15, wv_15]
  · rw [aluV_t, aluV_t, wv_15, wv_15]
theorem aluE_neg' (n : Bool) (b : Int) : aluE 14 n b = 0 := aluE_nd n b (by decide) (by decide)
theorem aluR_neg' (n : Bool) (a b c : Int) : aluR 14 n a b = aluR 14 n a c := by
  rw [aluR_ok (aluE_neg' n b), aluR_ok (aluE_neg' n c)]
  cases n
  · rw [aluV_f, aluV_f, wv_14, wv_14]
  · rw [aluV_t, aluV_t, wv_14, wv_14]
theorem has_one {r : E} {v : Int} (h : r.lo = r.hi) (hv : r.has v) : r.lo = v := by
  have := hv.1
  have := hv.2
  omega
theorem sole_has {op : Int} {n : Bool} {a b : E} {x y v : Int} (h : soleX op n a b = some v) (hx : a.has x) (hy : b.has y) (hE : aluE op n y = 0) : v = aluR op n x y := by
  unfold soleX at h
  by_cases h15 : op = 15
  · subst h15
    rw [if_pos rfl, if_neg (show ¬ (15 : Int) = 14 by decide)] at h
    dsimp only at h
    split at h
    · rename_i hs
      rw [has_one hs.1 hy, if_pos hE] at h
      rw [← Option.some.inj h]
      exact aluR_mov' n y y x hE
    · cases h
  · rw [if_neg h15] at h
    by_cases h14 : op = 14
    · subst h14
      rw [if_pos rfl] at h
      dsimp only at h
      split at h
      · rename_i hs
        rw [has_one hs.1 hx, if_pos (aluE_neg' n x)] at h
        rw [← Option.some.inj h]
        exact aluR_neg' n x x y
      · cases h
    · rw [if_neg h14] at h
      dsimp only at h
      split at h
      · rename_i hs
        rw [has_one hs.1 hx, has_one hs.2 hy, if_pos hE] at h
        exact (Option.some.inj h).symm
      · cases h
theorem aluR_64 (op : Int) (n : Bool) (x y : Int) : I64 (aluR op n x y) := by
  unfold aluR
  split
  · cases n
    · exact aluV_64 op x y
    · rw [aluV_t]
      unfold I64 LEAST TOP
      omega
  · unfold I64 LEAST TOP
    omega
theorem sole_64 {op : Int} {n : Bool} {a b : E} {v : Int} (h : soleX op n a b = some v) : I64 v := by
  have key : ∀ p q : E, (if p.lo = p.hi ∧ q.lo = q.hi then (if aluE op n q.lo = 0 then some (aluR op n p.lo q.lo) else none) else none) = some v → I64 v := by
    intro p q h
    split at h
    · split at h
      · rw [← Option.some.inj h]; exact aluR_64 _ _ _ _
      · cases h
    · cases h
  exact key _ _ h
theorem aluE2_ok (op : Int) (n : Bool) {a b : E} (ha : a.ok) (hb : b.ok) : (aluE2 op n a b).ok := by
  unfold aluE2
  split
  · rename_i v e
    have := sole_64 e
    exact ⟨Int.le_refl _, this.1, this.2⟩
  · split
    · exact half_ok op ha hb
    · exact wide_ok op ha hb
theorem aluE_op {op : Int} {n : Bool} {y : Int} (h : aluE op n y = 0) : 1 ≤ op ∧ op ≤ 15 := by
  by_cases hop : op < 1 ∨ 15 < op
  · rw [aluE_no hop] at h; cases h
  · omega
theorem aluE2_has {op : Int} {n : Bool} {a b : E} {x y : Int} (ha : a.ok) (hb : b.ok) (hE : aluE op n y = 0) (hx : a.has x) (hy : b.has y) : (aluE2 op n a b).has (aluR op n x y) := by
  unfold aluE2
  split
  · rename_i v e
    have := sole_has e hx hy hE
    exact ⟨by show v ≤ _; omega, by show _ ≤ v; omega⟩
  · rw [aluR_ok hE]
    cases n
    · exact wide_has op ha hb (aluE_op hE) hx hy
    · exact half_has op ha hb (aluE_op hE) hx hy
theorem aluS_sound (op : Int) (n : Bool) (a b : Sp) : soundB (aluS op n a b) = true := sp_sound _ (aluE2_ok op n (rd_ok a) (rd_ok b)).1
theorem aluS_has {op : Int} {n : Bool} {a b : Sp} {x y : Int} (hE : aluE op n y = 0) (hx : (rd a).has x) (hy : (rd b).has y) : withinB ⟨aluR op n x y, aluR op n x y⟩ (rd (aluS op n a b)) = true := by
  have h : (rd (aluS op n a b)).has (aluR op n x y) := rd_sp_has _ (aluE2_ok op n (rd_ok a) (rd_ok b)) (aluE2_has (rd_ok a) (rd_ok b) hE hx hy)
  unfold withinB
  simp only [Bool.and_eq_true, decide_eq_true_eq]
  exact h
end Spc
end Go.Proofs.Ytjhgjplhhhgfcaa
/- SpanHolds: its walk. -/
namespace Go.Proofs.Ytjhgjplhhhgfcaa
open Go.ChangeShapes Go.WideShapes Go.ChangeAt Go.RowKit
open Spn Spc
set_option linter.unusedVariables false
set_option maxRecDepth 100000
theorem within_one {r : E} {v : Int} (h : r.has v) : withinB ⟨v, v⟩ r = true := by
  unfold withinB
  simp only [Bool.and_eq_true, decide_eq_true_eq]
  exact h
set_option maxHeartbeats 4000000 in
theorem spanHolds_walk (w : World) (op : Int) (hop : -9223372036854775808 ≤ op ∧ op ≤ 9223372036854775807) (n : Bool) (alo ahi : Int) (anl anh : Bool) (blo bhi : Int) (bnl bnh : Bool) (x : Int) (hx : -9223372036854775808 ≤ x ∧ x ≤ 9223372036854775807) (y : Int) (hy : -9223372036854775808 ≤ y ∧ y ≤ 9223372036854775807) :
    Calls Try.prog 5 #[.int .i64 op, .bool n, .agg #[.int .i64 alo, .int .i64 ahi, .bool anl, .bool anh], .agg #[.int .i64 blo, .int .i64 bhi, .bool bnl, .bool bnh], .int .i64 x, .int .i64 y] w fun e w' => e = .returned (.bool true) ∧ Below w.heap.size w w' := by
  have b1 := Lib.hid ((Blk.new w 23 #[.int .i64 alo, .int .i64 ahi, .bool anl, .bool anh]).alloc (.cells #[.int .i64 blo, .int .i64 bhi, .bool bnl, .bool bnh] 23))
  have b2 := Lib.hid (new2 w (.cells #[.int .i64 alo, .int .i64 ahi, .bool anl, .bool anh] 23) 23 #[.int .i64 blo, .int .i64 bhi, .bool bnl, .bool bnh])
  have H2 := Lib.hid (box2 w (.cells #[.int .i64 alo, .int .i64 ahi, .bool anl, .bool anh] 23) (.cells #[.int .i64 blo, .int .i64 bhi, .bool bnl, .bool bnh] 23))
  have HI1 := Lib.hid (fun w => inside_any alo ahi anl anh x w)
  have HI2 := Lib.hid (fun w => inside_any blo bhi bnl bnh y w)
  have HAW := Lib.hid (fun w => awake_any w)
  have hv := ins_has ⟨alo, ahi, anl, anh⟩ x hx
  have hw := ins_has ⟨blo, bhi, bnl, bnh⟩ y hy
  generalize insX ⟨alo, ahi, anl, anh⟩ x = v at *
  generalize insX ⟨blo, bhi, bnl, bnh⟩ y = u at *
  rcases es : aluS op n ⟨alo, ahi, anl, anh⟩ ⟨blo, bhi, bnl, bnh⟩ with ⟨sa, sb, sn, sm⟩
  have HS := Lib.hid (fun w => Alu_any op alo ahi anl anh blo bhi bnl bnh n sa sb sn sm es w)
  have hso : soundB ⟨sa, sb, sn, sm⟩ = true := by rw [← es]; exact aluS_sound op n _ _
  have hgood : aluE op n u = 0 → withinB ⟨aluR op n v u, aluR op n v u⟩ (rd ⟨sa, sb, sn, sm⟩) = true := fun hE => by rw [← es]; exact aluS_has hE hv hw
  have HSO := Lib.hid (fun w => sound_any sa sb sn sm w)
  rw [hso] at HSO
  rcases ea : rd ⟨alo, ahi, anl, anh⟩ with ⟨a1, a2⟩
  rcases eb : rd ⟨blo, bhi, bnl, bnh⟩ with ⟨c1, c2⟩
  rcases er : rd ⟨sa, sb, sn, sm⟩ with ⟨r1, r2⟩
  rw [ea] at hv
  rw [eb] at hw
  rw [er] at hgood
  have HA := Lib.hid (fun w => has_any alo ahi anl anh v a1 a2 ea w)
  have HB := Lib.hid (fun w => has_any blo bhi bnl bnh u c1 c2 eb w)
  have HR := Lib.hid (fun w => has_any sa sb sn sm (aluR op n v u) r1 r2 er w)
  rw [within_one hv] at HA
  rw [within_one hw] at HB
  have HU := Lib.hid (fun w => refAlu_any op n v u w)
  unfold AluPost at HU
  have HG := Lib.hid hgood
  clear hgood hso es ea eb er hv hw hop hx hy
  generalize aluR op n v u = r at *
  generalize aluE op n u = er at *
  by_cases h0 : er = 0
  · subst h0
    have hg := HG.out rfl
    rw [hg] at HR
    clear hg HG
    go_enter Try.func5, Try.ntmps5
    obtain ⟨⟨f00, f01, f02, f03⟩, -, f08⟩ := cells4 b1.out
    obtain ⟨⟨f10, f11, f12, f13⟩, -, f18⟩ := cells4 b2.out
    go_wp2_with fail
    refine (HI1.out _).mono ?_
    rintro e w1 ⟨rfl, hB⟩
    clear f00 f01 f02 f03 f08 f10 f11 f12 f13 f18
    have X1 := Lib.hid (b1.out.up hB)
    have Y1 := Lib.hid (b2.out.up hB)
    have B1 := Lib.hid (nx H2.out hB)
    clear hB
    obtain ⟨⟨f00, f01, f02, f03⟩, -, f08⟩ := cells4 X1.out
    obtain ⟨⟨f10, f11, f12, f13⟩, -, f18⟩ := cells4 Y1.out
    go_wp2_with fail
    refine (HI2.out _).mono ?_
    rintro e w2 ⟨rfl, hB⟩
    clear f00 f01 f02 f03 f08 f10 f11 f12 f13 f18
    have X2 := Lib.hid (X1.out.up hB)
    have Y2 := Lib.hid (Y1.out.up hB)
    have B2 := Lib.hid (nx B1.out hB)
    clear hB
    obtain ⟨⟨f00, f01, f02, f03⟩, -, f08⟩ := cells4 X2.out
    obtain ⟨⟨f10, f11, f12, f13⟩, -, f18⟩ := cells4 Y2.out
    go_wp2_with fail
    refine (HS.out _).mono ?_
    rintro e w3 ⟨rfl, hB⟩
    clear f00 f01 f02 f03 f08 f10 f11 f12 f13 f18
    have X3 := Lib.hid ((X2.out.up hB).up (below_box' w3 (.cells #[.int .i64 sa, .int .i64 sb, .bool sn, .bool sm] 23)))
    have Y3 := Lib.hid ((Y2.out.up hB).up (below_box' w3 (.cells #[.int .i64 sa, .int .i64 sb, .bool sn, .bool sm] 23)))
    have Z3 := Lib.hid (Blk.new w3 23 #[.int .i64 sa, .int .i64 sb, .bool sn, .bool sm])
    have B3 := Lib.hid (nx (nx B2.out hB) (below_box' w3 (.cells #[.int .i64 sa, .int .i64 sb, .bool sn, .bool sm] 23)))
    clear hB
    obtain ⟨⟨f00, f01, f02, f03⟩, -, f08⟩ := cells4 X3.out
    obtain ⟨⟨f10, f11, f12, f13⟩, -, f18⟩ := cells4 Y3.out
    obtain ⟨⟨f20, f21, f22, f23⟩, -, f28⟩ := cells4 Z3.out
    go_wp2_with fail
    refine (HSO.out _).mono ?_
    rintro e w4 ⟨rfl, hB⟩
    clear f00 f01 f02 f03 f08 f10 f11 f12 f13 f18 f20 f21 f22 f23 f28
    have X4 := Lib.hid (X3.out.up hB)
    have Y4 := Lib.hid (Y3.out.up hB)
    have Z4 := Lib.hid (Z3.out.up hB)
    have B4 := Lib.hid (nx B3.out hB)
    clear hB
    obtain ⟨⟨f00, f01, f02, f03⟩, -, f08⟩ := cells4 X4.out
    obtain ⟨⟨f10, f11, f12, f13⟩, -, f18⟩ := cells4 Y4.out
    obtain ⟨⟨f20, f21, f22, f23⟩, -, f28⟩ := cells4 Z4.out
    go_wp2_with fail
    refine (HA.out _).mono ?_
    rintro e w5 ⟨rfl, hB⟩
    clear f00 f01 f02 f03 f08 f10 f11 f12 f13 f18 f20 f21 f22 f23 f28
    have X5 := Lib.hid (X4.out.up hB)
    have Y5 := Lib.hid (Y4.out.up hB)
    have Z5 := Lib.hid (Z4.out.up hB)
    have B5 := Lib.hid (nx B4.out hB)
    clear hB
    obtain ⟨⟨f00, f01, f02, f03⟩, -, f08⟩ := cells4 X5.out
    obtain ⟨⟨f10, f11, f12, f13⟩, -, f18⟩ := cells4 Y5.out
    obtain ⟨⟨f20, f21, f22, f23⟩, -, f28⟩ := cells4 Z5.out
    go_wp2_with fail
    refine (HB.out _).mono ?_
    rintro e w6 ⟨rfl, hB⟩
    clear f00 f01 f02 f03 f08 f10 f11 f12 f13 f18 f20 f21 f22 f23 f28
    have X6 := Lib.hid (X5.out.up hB)
    have Y6 := Lib.hid (Y5.out.up hB)
    have Z6 := Lib.hid (Z5.out.up hB)
    have B6 := Lib.hid (nx B5.out hB)
    clear hB
    obtain ⟨⟨f00, f01, f02, f03⟩, -, f08⟩ := cells4 X6.out
    obtain ⟨⟨f10, f11, f12, f13⟩, -, f18⟩ := cells4 Y6.out
    obtain ⟨⟨f20, f21, f22, f23⟩, -, f28⟩ := cells4 Z6.out
    go_wp2_with fail
    refine (HU.out _).mono ?_
    rintro e w7 ⟨rfl, hB⟩
    clear f00 f01 f02 f03 f08 f10 f11 f12 f13 f18 f20 f21 f22 f23 f28
    have X7 := Lib.hid (X6.out.up hB)
    have Y7 := Lib.hid (Y6.out.up hB)
    have Z7 := Lib.hid (Z6.out.up hB)
    have B7 := Lib.hid (nx B6.out hB)
    clear hB
    obtain ⟨⟨f00, f01, f02, f03⟩, -, f08⟩ := cells4 X7.out
    obtain ⟨⟨f10, f11, f12, f13⟩, -, f18⟩ := cells4 Y7.out
    obtain ⟨⟨f20, f21, f22, f23⟩, -, f28⟩ := cells4 Z7.out
    go_wp2_with fail
    refine (HR.out _).mono ?_
    rintro e w8 ⟨rfl, hB⟩
    have B8 := Lib.hid (nx B7.out hB)
    clear hB
    go_wp2_with fail
    refine (HAW.out _).mono ?_
    rintro e w9 ⟨rfl, hB⟩
    have B9 := Lib.hid (nx B8.out hB)
    clear hB
    go_wp2_with fail
    go_ret
    exact ⟨rfl, B9.out⟩
  · clear HG HR
    have t0 : (er == 0) = false := by simpa using h0
    go_enter Try.func5, Try.ntmps5
    obtain ⟨⟨f00, f01, f02, f03⟩, -, f08⟩ := cells4 b1.out
    obtain ⟨⟨f10, f11, f12, f13⟩, -, f18⟩ := cells4 b2.out
    go_wp2_with fail
    refine (HI1.out _).mono ?_
    rintro e w1 ⟨rfl, hB⟩
    clear f00 f01 f02 f03 f08 f10 f11 f12 f13 f18
    have X1 := Lib.hid (b1.out.up hB)
    have Y1 := Lib.hid (b2.out.up hB)
    have B1 := Lib.hid (nx H2.out hB)
    clear hB
    obtain ⟨⟨f00, f01, f02, f03⟩, -, f08⟩ := cells4 X1.out
    obtain ⟨⟨f10, f11, f12, f13⟩, -, f18⟩ := cells4 Y1.out
    go_wp2_with fail
    refine (HI2.out _).mono ?_
    rintro e w2 ⟨rfl, hB⟩
    clear f00 f01 f02 f03 f08 f10 f11 f12 f13 f18
    have X2 := Lib.hid (X1.out.up hB)
    have Y2 := Lib.hid (Y1.out.up hB)
    have B2 := Lib.hid (nx B1.out hB)
    clear hB
    obtain ⟨⟨f00, f01, f02, f03⟩, -, f08⟩ := cells4 X2.out
    obtain ⟨⟨f10, f11, f12, f13⟩, -, f18⟩ := cells4 Y2.out
    go_wp2_with fail
    refine (HS.out _).mono ?_
    rintro e w3 ⟨rfl, hB⟩
    clear f00 f01 f02 f03 f08 f10 f11 f12 f13 f18
    have X3 := Lib.hid ((X2.out.up hB).up (below_box' w3 (.cells #[.int .i64 sa, .int .i64 sb, .bool sn, .bool sm] 23)))
    have Y3 := Lib.hid ((Y2.out.up hB).up (below_box' w3 (.cells #[.int .i64 sa, .int .i64 sb, .bool sn, .bool sm] 23)))
    have Z3 := Lib.hid (Blk.new w3 23 #[.int .i64 sa, .int .i64 sb, .bool sn, .bool sm])
    have B3 := Lib.hid (nx (nx B2.out hB) (below_box' w3 (.cells #[.int .i64 sa, .int .i64 sb, .bool sn, .bool sm] 23)))
    clear hB
    obtain ⟨⟨f00, f01, f02, f03⟩, -, f08⟩ := cells4 X3.out
    obtain ⟨⟨f10, f11, f12, f13⟩, -, f18⟩ := cells4 Y3.out
    obtain ⟨⟨f20, f21, f22, f23⟩, -, f28⟩ := cells4 Z3.out
    go_wp2_with fail
    refine (HSO.out _).mono ?_
    rintro e w4 ⟨rfl, hB⟩
    clear f00 f01 f02 f03 f08 f10 f11 f12 f13 f18 f20 f21 f22 f23 f28
    have X4 := Lib.hid (X3.out.up hB)
    have Y4 := Lib.hid (Y3.out.up hB)
    have Z4 := Lib.hid (Z3.out.up hB)
    have B4 := Lib.hid (nx B3.out hB)
    clear hB
    obtain ⟨⟨f00, f01, f02, f03⟩, -, f08⟩ := cells4 X4.out
    obtain ⟨⟨f10, f11, f12, f13⟩, -, f18⟩ := cells4 Y4.out
    obtain ⟨⟨f20, f21, f22, f23⟩, -, f28⟩ := cells4 Z4.out
    go_wp2_with fail
    refine (HA.out _).mono ?_
    rintro e w5 ⟨rfl, hB⟩
    clear f00 f01 f02 f03 f08 f10 f11 f12 f13 f18 f20 f21 f22 f23 f28
    have X5 := Lib.hid (X4.out.up hB)
    have Y5 := Lib.hid (Y4.out.up hB)
    have Z5 := Lib.hid (Z4.out.up hB)
    have B5 := Lib.hid (nx B4.out hB)
    clear hB
    obtain ⟨⟨f00, f01, f02, f03⟩, -, f08⟩ := cells4 X5.out
    obtain ⟨⟨f10, f11, f12, f13⟩, -, f18⟩ := cells4 Y5.out
    obtain ⟨⟨f20, f21, f22, f23⟩, -, f28⟩ := cells4 Z5.out
    go_wp2_with fail
    refine (HB.out _).mono ?_
    rintro e w6 ⟨rfl, hB⟩
    clear f00 f01 f02 f03 f08 f10 f11 f12 f13 f18 f20 f21 f22 f23 f28
    have X6 := Lib.hid (X5.out.up hB)
    have Y6 := Lib.hid (Y5.out.up hB)
    have Z6 := Lib.hid (Z5.out.up hB)
    have B6 := Lib.hid (nx B5.out hB)
    clear hB
    obtain ⟨⟨f00, f01, f02, f03⟩, -, f08⟩ := cells4 X6.out
    obtain ⟨⟨f10, f11, f12, f13⟩, -, f18⟩ := cells4 Y6.out
    obtain ⟨⟨f20, f21, f22, f23⟩, -, f28⟩ := cells4 Z6.out
    go_wp2_with fail
    refine (HU.out _).mono ?_
    rintro e w7 ⟨rfl, hB⟩
    clear f00 f01 f02 f03 f08 f10 f11 f12 f13 f18 f20 f21 f22 f23 f28
    have X7 := Lib.hid (X6.out.up hB)
    have Y7 := Lib.hid (Y6.out.up hB)
    have Z7 := Lib.hid (Z6.out.up hB)
    have B7 := Lib.hid (nx B6.out hB)
    clear hB
    obtain ⟨⟨f00, f01, f02, f03⟩, -, f08⟩ := cells4 X7.out
    obtain ⟨⟨f10, f11, f12, f13⟩, -, f18⟩ := cells4 Y7.out
    obtain ⟨⟨f20, f21, f22, f23⟩, -, f28⟩ := cells4 Z7.out
    go_wp2_with fail
    refine (HAW.out _).mono ?_
    rintro e w9 ⟨rfl, hB⟩
    have B9 := Lib.hid (nx B7.out hB)
    clear hB
    go_wp2_with fail
    go_ret
    exact ⟨rfl, B9.out⟩
end Go.Proofs.Ytjhgjplhhhgfcaa
