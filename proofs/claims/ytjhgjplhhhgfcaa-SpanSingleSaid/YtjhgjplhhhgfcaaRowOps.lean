/- The document's arithmetic of rows of bits: plus, not, negative, up, down, bitwise. A row of k bits is told by any number of which it is the lowest k bits. -/
import Derived.Test.YtjhgjplhhhgfcaaLess
import Derived.Deep.QuietTactic
import Derived.BigQuiet
import Derived.BigRegion
import Derived.Deep.RegionHeld3
namespace Go.Proofs.Ytjhgjplhhhgfcaa
open Go.ChangeShapes Go.WideShapes Go.ChangeAt Go.RowKit
open Bits
set_option linter.unusedVariables false

/-- a row that is handed back: the lowest k bits of x -/
def RowOut (w : World) (k : Nat) (x : Int) (e : Ending) (w' : World) : Prop :=
  ∃ P c, k ≤ c ∧ e = .returned (.slice P k c) ∧ IntsAt w' P (bitsL x k) ∧ Below w.heap.size w w'
theorem bits_at (a : Int) (k j : Nat) (h : j < k) : (bitsL a k)[j]?.getD 0 = a / 2 ^ j % 2 := by rw [bitsL_get a k j h]; rfl
theorem IntsAt.below {w w' : World} {A : Option Addr} {L : List Int} (h : IntsAt w A L) (hb : Below w.heap.size w w') : IntsAt w' A L := fun hp => by
  obtain ⟨b, off, rfl, hlt, hc⟩ := h hp
  exact ⟨b, off, rfl, Nat.lt_of_lt_of_le hlt hb.size, fun i hi => (hb.cell (p := ⟨b, off + i, none⟩) hlt).trans (hc i hi)⟩
theorem IntsAt.bit {w wr : World} {P : Option Addr} {a : Int} {k : Nat} (h : IntsAt w P (bitsL a k)) (hb : Below w.heap.size w wr) (j : Nat) (hj : j < k) :
    ∃ b off, P = some ⟨b, off, none⟩ ∧ wr.cell? ⟨b, off + j, none⟩ = some (.int .i64 (a / 2 ^ j % 2)) := by
  obtain ⟨b, off, e, hlt, hc⟩ := h (by rw [bitsL_length]; omega)
  exact ⟨b, off, e, by rw [hb.cell (p := ⟨b, off + j, none⟩) hlt, hc j (by rw [bitsL_length]; exact hj), bits_at a k j hj]⟩
theorem bitsL_congr {a b : Int} {k : Nat} (h : a % 2 ^ k = b % 2 ^ k) : bitsL a k = bitsL b k := by
  refine valL_inj (bit_bits _ _) (bit_bits _ _) (by rw [bitsL_length, bitsL_length]) ?_
  rw [valL_bits, valL_bits, h]

theorem carry_rng (a b cr q : Int) (hq : 0 < q) (hc : cr = 0 ∨ cr = 1) : 0 ≤ (a % q + b % q + cr) / q ∧ (a % q + b % q + cr) / q ≤ 1 := by
  have h1 := Int.emod_nonneg a (show q ≠ 0 by omega)
  have h2 := Int.emod_lt_of_pos a hq
  have h3 := Int.emod_nonneg b (show q ≠ 0 by omega)
  have h4 := Int.emod_lt_of_pos b hq
  generalize a % q = x at *
  generalize b % q = y at *
  refine ⟨Int.ediv_nonneg (by omega) (by omega), ?_⟩
  have : (x + y + cr) / q < 2 := Int.ediv_lt_of_lt_mul hq (by omega)
  omega
theorem carry_bit (a b cr q : Int) (hq : 0 < q) : (a + b + cr) / q % 2 = (a / q % 2 + b / q % 2 + (a % q + b % q + cr) / q) % 2 := by
  have h1 := Int.emod_add_mul_ediv a q
  have h2 := Int.emod_add_mul_ediv b q
  have h3 : a + b + cr = (a % q + b % q + cr) + q * (a / q + b / q) := by rw [Int.mul_add]; omega
  rw [h3, Int.add_mul_ediv_left _ _ (by omega)]
  omega
theorem carry_next (a b cr q : Int) (hq : 0 < q) : (a % (q * 2) + b % (q * 2) + cr) / (q * 2) = (a / q % 2 + b / q % 2 + (a % q + b % q + cr) / q) / 2 := by
  rw [emod_mul2 a q hq, emod_mul2 b q hq]
  have h3 : a % q + q * (a / q % 2) + (b % q + q * (b / q % 2)) + cr = (a % q + b % q + cr) + q * (a / q % 2 + b / q % 2) := by rw [Int.mul_add]; omega
  rw [h3, ← Int.ediv_ediv_of_nonneg (by omega), Int.add_mul_ediv_left _ _ (by omega)]
  congr 1
  omega

set_option maxHeartbeats 2000000 in
theorem plus_blk (P Q : Option Addr) (c d k : Nat) (a b cr : Int) (w : World) (hk : k ≤ 65) (hcr : cr = 0 ∨ cr = 1) (ha : IntsAt w P (bitsL a k)) (hb : IntsAt w Q (bitsL b k)) :
    Calls Try.prog 71 #[.slice P k c, .slice Q k d, .int .i64 cr] w fun e w' => e = .returned (.slice (some ⟨w.heap.size, 0, none⟩) k k) ∧ IntBlk w' w.heap.size (bitsL (a + b + cr) k) ∧ Below w.heap.size w w' := by
  have hmk := make_ints k (by omega)
  have HA := Lib.hid ha
  have HB := Lib.hid hb
  have HC := Lib.hid hcr
  clear ha hb hcr
  go_enter Try.func71, Try.ntmps71
  go_wp2_with fail
  clear hmk
  go_loopw [2, 8, 9] (fun cy i s wr => ∃ (j : Nat) (y : Int), j ≤ k ∧ i = .int .i64 j ∧ cy = .int .i64 y ∧ y = (a % 2 ^ j + b % 2 ^ j + cr) / 2 ^ j ∧ IntBlk wr w.heap.size (bitsL (a + b + cr) j ++ zerosL (k - j)) ∧ Below w.heap.size w wr) (fun _ i _ _ => (k - intOf i).toNat)
  case atStart => exact ⟨0, cr, Nat.zero_le _, rfl, rfl, by simp, IntBlk.new w (zerosL k), (Below.refl _ _).alloc (Nat.le_refl _) _⟩
  case round =>
    obtain ⟨j, y, hj, rfl, rfl, hy, hblk, hB⟩ := hrel
    by_cases hlt : j < k
    · have hlt' : (j : Int) < k := by omega
      obtain ⟨b1, o1, rfl, hx1⟩ := HA.out.bit hB j hlt
      obtain ⟨b2, o2, rfl, hx2⟩ := HB.out.bit hB j hlt
      have hq := pow_pos' j
      have r3 := carry_rng a b cr (2 ^ j) hq HC.out
      rw [← hy] at r3
      have s1 := carry_bit a b cr (2 ^ j) hq
      have s2 := carry_next a b cr (2 ^ j) hq
      rw [← Int.pow_succ, ← hy] at s2
      rw [← hy] at s1
      have hset := fun u => hblk.set_ j u
      have hf := hblk.frozen j
      have hcell := hblk.cell j (by simp [bitsL_length, zerosL_length]; omega)
      have HS := Lib.hid (show ∀ u, u = (a + b + cr) / 2 ^ j % 2 → IntBlk (wr.setCell ⟨w.heap.size, j, none⟩ (.int .i64 u)) w.heap.size (bitsL (a + b + cr) (j + 1) ++ zerosL (k - (j + 1))) from fun u hu => by
        rw [hu, ← bits_step (a + b + cr) k j hlt]; exact hset _)
      generalize (bitsL (a + b + cr) j ++ zerosL (k - j))[j]?.getD 0 = old at hcell
      have r1 : 0 ≤ a / 2 ^ j % 2 ∧ a / 2 ^ j % 2 ≤ 1 := by omega
      have r2 : 0 ≤ b / 2 ^ j % 2 ∧ b / 2 ^ j % 2 ≤ 1 := by omega
      have S1 := Lib.hid s1
      have S2 := Lib.hid s2
      clear hset s1 s2 hy hblk hq
      generalize a / 2 ^ j % 2 = x1 at *
      generalize b / 2 ^ j % 2 = x2 at *
      have e1 : IntKind.i64.wrap (x1 + x2) = x1 + x2 := IntWalk.i64_in _ (by omega)
      have e2 : IntKind.i64.wrap (x1 + x2 + y) = x1 + x2 + y := IntWalk.i64_in _ (by omega)
      obtain ⟨r10, r11⟩ := r1
      obtain ⟨r20, r21⟩ := r2
      obtain ⟨r30, r31⟩ := r3
      go_wp2_with fail
      go_quiet (fail)
      clear e1 e2
      have r5 : 0 ≤ x1 + x2 + y := by omega
      obtain ⟨s, hs⟩ : ∃ s, x1 + x2 + y = s := ⟨_, rfl⟩
      rw [hs] at S1 S2 r5 ⊢
      have r6 : s ≤ 3 := by omega
      clear hs
      go_wp2_with fail
      go_roundw
      case rel => exact ⟨j + 1, _, by omega, by go_num, rfl, S2.out.symm, HS.out _ S1.out.symm, (below_drewN hB nq).setCell (by simp) _⟩
      case measure => simp [intOf]; omega
    · have hlt' : decide (j < k) = false := by simp; omega
      obtain rfl : j = k := by omega
      have HI := Lib.hid hblk
      clear hblk
      go_wp2_with fail
      go_ret
      exact ⟨rfl, by have := HI.out; simp only [Nat.sub_self, zerosL, List.replicate_zero, List.append_nil] at this; exact this, hB⟩
theorem plus_any (P Q : Option Addr) (c d k : Nat) (a b cr : Int) (w : World) (hk : k ≤ 65) (hcr : cr = 0 ∨ cr = 1) (ha : IntsAt w P (bitsL a k)) (hb : IntsAt w Q (bitsL b k)) :
    Calls Try.prog 71 #[.slice P k c, .slice Q k d, .int .i64 cr] w (RowOut w k (a + b + cr)) :=
  (plus_blk P Q c d k a b cr w hk hcr ha hb).mono fun _ _ ⟨h1, h2, h3⟩ => ⟨_, _, Nat.le_refl _, h1, h2.at_, h3⟩
end Go.Proofs.Ytjhgjplhhhgfcaa
