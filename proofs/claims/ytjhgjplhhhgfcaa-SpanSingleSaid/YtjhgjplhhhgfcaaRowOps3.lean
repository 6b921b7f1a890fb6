/- The document's arithmetic of rows of bits: down, bitwise, negative. -/
import Derived.Test.YtjhgjplhhhgfcaaRowOps2
import Derived.Deep.RegionWith
namespace Go.Proofs.Ytjhgjplhhhgfcaa
open Go.ChangeShapes Go.WideShapes Go.ChangeAt Go.RowKit
open Bits
set_option linter.unusedVariables false

theorem bit_congr {a b : Int} {n j : Nat} (h : a % 2 ^ n = b % 2 ^ n) (hj : j < n) : a / 2 ^ j % 2 = b / 2 ^ j % 2 := by
  rw [← bits_at a n j hj, ← bits_at b n j hj, bitsL_congr h]
theorem filled_mod (a f : Int) (n : Nat) : (a % 2 ^ n - f * 2 ^ n) % 2 ^ n = a % 2 ^ n := by
  rw [Int.sub_mul_emod_self_right, Int.emod_emod]
theorem filled_bit (a f : Int) (n s i : Nat) (h : i + s < n) : (a % 2 ^ n - f * 2 ^ n) / 2 ^ s / 2 ^ i % 2 = a / 2 ^ (i + s) % 2 := by
  rw [Int.ediv_ediv_of_nonneg (Int.le_of_lt (pow_pos' s)), pow_split (Nat.add_comm s i)]
  exact bit_congr (filled_mod a f n) h
theorem filled_high (a f : Int) (hf : f = 0 ∨ f = 1) (n s i : Nat) (h : n ≤ i + s) : (a % 2 ^ n - f * 2 ^ n) / 2 ^ s / 2 ^ i % 2 = f := by
  rw [Int.ediv_ediv_of_nonneg (Int.le_of_lt (pow_pos' s)), pow_split (Nat.add_comm s i)]
  have h1 := Int.emod_nonneg a (Int.ne_of_gt (pow_pos' n))
  have h2 := Int.emod_lt_of_pos a (pow_pos' n)
  have h3 : (2 : Int) ^ n ≤ 2 ^ (i + s) := pow_le_of h
  have h4 := pow_pos' (i + s)
  generalize a % 2 ^ n = x at *
  generalize (2 : Int) ^ n = N at *
  generalize (2 : Int) ^ (i + s) = M at *
  rcases hf with rfl | rfl
  · rw [Int.zero_mul, Int.sub_zero, Int.ediv_eq_zero_of_lt h1 (by omega)]; rfl
  · rw [Int.one_mul]
    have : (x - N) / M = -1 := by
      have : x - N = (x - N + M) + M * (-1) := by omega
      rw [this, Int.add_mul_ediv_left _ _ (by omega), Int.ediv_eq_zero_of_lt (by omega) (by omega)]
      rfl
    rw [this]; rfl

set_option maxHeartbeats 2000000 in
theorem down_any (P : Option Addr) (c k s : Nat) (t a f : Int) (ht : (s : Int) = t) (hf : f = 0 ∨ f = 1) (w : World) (hk : k ≤ 65) (hs : s ≤ k) (ha : IntsAt w P (bitsL a k)) :
    Calls Try.prog 77 #[.slice P k c, .int .i64 t, .int .i64 f] w (RowOut w k ((a % 2 ^ k - f * 2 ^ k) / 2 ^ s)) := by
  subst ht
  have hmk := make_ints k (by omega)
  have HA := Lib.hid ha
  have HF := Lib.hid hf
  clear ha hf
  obtain ⟨R, hR⟩ : ∃ R, (a % 2 ^ k - f * 2 ^ k) / 2 ^ s = R := ⟨_, rfl⟩
  have B1 : ∀ i, i + s < k → R / 2 ^ i % 2 = a / 2 ^ (i + s) % 2 := fun i h => by rw [← hR]; exact filled_bit a f k s i h
  have B2 : ∀ i, k ≤ i + s → R / 2 ^ i % 2 = f := fun i h => by rw [← hR]; exact filled_high a f HF.out k s i h
  have HB1 := Lib.hid B1
  have HB2 := Lib.hid B2
  rw [hR]
  clear B1 B2 hR
  go_enter Try.func77, Try.ntmps77
  go_wp2_with fail
  clear hmk
  go_loopw [8] (fun i wr => ∃ (j : Nat), j ≤ k ∧ i = .int .i64 j ∧ IntBlk wr w.heap.size (bitsL R j ++ zerosL (k - j)) ∧ Below w.heap.size w wr) (fun i _ => (k - intOf i).toNat)
  case atStart => exact ⟨0, Nat.zero_le _, rfl, IntBlk.new w (zerosL k), (Below.refl _ _).alloc (Nat.le_refl _) _⟩
  case round =>
    obtain ⟨j, hj, rfl, hblk, hB⟩ := hrel
    by_cases hlt : j < k
    · have hlt' : (j : Int) < k := by omega
      have hset := fun u => hblk.set_ j u
      have hfr := hblk.frozen j
      have hcell := hblk.cell j (by simp [bitsL_length, zerosL_length]; omega)
      generalize (bitsL R j ++ zerosL (k - j))[j]?.getD 0 = old at hcell
      by_cases hsk : j + s < k
      · have hsk' : (j : Int) + (s : Int) < k := by omega
        have hx0 := HA.out.bit hB (j + s) hsk
        obtain ⟨b1, o1, rfl, hx1⟩ := hx0
        have hne : b1 ≠ w.heap.size := by
          have h9 := HA.out (by rw [bitsL_length]; omega)
          obtain ⟨b', o', e', hlt9, _⟩ := h9
          injection e' with e'; injection e' with e1 e2; omega
        have S1 := Lib.hid (HB1.out j hsk)
        have HS := Lib.hid (show ∀ u v, v = R / 2 ^ j % 2 → IntBlk ((wr.setCell ⟨w.heap.size, j, none⟩ (.int .i64 u)).setCell ⟨w.heap.size, j, none⟩ (.int .i64 v)) w.heap.size (bitsL R (j + 1) ++ zerosL (k - (j + 1))) from fun u v hv => by
          have h1 := (hset u).set_ j v
          rw [List.set_set] at h1
          rw [hv] at h1 ⊢
          rw [← bits_step R k j hlt]
          exact h1)
        clear hset hblk
        generalize a / 2 ^ (j + s) % 2 = x1 at *
        have hx2 : (wr.setCell ⟨w.heap.size, j, none⟩ (.int .i64 f)).cell? ⟨b1, o1 + (j + s), none⟩ = some (.int .i64 x1) := by
          rw [World.cell?_setCell_other _ _ _ _ (fun e => hne (congrArg Addr.block e).symm)]
          exact hx1
        obtain ⟨m, hm⟩ : ∃ m, j + s = m := ⟨_, rfl⟩
        rw [hm] at hx2
        have h1 : (0 : Int) ≤ (j : Int) + (s : Int) := by omega
        have h3 : ((j : Int) + (s : Int)).toNat = m := by omega
        clear hx1
        go_wp2_with fail
        go_roundw
        case rel => exact ⟨j + 1, by omega, by go_num, HS.out _ _ S1.out.symm, (hB.setCell (by simp) _).setCell (by simp) _⟩
        case measure => simp [intOf]; omega
      · have hsk' : decide ((j : Int) + (s : Int) < k) = false := by simp; omega
        have S1 := Lib.hid (HB2.out j (by omega))
        have HS := Lib.hid (show ∀ v, v = R / 2 ^ j % 2 → IntBlk (wr.setCell ⟨w.heap.size, j, none⟩ (.int .i64 v)) w.heap.size (bitsL R (j + 1) ++ zerosL (k - (j + 1))) from fun v hv => by
          rw [hv, ← bits_step R k j hlt]
          exact hset _)
        clear hset hblk
        have h1 : (0 : Int) ≤ (j : Int) + (s : Int) := by omega
        go_wp2_with fail
        go_roundw
        case rel => exact ⟨j + 1, by omega, by go_num, HS.out _ S1.out.symm, hB.setCell (by simp) _⟩
        case measure => simp [intOf]; omega
    · have hlt' : decide (j < k) = false := by simp; omega
      obtain rfl : j = k := by omega
      have HI := Lib.hid hblk
      clear hblk
      go_wp2_with fail
      go_ret
      exact ⟨_, _, Nat.le_refl _, rfl, HI.out.whole, hB⟩

theorem make_b (k : Nat) (hk : k ≤ 65) (w : World) : (Instr.makeSlice 63 (.int .i64 k) (.int .i64 k)).run Try.prog w =
    .ok (.slice (some ⟨w.heap.size, 0, none⟩) k k) (w.alloc (.cells ((zerosL k).map (Value.int .i64)).toArray 3)) := make_ints k (by omega) w
theorem zeros_bits (k : Nat) : zerosL k = bitsL 0 k := by
  unfold zerosL bitsL
  refine List.ext_getElem (by simp) fun i h1 h2 => ?_
  simp

theorem zeros_new (k : Nat) (w : World) : IntsAt (w.alloc (.cells ((zerosL k).map (Value.int .i64)).toArray 3)) (some ⟨w.heap.size, 0, none⟩) (bitsL 0 k) := by
  rw [← zeros_bits]; exact (IntBlk.new w (zerosL k)).at_
theorem not_b (P : Option Addr) (c k : Nat) (a : Int) (w0 w : World) (hk : k ≤ 65) (ha : IntsAt w P (bitsL a k)) (hB : Below w0.heap.size w0 w) :
    Calls Try.prog 72 #[.slice P k c] w fun e w' => ∃ P' c', e = .returned (.slice P' k c') ∧ IntsAt w' P' (bitsL (-a - 1) k) ∧ Below w.heap.size w w' ∧ Below w0.heap.size w0 w' :=
  (not_any P c k a w hk ha).mono fun _ _ ⟨P', c', _, he, hi, hb⟩ => ⟨P', c', he, hi, hb, hB.trans (hb.mono hB.size)⟩
theorem plus_b (P Q : Option Addr) (c d k : Nat) (a b cr : Int) (w0 w : World) (hk : k ≤ 65) (hcr : cr = 0 ∨ cr = 1) (ha : IntsAt w P (bitsL a k)) (hb : IntsAt w Q (bitsL b k)) (hB : Below w0.heap.size w0 w) :
    Calls Try.prog 71 #[.slice P k c, .slice Q k d, .int .i64 cr] w fun e w' => ∃ P' c', e = .returned (.slice P' k c') ∧ IntsAt w' P' (bitsL (a + b + cr) k) ∧ Below w0.heap.size w0 w' :=
  (plus_any P Q c d k a b cr w hk hcr ha hb).mono fun _ _ ⟨P', c', _, he, hi, hbb⟩ => ⟨P', c', he, hi, hB.trans (hbb.mono hB.size)⟩

theorem IntsAt.below_drew {w w' : World} {A : Option Addr} {L : List Int} (h : IntsAt w A L) (hb : Below w.drew.heap.size w.drew w') : IntsAt w' A L := IntsAt.below (w := w.drew) h hb

set_option maxHeartbeats 2000000 in
theorem negative_any (P : Option Addr) (c k : Nat) (a : Int) (w : World) (hk : k ≤ 65) (ha : IntsAt w P (bitsL a k)) :
    Calls Try.prog 78 #[.slice P k c] w fun e w' => ∃ P' c', e = .returned (.slice P' k c') ∧ IntsAt w' P' (bitsL (-a) k) ∧ Below w.heap.size w w' := by
  have hmk := make_b k hk
  have HA := Lib.hid ha
  have HE := Lib.hid (show -a = -a - 1 + 0 + 1 by omega)
  clear ha
  go_enter Try.func78, Try.ntmps78
  go_wp2_with fail
  go_region_with (first
    | (go_at_call 72; refine (not_b P c k a w _ hk (by first | exact HA.out | exact HA.out.below (((Below.refl _ _).drew).alloc (by simp) _)) (by first | exact (Below.refl _ _).drew | exact ((Below.refl _ _).drew).alloc (by simp) _)).mono ?_; rintro e w1 ⟨P1, c1, rfl, hi1, hb1, hB1⟩)
    | (go_at_call 71; refine (plus_b _ _ _ _ k (-a - 1) 0 1 w _ hk (.inr rfl) (by first | exact hi1 | exact hi1.below ((Below.refl _ _).alloc (by simp) _)) (by first | exact zeros_new k _ | exact (zeros_new k _).below_drew hb1 | exact (zeros_new k _).below hb1) (by first | exact hB1 | exact hB1.alloc hB1.size _)).mono ?_; rintro e w2 ⟨P2, c2, rfl, hi2, hB2⟩))
  all_goals
    go_wp2_with fail
    go_ret
    exact ⟨_, _, rfl, by rw [HE.out]; exact hi2, hB2⟩
end Go.Proofs.Ytjhgjplhhhgfcaa
