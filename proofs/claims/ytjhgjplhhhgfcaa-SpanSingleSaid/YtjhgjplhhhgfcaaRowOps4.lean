/- The document's arithmetic of rows of bits: bitwise, times. -/
import Derived.Test.YtjhgjplhhhgfcaaRowOps3
namespace Go.Proofs.Ytjhgjplhhhgfcaa
open Go.ChangeShapes Go.WideShapes Go.ChangeAt Go.RowKit
open Bits
set_option linter.unusedVariables false

/-- what bitwise makes of the sum of two bits -/
def bw (op s : Int) : Int := if op = 8 then (if 0 < s then 1 else 0) else if op = 9 then (if s = 2 then 1 else 0) else (if s = 1 then 1 else 0)
theorem zero_step (X : Int) (k j : Nat) (h : j < k) (h0 : X / 2 ^ j % 2 = 0) : bitsL X j ++ zerosL (k - j) = bitsL X (j + 1) ++ zerosL (k - (j + 1)) := by
  rw [← bits_step X k j h, h0]
  obtain ⟨m, hm⟩ : ∃ m, k - j = m + 1 := ⟨k - j - 1, by omega⟩
  rw [List.set_append_right _ _ (by rw [bitsL_length]; omega), bitsL_length, Nat.sub_self, hm]
  unfold zerosL
  rw [List.replicate_succ, List.set_cons_zero]

set_option maxHeartbeats 4000000 in
theorem bitwise_any (op : Int) (hop : op = 8 ∨ op = 9 ∨ op = 10) (P Q : Option Addr) (c d k : Nat) (a b X : Int) (w : World) (hk : k ≤ 65) (ha : IntsAt w P (bitsL a k)) (hb : IntsAt w Q (bitsL b k))
    (hX : ∀ j, j < k → X / 2 ^ j % 2 = bw op (a / 2 ^ j % 2 + b / 2 ^ j % 2)) :
    Calls Try.prog 79 #[.int .i64 op, .slice P k c, .slice Q k d] w (RowOut w k X) := by
  have hmk := make_ints k (by omega)
  have HA := Lib.hid ha
  have HB := Lib.hid hb
  have HX := Lib.hid hX
  have HO := Lib.hid hop
  clear ha hb hX hop
  go_enter Try.func79, Try.ntmps79
  go_wp2_with fail
  clear hmk
  go_loopw [8, 9, 28] (fun i s t wr => ∃ (j : Nat), j ≤ k ∧ i = .int .i64 j ∧ IntBlk wr w.heap.size (bitsL X j ++ zerosL (k - j)) ∧ Below w.heap.size w wr) (fun i _ _ _ => (k - intOf i).toNat)
  case atStart => exact ⟨0, Nat.zero_le _, rfl, IntBlk.new w (zerosL k), (Below.refl _ _).alloc (Nat.le_refl _) _⟩
  case round =>
    obtain ⟨j, hj, rfl, hblk, hB⟩ := hrel
    by_cases hlt : j < k
    · have hlt' : (j : Int) < k := by omega
      obtain ⟨b1, o1, rfl, hx1⟩ := HA.out.bit hB j hlt
      obtain ⟨b2, o2, rfl, hx2⟩ := HB.out.bit hB j hlt
      have s1 := HX.out j hlt
      have hset := fun u => hblk.set_ j u
      have hf := hblk.frozen j
      have hcell := hblk.cell j (by simp [bitsL_length, zerosL_length]; omega)
      have HS := Lib.hid (show 1 = X / 2 ^ j % 2 → IntBlk (wr.setCell ⟨w.heap.size, j, none⟩ (.int .i64 1)) w.heap.size (bitsL X (j + 1) ++ zerosL (k - (j + 1))) from fun hu => by
        have := hset 1
        rw [hu, bits_step X k j hlt] at this
        rw [hu]
        exact this)
      have HN := Lib.hid (show 0 = X / 2 ^ j % 2 → IntBlk wr w.heap.size (bitsL X (j + 1) ++ zerosL (k - (j + 1))) from fun hu => by
        rw [← zero_step X k j hlt hu.symm]; exact hblk)
      generalize (bitsL X j ++ zerosL (k - j))[j]?.getD 0 = old at hcell
      have r1 : 0 ≤ a / 2 ^ j % 2 ∧ a / 2 ^ j % 2 ≤ 1 := by omega
      have r2 : 0 ≤ b / 2 ^ j % 2 ∧ b / 2 ^ j % 2 ≤ 1 := by omega
      have S1 := Lib.hid s1
      clear hset s1 hblk
      generalize X / 2 ^ j % 2 = z at *
      generalize a / 2 ^ j % 2 = x1 at *
      generalize b / 2 ^ j % 2 = x2 at *
      have e1 : IntKind.i64.wrap (x1 + x2) = x1 + x2 := IntWalk.i64_in _ (by omega)
      obtain ⟨r10, r11⟩ := r1
      obtain ⟨r20, r21⟩ := r2
      go_wp2_with fail
      go_quiet (fail)
      clear e1
      obtain ⟨s, hs⟩ : ∃ s, x1 + x2 = s := ⟨_, rfl⟩
      rw [hs] at S1 ⊢
      have h3 : s = 0 ∨ s = 1 ∨ s = 2 := by omega
      clear hs r10 r11 r20 r21
      have hzz := S1.out
      rcases HO.out with rfl | rfl | rfl <;> rcases h3 with rfl | rfl | rfl <;> simp only [bw, Int.reduceEq, if_true, if_false, Int.reduceLT] at hzz
      all_goals
        have HZ := Lib.hid hzz.symm
        clear hzz
        go_wp2_with fail
        go_roundw
        case rel => exact ⟨j + 1, by omega, by go_num, by first | exact HS.out HZ.out | exact HN.out HZ.out, by first | exact (below_drewN hB nq).setCell (by simp) _ | exact below_drewN hB nq⟩
        case measure => simp [intOf]; omega
    · have hlt' : decide (j < k) = false := by simp; omega
      obtain rfl : j = k := by omega
      have HI := Lib.hid hblk
      clear hblk
      go_wp2_with fail
      go_ret
      exact ⟨_, _, Nat.le_refl _, rfl, HI.out.whole, hB⟩

/-! ### times -/
theorem times_step (a b : Int) (j : Nat) : a * (b % 2 ^ (j + 1)) = a * (b % 2 ^ j) + (b / 2 ^ j % 2) * (a * 2 ^ j) := by
  rw [Int.pow_succ, emod_mul2 b (2 ^ j) (pow_pos' j), Int.mul_add, Int.mul_comm (b / 2 ^ j % 2), Int.mul_assoc]
theorem up_b (P : Option Addr) (c k s : Nat) (t a : Int) (ht : (s : Int) = t) (w0 w : World) (hk : k ≤ 65) (hs : s ≤ k) (ha : IntsAt w P (bitsL a k)) (hB : Below w0.heap.size w0 w) :
    Calls Try.prog 76 #[.slice P k c, .int .i64 t] w fun e w' => ∃ P' c', e = .returned (.slice P' k c') ∧ IntsAt w' P' (bitsL (a * 2 ^ s) k) ∧ Below w.heap.size w w' ∧ Below w0.heap.size w0 w' :=
  (up_any P c k s t a ht w hk hs ha).mono fun _ _ ⟨P', c', _, he, hi, hbb⟩ => ⟨P', c', he, hi, hbb, hB.trans (hbb.mono hB.size)⟩

set_option maxHeartbeats 2000000 in
theorem times_any (P Q : Option Addr) (c d k : Nat) (a b : Int) (w : World) (hk : k ≤ 65) (ha : IntsAt w P (bitsL a k)) (hb : IntsAt w Q (bitsL b k)) :
    Calls Try.prog 73 #[.slice P k c, .slice Q k d] w fun e w' => ∃ P' c', e = .returned (.slice P' k c') ∧ IntsAt w' P' (bitsL (a * b) k) ∧ Below w.heap.size w w' := by
  have hmk := make_ints k (by omega)
  have HA := Lib.hid ha
  have HB := Lib.hid hb
  have HE := Lib.hid (show bitsL (a * (b % 2 ^ k)) k = bitsL (a * b) k from bitsL_congr (by rw [Int.mul_emod, Int.emod_emod, ← Int.mul_emod]))
  clear ha hb
  go_enter Try.func73, Try.ntmps73
  go_wp2_with fail
  clear hmk
  go_loopw [5, 6] (fun v i wr => ∃ (j : Nat) (P' : Option Addr) (c' : Nat), j ≤ k ∧ i = .int .i64 j ∧ v = .slice P' k c' ∧ IntsAt wr P' (bitsL (a * (b % 2 ^ j)) k) ∧ Below w.heap.size w wr) (fun _ i _ => (k - intOf i).toNat)
  case atStart => exact ⟨0, _, _, Nat.zero_le _, rfl, rfl, by simpa [Int.emod_one] using zeros_new k w, (Below.refl _ _).alloc (Nat.le_refl _) _⟩
  case round =>
    obtain ⟨j, P', c', hj, rfl, rfl, hi, hB⟩ := hrel
    by_cases hlt : j < k
    · have hlt' : (j : Int) < k := by omega
      obtain ⟨b2, o2, rfl, hx2⟩ := HB.out.bit hB j hlt
      have s1 := times_step a b j
      rcases Int.emod_two_eq (b / 2 ^ j) with hz | hz
      · rw [hz] at hx2 s1
        have S1 := Lib.hid (show a * (b % 2 ^ (j + 1)) = a * (b % 2 ^ j) by omega)
        clear s1 hz
        go_wp2_with fail
        go_roundw
        case rel => exact ⟨j + 1, _, _, by omega, by go_num, rfl, by rw [S1.out]; exact hi, hB⟩
        case measure => simp [intOf]; omega
      · rw [hz] at hx2 s1
        have S1 := Lib.hid (show a * (b % 2 ^ (j + 1)) = a * (b % 2 ^ j) + a * 2 ^ j + 0 by omega)
        have C1 := Lib.hid (up_b P c k j (j : Int) a rfl w wr hk hj (HA.out.below hB) hB)
        have HI := Lib.hid hi
        clear s1 hz hi
        go_wp2_with fail
        refine C1.out.mono ?_
        rintro e w1 ⟨P1, c1, rfl, hi1, hb1, hB1⟩
        have C2 := Lib.hid (plus_b P' P1 c' c1 k _ _ 0 w w1 hk (.inl rfl) (HI.out.below hb1) hi1 hB1)
        clear C1 hi1 hb1 hB1
        go_wp2_with fail
        refine C2.out.mono ?_
        rintro e w2 ⟨P2, c2, rfl, hi2, hB2⟩
        rw [← S1.out] at hi2
        go_wp2_with fail
        go_roundw
        case rel => exact ⟨j + 1, _, _, by omega, by go_num, rfl, hi2, hB2⟩
        case measure => simp [intOf]; omega
    · have hlt' : decide (j < k) = false := by simp; omega
      obtain rfl : j = k := by omega
      have HI := Lib.hid hi
      clear hi
      go_wp2_with fail
      go_ret
      exact ⟨_, _, rfl, by rw [← HE.out]; exact HI.out, hB⟩
end Go.Proofs.Ytjhgjplhhhgfcaa
