/- HelpSlow: the walk. -/
import Derived.Test.YtmdblhgnncfooaaHG
namespace Go.Proofs.Ytmdblhgnncfooaa
open Go.ChangeShapes Go.WideShapes Go.ChangeAt Go.RowKit
open Bits HM
set_option linter.unusedVariables false
set_option linter.unusedSimpArgs false

theorem sumW_app : ∀ (a b : List Int) (s : Int), a.length % 2 = 0 → sumW (a ++ b) s = sumW b (sumW a s)
  | [], b, s, _ => rfl
  | [x], b, s, h => by simp at h
  | x :: y :: r, b, s, h => by
    show sumW (r ++ b) (plusV s (256 * x + y)) = sumW b (sumW r (plusV s (256 * x + y)))
    exact sumW_app r b _ (by simp at h; omega)
theorem sumW_two_at (L : List Int) (i : Nat) (s : Int) (h2 : i % 2 = 0) (hi : i + 1 < L.length) : sumW (L.take (i + 2)) s = plusV (sumW (L.take i) s) (256 * L[i]?.getD 0 + L[i + 1]?.getD 0) := by
  have e : L.take (i + 2) = L.take i ++ [L[i]?.getD 0, L[i + 1]?.getD 0] := by
    rw [show i + 2 = (i + 1) + 1 from rfl, List.take_add_one, List.take_add_one, List.getElem?_eq_getElem (by omega), List.getElem?_eq_getElem (by omega)]
    simp only [Option.toList, List.append_assoc, List.cons_append, List.nil_append, Option.getD_some]
  rw [e, sumW_app _ _ _ (by rw [List.length_take, Nat.min_eq_left (by omega)]; exact h2)]
  rfl
theorem sumW_one_at (L : List Int) (i : Nat) (s : Int) (h2 : i % 2 = 0) (hi : i + 1 = L.length) : sumW (L.take (i + 2)) s = plusV (sumW (L.take i) s) (256 * L[i]?.getD 0) := by
  have e : L.take (i + 2) = L.take i ++ [L[i]?.getD 0] := by
    rw [show L.take (i + 2) = L.take (i + 1) by rw [List.take_of_length_le (by omega), List.take_of_length_le (by omega)], List.take_add_one, List.getElem?_eq_getElem (by omega)]
    simp
  rw [e, sumW_app _ _ _ (by rw [List.length_take, Nat.min_eq_left (by omega)]; exact h2)]
  rfl

set_option maxRecDepth 100000 in
set_option maxHeartbeats 1600000 in
theorem helpSlow_walk (w : World) (A : Option Addr) (n c : Nat) (L : List Int) (hL : L.length = n) (hnc : n ≤ c ∧ c ≤ 140737488351232) (hb : Byt L) (hA : BytesAt w A L) (seed : Int) (hseed : -9223372036854775808 ≤ seed ∧ seed ≤ 9223372036854775807) :
    Calls Try.prog 11 #[.slice A n c, .int .i64 seed] w fun e w' => e = .returned (.bool true) ∧ Below w.heap.size w w' := by
  have hk := Lib.hid (known_any w)
  have HL := Lib.hid hL
  have HB := Lib.hid hb
  have HA := Lib.hid hA
  have ha := and16 seed
  have h0 : 0 ≤ seed % 65536 ∧ seed % 65536 ≤ 65535 := by omega
  have hsum := Lib.hid (fun w hA => sum_any w A n c L seed hL hnc.1 (by unfold maxLen; omega) hb hA)
  obtain ⟨hn1, hn2⟩ := hnc
  clear hL hb hA
  generalize seed % 65536 = s0 at *
  go_enter Try.func11, Try.ntmps11
  go_wp2_with fail
  refine hk.out.mono ?_
  rintro e w1 ⟨rfl, hB⟩
  have hbb : BytesAt w1 A L := HA.out.below hB
  have HA1 := Lib.hid hbb
  clear hbb hk HA
  go_wp2_with fail
  clear ha
  go_loopw [5, 6, 7] (fun s i _ wr => ∃ k : Nat, k ≤ n + 1 ∧ k % 2 = 0 ∧ i = .int .i64 k ∧ s = .int .i64 (sumW (L.take k) s0) ∧ wr = w1) (fun _ i _ _ => (n + 2 - intOf i).toNat)
  case atStart => exact ⟨0, Nat.zero_le _, rfl, rfl, rfl, rfl⟩
  case round =>
    obtain ⟨k, hk, hk2, rfl, rfl, rfl⟩ := hrel
    have hr := sumW_rng (L.take k) s0 (byt_take HB.out k) h0
    obtain ⟨hr0, hr1⟩ := hr
    by_cases hlt : k < n
    · obtain ⟨b, off, rfl, hbl, hc⟩ := HA1.out (by have := HL.out; omega)
      have hc0 := hc k (by have := HL.out; omega)
      have hx := byt_at HB.out k
      obtain ⟨hx0, hx1⟩ := hx
      have f1 : (k : Int) < n := by omega
      by_cases h1 : k + 1 < n
      · have hc1 := hc (k + 1) (by have := HL.out; omega)
        have hy := byt_at HB.out (k + 1)
        obtain ⟨hy0, hy1⟩ := hy
        have HS := Lib.hid (sumW_two_at L k s0 hk2 (by have := HL.out; omega))
        have f2 : (k : Int) + 1 < n := by omega
        have e0 : off + (k + 1) = off + k + 1 := by omega
        rw [e0] at hc1
        clear hc
        generalize L[k]?.getD 0 = x at *
        generalize L[k + 1]?.getD 0 = y at *
        generalize sumW (L.take k) s0 = t at *
        by_cases hp : 65535 < t + (256 * x + y)
        · have e : sumW (L.take (k + 2)) s0 = t + (256 * x + y) - 65535 := by rw [HS.out]; unfold plusV; rw [if_pos hp]
          have HE := Lib.hid e
          clear HS e
          go_wp2_with fail
          go_roundw
          case rel => exact ⟨k + 2, by omega, by omega, by go_num, by rw [HE.out], trivial⟩
          case measure => simp [intOf]; omega
        · have e : sumW (L.take (k + 2)) s0 = t + (256 * x + y) := by rw [HS.out]; unfold plusV; rw [if_neg hp]
          have HE := Lib.hid e
          clear HS e
          go_wp2_with fail
          go_roundw
          case rel => exact ⟨k + 2, by omega, by omega, by go_num, by rw [HE.out], trivial⟩
          case measure => simp [intOf]; omega
      · have HS := Lib.hid (sumW_one_at L k s0 hk2 (by have := HL.out; omega))
        have f2 : decide ((k : Int) + 1 < n) = false := by simp; omega
        clear hc
        generalize L[k]?.getD 0 = x at *
        generalize sumW (L.take k) s0 = t at *
        by_cases hp : 65535 < t + 256 * x
        · have e : sumW (L.take (k + 2)) s0 = t + 256 * x - 65535 := by rw [HS.out]; unfold plusV; rw [if_pos hp]
          have HE := Lib.hid e
          clear HS e
          go_wp2_with fail
          go_roundw
          case rel => exact ⟨k + 2, by omega, by omega, by go_num, by rw [HE.out], trivial⟩
          case measure => simp [intOf]; omega
        · have e : sumW (L.take (k + 2)) s0 = t + 256 * x := by rw [HS.out]; unfold plusV; rw [if_neg hp]
          have HE := Lib.hid e
          clear HS e
          go_wp2_with fail
          go_roundw
          case rel => exact ⟨k + 2, by omega, by omega, by go_num, by rw [HE.out], trivial⟩
          case measure => simp [intOf]; omega
    · have f1 : decide ((k : Int) < n) = false := by simp; omega
      have hv : L.take k = L := List.take_of_length_le (by have := HL.out; omega)
      rw [hv]
      have h2 := Lib.hid (hsum.out wr HA1.out)
      clear hsum hv
      generalize sumW L s0 = t at *
      go_wp2_with fail
      refine h2.out.mono ?_
      rintro e w2 ⟨rfl, q, rfl⟩
      go_wp2_with fail
      go_ret
      exact ⟨by simp, below_drewN hB q⟩
end Go.Proofs.Ytmdblhgnncfooaa
