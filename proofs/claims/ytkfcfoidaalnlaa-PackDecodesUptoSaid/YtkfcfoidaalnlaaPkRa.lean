/- Package pack: the document's own numbers in bytes: written low byte first, and read. -/
import Derived.Test.YtkfcfoidaalnlaaPkW
namespace Go.Proofs.Ytkfcfoidaalnlaa.Pak
open Go.ChangeShapes Go.WideShapes Go.ChangeAt Go.RowKit
set_option linter.unusedVariables false
set_option linter.unusedSimpArgs false
set_option maxRecDepth 100000
set_option maxHeartbeats 2000000 in
theorem rlow_any (w : World) (v : Int) (k : Nat) (hv : 0 ≤ v ∧ v ≤ 9223372036854775807) (hk : k ≤ 1048576) :
    Calls Try.prog 27 #[.int .i64 v, .int .i64 k] w (CopEnd w (le v k)) := by
  have HO := Lib.hid (OwnB.nil w w.heap.size)
  have HV := Lib.hid hv
  clear hv
  go_enter Try.func27, Try.ntmps27
  go_wp2_with fail
  go_loopw [0, 5, 6, 7, 8, 9, 10, 11, 12, 13, 14, 15, 16, 17, 18, 19] (fun a0 a5 a6 _ _ _ _ _ _ _ _ _ _ _ _ _ wr => ∃ (j : Nat) (m : Int) (M : List Int), a0 = .int .i64 m ∧ a6 = .int .i64 j ∧ j ≤ k ∧ Hid (0 ≤ m ∧ m ≤ 9223372036854775807) ∧ Hid (M ++ le m (k - j) = le v k) ∧ OwnB wr w.heap.size a5 M ∧ Below w.heap.size w wr) (fun _ _ a6 _ _ _ _ _ _ _ _ _ _ _ _ _ _ => (k - (intOf a6)).toNat)
  case atStart => exact ⟨0, v, [], rfl, rfl, Nat.zero_le _, HV, Lib.hid rfl, HO.out, Below.refl _ _⟩
  case round =>
    obtain ⟨j, m, M, rfl, rfl, hj, HM, HE, hO, hB⟩ := hrel
    have HOM := Lib.hid hO
    have HB := Lib.hid hB
    clear hO hB HO
    by_cases hlt : j < k
    · have hlt' : (j : Int) < k := by omega
      have hM8 := u8_wrap m
      have hM9 := u8_wrap (m % 256)
      rw [Int.emod_emod_of_dvd _ (Int.dvd_refl _)] at hM9
      obtain ⟨hm0, hm1⟩ := HM.out
      have hbe := below_box wr (.cells #[.int .u8 (m % 256)] 5)
      have HOB := Lib.hid (ownB_up HOM.out hbe)
      have HBX := Lib.hid (bytes_box wr (m % 256))
      have HUB := Lib.hid (HB.out.trans (hbe.mono HB.out.size))
      have HS2 := Lib.hid HUB.out.size
      have HML := Lib.hid (show M.length + 1 ≤ 140737488355328 by
        have h1 := congrArg List.length HE.out
        simp only [List.length_append, le_len] at h1
        omega)
      have HM2 := Lib.hid (show 0 ≤ m / 256 ∧ m / 256 ≤ 9223372036854775807 by omega)
      have HE2 := Lib.hid (show (M ++ [m % 256]) ++ le (m / 256) (k - (j + 1)) = le v k by
        rw [← HE.out, show k - j = (k - (j + 1)) + 1 by omega, List.append_assoc]; rfl)
      obtain ⟨A, c, rfl, -⟩ := HOM.out.form
      obtain ⟨q, hq⟩ : ∃ q, q = M.length := ⟨_, rfl⟩
      rw [← hq] at HOB HOM ⊢
      clear hbe HOM HE hq HB
      go_wp2_with (at_builtin; (refine append_bytesG Try.underlying22 byte_info _ rfl (.tmp 12) (.tmp 16) rfl w.heap.size _ M rfl HOB.out _ 1 1 [m % 256] rfl rfl HBX.out HML.out HS2.out ?_; intro v9 w9 hown9 hg9; have hUT := UT.grown hg9 HOB.out HS2.out))
      go_roundw
      case rel => exact ⟨j + 1, m / 256, M ++ [m % 256], by go_num, by go_num, by omega, HM2, HE2, hown9, HUB.out.trans hUT.below⟩
      case measure => simp [intOf]; omega
    · obtain rfl : j = k := by omega
      have HE2 := Lib.hid (show M = le v j by rw [← HE.out, Nat.sub_self]; exact (List.append_nil _).symm)
      clear HE hlt
      obtain ⟨A, c, rfl, -⟩ := HOM.out.form
      go_wp2_with fail
      go_ret
      exact ⟨_, rfl, by rw [← HE2.out]; exact HOM.out, HB.out⟩
set_option maxHeartbeats 2000000 in
theorem rvalue_any (w : World) (A : Option Addr) (n c : Nat) (L : List Int) (hL : L.length = n) (hn : n ≤ 4) (hB : Bytes L) (h : BytesAt w A L) :
    Calls Try.prog 45 #[.slice A n c] w fun e w' => e = .returned (.int .i64 (num L)) ∧ w = w' := by
  have HL := Lib.hid hL
  have HB := Lib.hid hB
  have HA := Lib.hid h
  clear hL h hB
  go_enter Try.func45, Try.ntmps45
  go_wp2_with fail
  go_loopw [3, 4, 5, 6, 7, 8, 9, 10, 11, 12, 13, 14, 15, 16, 17, 18, 19, 20, 21, 22] (fun a3 a4 a5 _ _ _ _ _ _ _ _ _ _ _ _ _ _ _ _ _ wr => ∃ (j : Nat), a3 = .int .i64 (valB (L.take j)) ∧ a4 = .int .i64 (2 ^ (8 * j)) ∧ a5 = .int .i64 j ∧ j ≤ n ∧ w = wr) (fun _ _ a5 _ _ _ _ _ _ _ _ _ _ _ _ _ _ _ _ _ _ => (n - (intOf a5)).toNat)
  case atStart => exact ⟨0, rfl, rfl, rfl, Nat.zero_le _, rfl⟩
  case round =>
    obtain ⟨j, rfl, rfl, rfl, hj, rfl⟩ := hrel
    by_cases hlt : j < n
    · have hlt' : (j : Int) < n := by omega
      obtain ⟨b, off, rfl, hbl, hcell⟩ := HA.out (by have := HL.out; omega)
      have x0 := hcell j (by have := HL.out; omega)
      have HT := Lib.hid (take_step L j (by have := HL.out; omega))
      have hy := byt_at (byt_of HB.out) j
      have hr := valB_rng (byt_take (byt_of HB.out) j)
      rw [List.length_take, Nat.min_eq_left (by have := HL.out; omega)] at hr
      obtain ⟨hy0, hy1⟩ := hy
      obtain ⟨hr0, hr1⟩ := hr
      have hle : (2 : Int) ^ (8 * j) ≤ 2 ^ 24 := pow_le_of (by omega)
      have hp : (0 : Int) < 2 ^ (8 * j) := pow_pos' _
      rw [show (2 : Int) ^ 24 = 16777216 from rfl] at hle
      have HP := Lib.hid (show (2 : Int) ^ (8 * (j + 1)) = 2 ^ (8 * j) * 256 by rw [show 8 * (j + 1) = 8 * j + 8 by omega, Int.pow_add]; rfl)
      clear hcell
      generalize L[j]?.getD 0 = x at *
      generalize valB (L.take j) = v at *
      generalize (2 : Int) ^ (8 * j) = m at *
      have hb : x * m ≤ 255 * m := Int.mul_le_mul_of_nonneg_right (by omega) (Int.le_of_lt hp)
      have hnn : 0 ≤ x * m := Int.mul_nonneg hy0 (Int.le_of_lt hp)
      have hxm : IntKind.i64.wrap (x * m) = x * m := IntWalk.i64_in _ (by omega)
      have hxm2 : wrap64 (x * m) = x * m := w64_in _ (by omega)
      have hvm2 : wrap64 (v + x * m) = v + x * m := w64_in _ (by omega)
      go_wp2_with fail
      go_roundw
      case rel => exact ⟨j + 1, by rw [HT.out, Int.mul_comm m x], by rw [HP.out], by go_num, by omega, trivial⟩
      case measure => simp [intOf]; omega
    · obtain rfl : j = n := by omega
      have HV := Lib.hid (show valB (L.take j) = num L by rw [num_valB, List.take_of_length_le (by have := HL.out; omega)])
      clear hlt HA
      go_wp2_with fail
      go_ret
      exact ⟨by rw [HV.out]; rfl, rfl⟩
end Go.Proofs.Ytkfcfoidaalnlaa.Pak
