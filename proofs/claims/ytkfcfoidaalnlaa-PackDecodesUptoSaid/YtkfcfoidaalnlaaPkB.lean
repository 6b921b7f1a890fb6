/- Package pack: a number read. -/
import Derived.Test.YtkfcfoidaalnlaaPkA
import Derived.Lib.EndianBits
namespace Go.Proofs.Ytkfcfoidaalnlaa.Pak
open Go.ChangeShapes Go.WideShapes Go.ChangeAt Go.RowKit
set_option linter.unusedVariables false
set_option linter.unusedSimpArgs false
set_option maxRecDepth 100000
theorem num_valB : ∀ L : List Int, num L = valB L
  | [] => rfl
  | b :: t => by show b + 256 * num t = b + 256 * valB t; rw [num_valB t]
theorem byt_of {L : List Int} (h : Bytes L) : Byt L := fun x hx => h x hx
theorem i64_63 (n : Int) (h0 : 0 ≤ n) (h1 : n < 2 ^ 63) : IntKind.i64.wrap n = n := IntWalk.i64_in _ (by rw [show (2 : Int) ^ 63 = 9223372036854775808 from rfl] at h1; omega)
theorem w64_in (x : Int) (h : 0 ≤ x ∧ x < 9223372036854775808) : wrap64 x = x := by unfold wrap64; omega
theorem or64 (v x : Int) (j : Nat) (hj : j < 4) (hv : 0 ≤ v ∧ v < 2 ^ (8 * j)) (hx : 0 ≤ x ∧ x < 256) : bits BinOp.or IntKind.i64 v (wrap64 (wrap64 x * 2 ^ (8 * j))) = v + 2 ^ (8 * j) * x := by
  obtain ⟨h0, h1⟩ := hx
  have hw : wrap64 x = x := w64_in _ (by omega)
  have hle : (2 : Int) ^ (8 * j) ≤ 2 ^ 24 := pow_le_of (by omega)
  have hp : (0 : Int) < 2 ^ (8 * j) := pow_pos' _
  rw [show (2 : Int) ^ 24 = 16777216 from rfl] at hle
  rw [hw]
  have hb : x * 2 ^ (8 * j) ≤ 255 * 2 ^ (8 * j) := Int.mul_le_mul_of_nonneg_right (by omega) (Int.le_of_lt hp)
  have hnn : 0 ≤ x * 2 ^ (8 * j) := Int.mul_nonneg h0 (Int.le_of_lt hp)
  rw [w64_in _ (by omega), bits_join_low .i64 63 (by decide) i64_63 (8 * j) v (x * 2 ^ (8 * j)) hv.1 hv.2 (by rw [show (2 : Int) ^ 63 = 9223372036854775808 from rfl]; omega) hnn (Int.mul_emod_left _ _) (by rw [show (2 : Int) ^ 63 = 9223372036854775808 from rfl]; omega), Int.mul_comm]
set_option maxHeartbeats 1000000 in
theorem number_any (w : World) (A : Option Addr) (n c : Nat) (L : List Int) (hL : L.length = n) (hn : n ≤ 4) (hB : Bytes L) (h : BytesAt w A L) :
    Calls Try.prog 47 #[.slice A n c] w fun e w' => e = .returned (.int .i64 (num L)) ∧ w = w' := by
  have HL := Lib.hid hL
  have HB := Lib.hid hB
  have HA := Lib.hid h
  clear hL h hB
  go_enter Try.func47, Try.ntmps47
  go_wp2_with fail
  go_loopw [3, 4, 5, 8, 9, 10, 11, 12, 13, 14, 15, 16, 17, 18, 19, 20] (fun a3 _ _ a8 _ _ _ _ _ _ _ _ _ _ _ _ wr => ∃ (j : Nat), a3 = .int .i64 (valB (L.take j)) ∧ a8 = .int .i64 j ∧ j ≤ n ∧ w = wr) (fun _ _ _ a8 _ _ _ _ _ _ _ _ _ _ _ _ _ => (n - (intOf a8)).toNat)
  case atStart => exact ⟨0, rfl, rfl, Nat.zero_le _, rfl⟩
  case round =>
    obtain ⟨j, rfl, rfl, hj, rfl⟩ := hrel
    by_cases hlt : j < n
    · have hlt' : (j : Int) < n := by omega
      obtain ⟨b, off, rfl, hbl, hcell⟩ := HA.out (by have := HL.out; omega)
      have x0 := hcell j (by have := HL.out; omega)
      have HT := Lib.hid (take_step L j (by have := HL.out; omega))
      have hy := byt_at (byt_of HB.out) j
      have hr := valB_rng (byt_take (byt_of HB.out) j)
      rw [List.length_take, Nat.min_eq_left (by have := HL.out; omega)] at hr
      have HY := Lib.hid hy
      have HR := Lib.hid hr
      clear hcell hy hr
      generalize L[j]?.getD 0 = x at *
      generalize valB (L.take j) = v at *
      go_wp2_with fail
      rw [or64 v x j (by omega) HR.out HY.out]
      go_roundw
      case rel => exact ⟨j + 1, by rw [HT.out], by go_num, by omega, trivial⟩
      case measure => simp [intOf]; omega
    · obtain rfl : j = n := by omega
      have HV := Lib.hid (show valB (L.take j) = num L by rw [num_valB, List.take_of_length_le (by have := HL.out; omega)])
      clear hlt HA
      go_wp2_with fail
      go_ret
      exact ⟨by rw [HV.out]; rfl, rfl⟩
theorem u32_wrap (n : Int) : IntKind.u32.wrap n = n % 4294967296 := by simp [IntKind.wrap, IntKind.bits, IntKind.signed]
theorem xor_u32 (a b : Nat) (ha : a < 4294967296) (hb : b < 4294967296) : bits BinOp.xor IntKind.u32 (a : Int) (b : Int) = ((a ^^^ b : Nat) : Int) := by
  show IntKind.u32.wrap (((BitVec.ofInt 32 (a : Int) ^^^ BitVec.ofInt 32 (b : Int)).toNat : Nat) : Int) = _
  rw [BitVec.toNat_xor, BitVec.toNat_ofInt, BitVec.toNat_ofInt, u32_wrap]
  have e1 : ((a : Int) % ((2 ^ 32 : Nat) : Int)).toNat = a := by omega
  have e2 : ((b : Int) % ((2 ^ 32 : Nat) : Int)).toNat = b := by omega
  rw [e1, e2]
  have h := Nat.xor_lt_two_pow (n := 32) ha hb
  omega
theorem step_eq (s : Nat) (x : Int) (hs : s < 4294967296) (hx : 0 ≤ x ∧ x < 256) : bits BinOp.xor IntKind.u32 (s : Int) (x % 4294967296) * 16777619 % 4294967296 = (stepS s x : Nat) := by
  have e1 : x % 4294967296 = (x.toNat : Int) := by omega
  rw [e1, xor_u32 _ _ hs (by omega)]
  unfold stepS
  omega
set_option maxHeartbeats 1000000 in
theorem sum_any (w : World) (A : Option Addr) (n c : Nat) (L : List Int) (hL : L.length = n) (hn : n ≤ 1099511627776) (hB : Bytes L) (h : BytesAt w A L) :
    Calls Try.prog 42 #[.slice A n c] w fun e w' => e = .returned (.int .u32 (sumN L)) ∧ w = w' := by
  have HL := Lib.hid hL
  have HB := Lib.hid hB
  have HA := Lib.hid h
  clear hL h hB
  go_enter Try.func42, Try.ntmps42
  go_wp2_with fail
  go_loopw [3, 5, 8, 9, 10, 11, 12, 13, 14, 15, 16, 17] (fun a3 _ a8 _ _ _ _ _ _ _ _ _ wr => ∃ (j s : Nat), a3 = .int .u32 s ∧ a8 = .int .i64 j ∧ j ≤ n ∧ s < 4294967296 ∧ Hid (sumF s (L.drop j) = sumN L) ∧ w = wr) (fun _ _ a8 _ _ _ _ _ _ _ _ _ _ => (n - (intOf a8)).toNat)
  case atStart => exact ⟨0, 2166136261, rfl, rfl, Nat.zero_le _, by decide, Lib.hid rfl, rfl⟩
  case round =>
    obtain ⟨j, s, rfl, rfl, hj, hs, HE, rfl⟩ := hrel
    by_cases hlt : j < n
    · have hlt' : (j : Int) < n := by omega
      obtain ⟨b, off, rfl, hbl, hcell⟩ := HA.out (by have := HL.out; omega)
      have x0 := hcell j (by have := HL.out; omega)
      have HY := Lib.hid (byt_at (byt_of HB.out) j)
      have hdr : L.drop j = (L[j]?.getD 0) :: L.drop (j + 1) := by
        have h1 : j < L.length := by have := HL.out; omega
        rw [List.getElem?_eq_getElem h1]; exact List.drop_eq_getElem_cons h1
      rw [hdr] at HE
      clear hcell hdr
      generalize L[j]?.getD 0 = x at *
      go_wp2_with fail
      rw [step_eq s x hs HY.out]
      go_roundw
      case rel => exact ⟨j + 1, stepS s x, rfl, by go_num, by omega, stepS_lt _ _, HE, trivial⟩
      case measure => simp [intOf]; omega
    · obtain rfl : j = n := by omega
      have HV := Lib.hid (show s = sumN L by rw [← HE.out, List.drop_of_length_le (by have := HL.out; omega)]; rfl)
      clear hlt HA HE
      go_wp2_with fail
      go_ret
      exact ⟨by rw [← HV.out]; rfl, rfl⟩
end Go.Proofs.Ytkfcfoidaalnlaa.Pak
