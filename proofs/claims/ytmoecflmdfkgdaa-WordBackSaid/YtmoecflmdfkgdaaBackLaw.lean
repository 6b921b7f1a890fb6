/- WordBack: the walk of the law. -/
import Derived.Test.YtmoecflmdfkgdaaBackMath
import Derived.Deep.QuietTactic
import Derived.BigQuiet
import Derived.Deep.DeepCutAuto
namespace Go.Proofs.Ytmoecflmdfkgdaa
open Go.ChangeShapes Go.WideShapes Go.ChangeAt Go.RowKit
open Bits
set_option linter.unusedVariables false

/-- a long list of operations, laid in two pieces -/
theorem plain_list (P : Program) (i : Nat) (l m : List Oper) (b : Bool) (Q : Exit → Act → World → Prop) (a : Act) (w : World) : Code.wp P (Code.region i (l.append m).toArray b) Q a w = Code.wp P (Code.region i (l ++ m).toArray b) Q a w := rfl
theorem bput (k v : Int) (n : Nat) (hn : (n : Int) = k) (h1 : 1 ≤ n) (h8 : n ≤ 8) (w : World) :
    Calls Try.prog 27 #[.int .i64 k, .int .i64 v] w fun e w' => e = .returned (.slice (some ⟨w.heap.size, 0, none⟩) n n) ∧ ByteBlk w' w.heap.size (bytesL v n) ∧ Below w.heap.size w w' ∧ w'.heap.size = w.heap.size + 1 := by
  subst hn; exact put_yes n v h1 h8 w
theorem bcopy (w : World) (A : Option Addr) (n c : Nat) (L : List Int) (hL : L.length = n) (hlen : n ≤ 140737488355328) (h : BytesAt w A L) :
    Calls Try.prog 22 #[.slice A n c] w fun e w' => ∃ A' c', e = .returned (.slice A' n c') ∧ BytesAt w' A' L ∧ Below w.heap.size w w' := by
  subst hL; exact copyBytes_any w A _ c L rfl hlen h

theorem bf1 (v : Int) (y : Int) (hy : sx 8 v = y) : (decide (y < 0)) = (v % 256 / 128 == 1) ∧ decide (y < -128) = false ∧ decide (128 ≤ y) = false ∧ y % 256 = v % 256 := by
  have e : sx 8 v = if v % 256 < 128 then v % 256 else v % 256 - 256 := rfl
  rw [e] at hy
  by_cases h : v % 256 < 128
  · rw [if_pos h] at hy
    have h1 : ¬ y < 0 := by omega
    have h2 : ¬ v % 256 / 128 = 1 := by omega
    exact ⟨by simp [h1, h2], by rw [decide_eq_false_iff_not]; omega, by rw [decide_eq_false_iff_not]; omega, by omega⟩
  · rw [if_neg h] at hy
    have h1 : y < 0 := by omega
    have h2 : v % 256 / 128 = 1 := by omega
    exact ⟨by simp [h1, h2], by rw [decide_eq_false_iff_not]; omega, by rw [decide_eq_false_iff_not]; omega, by omega⟩

theorem bf2 (v : Int) (y : Int) (hy : sx 16 v = y) : (decide (y < 0)) = (v % 65536 / 32768 == 1) ∧ decide (y < -32768) = false ∧ decide (32768 ≤ y) = false ∧ y % 65536 = v % 65536 := by
  have e : sx 16 v = if v % 65536 < 32768 then v % 65536 else v % 65536 - 65536 := rfl
  rw [e] at hy
  by_cases h : v % 65536 < 32768
  · rw [if_pos h] at hy
    have h1 : ¬ y < 0 := by omega
    have h2 : ¬ v % 65536 / 32768 = 1 := by omega
    exact ⟨by simp [h1, h2], by rw [decide_eq_false_iff_not]; omega, by rw [decide_eq_false_iff_not]; omega, by omega⟩
  · rw [if_neg h] at hy
    have h1 : y < 0 := by omega
    have h2 : v % 65536 / 32768 = 1 := by omega
    exact ⟨by simp [h1, h2], by rw [decide_eq_false_iff_not]; omega, by rw [decide_eq_false_iff_not]; omega, by omega⟩

theorem bf3 (v : Int) (y : Int) (hy : sx 24 v = y) : (decide (y < 0)) = (v % 16777216 / 8388608 == 1) ∧ decide (y < -8388608) = false ∧ decide (8388608 ≤ y) = false ∧ y % 16777216 = v % 16777216 := by
  have e : sx 24 v = if v % 16777216 < 8388608 then v % 16777216 else v % 16777216 - 16777216 := rfl
  rw [e] at hy
  by_cases h : v % 16777216 < 8388608
  · rw [if_pos h] at hy
    have h1 : ¬ y < 0 := by omega
    have h2 : ¬ v % 16777216 / 8388608 = 1 := by omega
    exact ⟨by simp [h1, h2], by rw [decide_eq_false_iff_not]; omega, by rw [decide_eq_false_iff_not]; omega, by omega⟩
  · rw [if_neg h] at hy
    have h1 : y < 0 := by omega
    have h2 : v % 16777216 / 8388608 = 1 := by omega
    exact ⟨by simp [h1, h2], by rw [decide_eq_false_iff_not]; omega, by rw [decide_eq_false_iff_not]; omega, by omega⟩

theorem bf4 (v : Int) (y : Int) (hy : sx 32 v = y) : (decide (y < 0)) = (v % 4294967296 / 2147483648 == 1) ∧ decide (y < -2147483648) = false ∧ decide (2147483648 ≤ y) = false ∧ y % 4294967296 = v % 4294967296 := by
  have e : sx 32 v = if v % 4294967296 < 2147483648 then v % 4294967296 else v % 4294967296 - 4294967296 := rfl
  rw [e] at hy
  by_cases h : v % 4294967296 < 2147483648
  · rw [if_pos h] at hy
    have h1 : ¬ y < 0 := by omega
    have h2 : ¬ v % 4294967296 / 2147483648 = 1 := by omega
    exact ⟨by simp [h1, h2], by rw [decide_eq_false_iff_not]; omega, by rw [decide_eq_false_iff_not]; omega, by omega⟩
  · rw [if_neg h] at hy
    have h1 : y < 0 := by omega
    have h2 : v % 4294967296 / 2147483648 = 1 := by omega
    exact ⟨by simp [h1, h2], by rw [decide_eq_false_iff_not]; omega, by rw [decide_eq_false_iff_not]; omega, by omega⟩

theorem bf5 (v : Int) (y : Int) (hy : sx 40 v = y) : (decide (y < 0)) = (v % 1099511627776 / 549755813888 == 1) ∧ decide (y < -549755813888) = false ∧ decide (549755813888 ≤ y) = false ∧ y % 1099511627776 = v % 1099511627776 := by
  have e : sx 40 v = if v % 1099511627776 < 549755813888 then v % 1099511627776 else v % 1099511627776 - 1099511627776 := rfl
  rw [e] at hy
  by_cases h : v % 1099511627776 < 549755813888
  · rw [if_pos h] at hy
    have h1 : ¬ y < 0 := by omega
    have h2 : ¬ v % 1099511627776 / 549755813888 = 1 := by omega
    exact ⟨by simp [h1, h2], by rw [decide_eq_false_iff_not]; omega, by rw [decide_eq_false_iff_not]; omega, by omega⟩
  · rw [if_neg h] at hy
    have h1 : y < 0 := by omega
    have h2 : v % 1099511627776 / 549755813888 = 1 := by omega
    exact ⟨by simp [h1, h2], by rw [decide_eq_false_iff_not]; omega, by rw [decide_eq_false_iff_not]; omega, by omega⟩

theorem bf6 (v : Int) (y : Int) (hy : sx 48 v = y) : (decide (y < 0)) = (v % 281474976710656 / 140737488355328 == 1) ∧ decide (y < -140737488355328) = false ∧ decide (140737488355328 ≤ y) = false ∧ y % 281474976710656 = v % 281474976710656 := by
  have e : sx 48 v = if v % 281474976710656 < 140737488355328 then v % 281474976710656 else v % 281474976710656 - 281474976710656 := rfl
  rw [e] at hy
  by_cases h : v % 281474976710656 < 140737488355328
  · rw [if_pos h] at hy
    have h1 : ¬ y < 0 := by omega
    have h2 : ¬ v % 281474976710656 / 140737488355328 = 1 := by omega
    exact ⟨by simp [h1, h2], by rw [decide_eq_false_iff_not]; omega, by rw [decide_eq_false_iff_not]; omega, by omega⟩
  · rw [if_neg h] at hy
    have h1 : y < 0 := by omega
    have h2 : v % 281474976710656 / 140737488355328 = 1 := by omega
    exact ⟨by simp [h1, h2], by rw [decide_eq_false_iff_not]; omega, by rw [decide_eq_false_iff_not]; omega, by omega⟩

theorem bf7 (v : Int) (y : Int) (hy : sx 56 v = y) : (decide (y < 0)) = (v % 72057594037927936 / 36028797018963968 == 1) ∧ decide (y < -36028797018963968) = false ∧ decide (36028797018963968 ≤ y) = false ∧ y % 72057594037927936 = v % 72057594037927936 := by
  have e : sx 56 v = if v % 72057594037927936 < 36028797018963968 then v % 72057594037927936 else v % 72057594037927936 - 72057594037927936 := rfl
  rw [e] at hy
  by_cases h : v % 72057594037927936 < 36028797018963968
  · rw [if_pos h] at hy
    have h1 : ¬ y < 0 := by omega
    have h2 : ¬ v % 72057594037927936 / 36028797018963968 = 1 := by omega
    exact ⟨by simp [h1, h2], by rw [decide_eq_false_iff_not]; omega, by rw [decide_eq_false_iff_not]; omega, by omega⟩
  · rw [if_neg h] at hy
    have h1 : y < 0 := by omega
    have h2 : v % 72057594037927936 / 36028797018963968 = 1 := by omega
    exact ⟨by simp [h1, h2], by rw [decide_eq_false_iff_not]; omega, by rw [decide_eq_false_iff_not]; omega, by omega⟩


set_option maxRecDepth 100000 in
set_option maxHeartbeats 4000000 in
theorem wordBack_walk (v : Int) (rv : -9223372036854775808 ≤ v ∧ v ≤ 9223372036854775807) (A : Option Addr) (n c : Nat) (L : List Int) (hL : L.length = n) (hn : n ≤ 140737488351232) (hb : Byt L) (w : World) (hA : BytesAt w A L) :
    Calls Try.prog 9 #[.int .i64 v, .slice A n c] w fun e w' => e = .returned (.bool true) ∧ Below w.heap.size w w' := by
  have RV := Lib.hid rv
  have HA := Lib.hid hA
  have HL := Lib.hid hL
  have HB := Lib.hid hb
  have HN := Lib.hid hn
  clear rv hA hL hb hn
  go_enter Try.func9, Try.ntmps9
  go_wp2_with fail
  go_loopw [5] (fun s wr => ∃ j : Nat, 1 ≤ j ∧ j ≤ 9 ∧ s = .int .i64 (j : Int) ∧ Below w.heap.size w wr) (fun s _ => (9 - intOf s).toNat)
  case atStart => exact ⟨1, by omega, by omega, rfl, Below.refl _ _⟩
  case round =>
    obtain ⟨j, hj1, hj9, rfl, hB⟩ := hrel
    have hj : j = 1 ∨ j = 2 ∨ j = 3 ∨ j = 4 ∨ j = 5 ∨ j = 6 ∨ j = 7 ∨ j = 8 ∨ j = 9 := by omega
    clear hj1 hj9
    rcases hj with rfl | rfl | rfl | rfl | rfl | rfl | rfl | rfl | rfl
    · have X : getV (bytesL v 1) false = v % 256 := bk_unsigned 1 v (by decide) (by decide)
      have Y : getV (bytesL v 1) true = sx 8 v := bk_get 1 v (by decide) (by decide)
      obtain ⟨y, hy⟩ : ∃ y, sx 8 v = y := ⟨_, rfl⟩
      rw [hy] at Y
      obtain ⟨t1, t2, t3, t4⟩ := bf1 v y hy
      have LV := fun w => llow_any v 8 (by decide) w
      have LY := fun w => llow_any y 8 (by decide) w
      rw [show (2 : Int) ^ 8 = 256 by decide +kernel] at LV LY
      rw [t4] at LY
      obtain ⟨x, hx⟩ : ∃ x, v % 256 = x := ⟨_, rfl⟩
      rw [hx] at X t1 LV LY
      clear hx hy t4
      have HX := Lib.hid X
      have HY := Lib.hid Y
      clear X Y
      have HLV := Lib.hid LV
      have HLY := Lib.hid LY
      have T1 := Lib.hid t1
      clear LV LY t1
      go_wp2_with fail
      refine (bput _ _ 1 (by decide) (by decide) (by decide) _).mono ?_
      rintro e w1 ⟨rfl, hb1, hB1, hs1⟩
      have hC1 := hB.trans (hB1.mono hB.size)
      clear hB1 hs1 hB
      generalize wr.heap.size = g at *
      go_wp2_with fail
      refine (bcopy _ _ _ _ _ (bytesL_length v 1) (by omega) hb1.at_).mono ?_
      rintro e w2 ⟨A2, c2, rfl, hat2, hB2⟩
      have hb2 := hb1.below hB2 hb1.lt
      have hC2 := hC1.trans (hB2.mono hC1.size)
      clear hb1 hB2 hC1
      go_wp2_with fail
      refine (get_yes _ _ _ _ _ _ (bytesL_length v 1) (by decide) (by decide) (byt_bytes v 1) hat2).mono ?_
      rintro e w' ⟨rfl, rfl⟩
      rw [HX.out]
      clear hat2
      go_wp2_with fail
      refine (bcopy _ _ _ _ _ (bytesL_length v 1) (by omega) hb2.at_).mono ?_
      rintro e w3 ⟨A3, c3, rfl, hat3, hB3⟩
      have hC3 := hC2.trans (hB3.mono hC2.size)
      clear hb2 hB3 hC2
      go_wp2_with fail
      refine (get_yes _ _ _ _ _ _ (bytesL_length v 1) (by decide) (by decide) (byt_bytes v 1) hat3).mono ?_
      rintro e w' ⟨rfl, rfl⟩
      rw [HY.out]
      clear hat3
      go_upto_region 7 with (fail)
      rw [plain_list]
      simp only [List.cons_append, List.nil_append]
      go_wp2_with fail
      refine (HLV.out _).mono ?_
      rintro e w' ⟨rfl, rfl⟩
      go_wp2_with fail
      refine (HLY.out _).mono ?_
      rintro e w' ⟨rfl, rfl⟩
      have t1 := T1.out
      go_wp2_with fail
      go_roundw
      case rel => exact ⟨2, by omega, by omega, rfl, hC3⟩
      case measure => simp [intOf]

    · have X : getV (bytesL v 2) false = v % 65536 := bk_unsigned 2 v (by decide) (by decide)
      have Y : getV (bytesL v 2) true = sx 16 v := bk_get 2 v (by decide) (by decide)
      obtain ⟨y, hy⟩ : ∃ y, sx 16 v = y := ⟨_, rfl⟩
      rw [hy] at Y
      obtain ⟨t1, t2, t3, t4⟩ := bf2 v y hy
      have LV := fun w => llow_any v 16 (by decide) w
      have LY := fun w => llow_any y 16 (by decide) w
      rw [show (2 : Int) ^ 16 = 65536 by decide +kernel] at LV LY
      rw [t4] at LY
      obtain ⟨x, hx⟩ : ∃ x, v % 65536 = x := ⟨_, rfl⟩
      rw [hx] at X t1 LV LY
      clear hx hy t4
      have HX := Lib.hid X
      have HY := Lib.hid Y
      clear X Y
      have HLV := Lib.hid LV
      have HLY := Lib.hid LY
      have T1 := Lib.hid t1
      clear LV LY t1
      go_wp2_with fail
      refine (bput _ _ 2 (by decide) (by decide) (by decide) _).mono ?_
      rintro e w1 ⟨rfl, hb1, hB1, hs1⟩
      have hC1 := hB.trans (hB1.mono hB.size)
      clear hB1 hs1 hB
      generalize wr.heap.size = g at *
      go_wp2_with fail
      refine (bcopy _ _ _ _ _ (bytesL_length v 2) (by omega) hb1.at_).mono ?_
      rintro e w2 ⟨A2, c2, rfl, hat2, hB2⟩
      have hb2 := hb1.below hB2 hb1.lt
      have hC2 := hC1.trans (hB2.mono hC1.size)
      clear hb1 hB2 hC1
      go_wp2_with fail
      refine (get_yes _ _ _ _ _ _ (bytesL_length v 2) (by decide) (by decide) (byt_bytes v 2) hat2).mono ?_
      rintro e w' ⟨rfl, rfl⟩
      rw [HX.out]
      clear hat2
      go_wp2_with fail
      refine (bcopy _ _ _ _ _ (bytesL_length v 2) (by omega) hb2.at_).mono ?_
      rintro e w3 ⟨A3, c3, rfl, hat3, hB3⟩
      have hC3 := hC2.trans (hB3.mono hC2.size)
      clear hb2 hB3 hC2
      go_wp2_with fail
      refine (get_yes _ _ _ _ _ _ (bytesL_length v 2) (by decide) (by decide) (byt_bytes v 2) hat3).mono ?_
      rintro e w' ⟨rfl, rfl⟩
      rw [HY.out]
      clear hat3
      go_upto_region 7 with (fail)
      rw [plain_list]
      simp only [List.cons_append, List.nil_append]
      go_wp2_with fail
      refine (HLV.out _).mono ?_
      rintro e w' ⟨rfl, rfl⟩
      go_wp2_with fail
      refine (HLY.out _).mono ?_
      rintro e w' ⟨rfl, rfl⟩
      have t1 := T1.out
      go_wp2_with fail
      go_roundw
      case rel => exact ⟨3, by omega, by omega, rfl, hC3⟩
      case measure => simp [intOf]

    · have X : getV (bytesL v 3) false = v % 16777216 := bk_unsigned 3 v (by decide) (by decide)
      have Y : getV (bytesL v 3) true = sx 24 v := bk_get 3 v (by decide) (by decide)
      obtain ⟨y, hy⟩ : ∃ y, sx 24 v = y := ⟨_, rfl⟩
      rw [hy] at Y
      obtain ⟨t1, t2, t3, t4⟩ := bf3 v y hy
      have LV := fun w => llow_any v 24 (by decide) w
      have LY := fun w => llow_any y 24 (by decide) w
      rw [show (2 : Int) ^ 24 = 16777216 by decide +kernel] at LV LY
      rw [t4] at LY
      obtain ⟨x, hx⟩ : ∃ x, v % 16777216 = x := ⟨_, rfl⟩
      rw [hx] at X t1 LV LY
      clear hx hy t4
      have HX := Lib.hid X
      have HY := Lib.hid Y
      clear X Y
      have HLV := Lib.hid LV
      have HLY := Lib.hid LY
      have T1 := Lib.hid t1
      clear LV LY t1
      go_wp2_with fail
      refine (bput _ _ 3 (by decide) (by decide) (by decide) _).mono ?_
      rintro e w1 ⟨rfl, hb1, hB1, hs1⟩
      have hC1 := hB.trans (hB1.mono hB.size)
      clear hB1 hs1 hB
      generalize wr.heap.size = g at *
      go_wp2_with fail
      refine (bcopy _ _ _ _ _ (bytesL_length v 3) (by omega) hb1.at_).mono ?_
      rintro e w2 ⟨A2, c2, rfl, hat2, hB2⟩
      have hb2 := hb1.below hB2 hb1.lt
      have hC2 := hC1.trans (hB2.mono hC1.size)
      clear hb1 hB2 hC1
      go_wp2_with fail
      refine (get_yes _ _ _ _ _ _ (bytesL_length v 3) (by decide) (by decide) (byt_bytes v 3) hat2).mono ?_
      rintro e w' ⟨rfl, rfl⟩
      rw [HX.out]
      clear hat2
      go_wp2_with fail
      refine (bcopy _ _ _ _ _ (bytesL_length v 3) (by omega) hb2.at_).mono ?_
      rintro e w3 ⟨A3, c3, rfl, hat3, hB3⟩
      have hC3 := hC2.trans (hB3.mono hC2.size)
      clear hb2 hB3 hC2
      go_wp2_with fail
      refine (get_yes _ _ _ _ _ _ (bytesL_length v 3) (by decide) (by decide) (byt_bytes v 3) hat3).mono ?_
      rintro e w' ⟨rfl, rfl⟩
      rw [HY.out]
      clear hat3
      go_upto_region 7 with (fail)
      rw [plain_list]
      simp only [List.cons_append, List.nil_append]
      go_wp2_with fail
      refine (HLV.out _).mono ?_
      rintro e w' ⟨rfl, rfl⟩
      go_wp2_with fail
      refine (HLY.out _).mono ?_
      rintro e w' ⟨rfl, rfl⟩
      have t1 := T1.out
      go_wp2_with fail
      go_roundw
      case rel => exact ⟨4, by omega, by omega, rfl, hC3⟩
      case measure => simp [intOf]

    · have X : getV (bytesL v 4) false = v % 4294967296 := bk_unsigned 4 v (by decide) (by decide)
      have Y : getV (bytesL v 4) true = sx 32 v := bk_get 4 v (by decide) (by decide)
      obtain ⟨y, hy⟩ : ∃ y, sx 32 v = y := ⟨_, rfl⟩
      rw [hy] at Y
      obtain ⟨t1, t2, t3, t4⟩ := bf4 v y hy
      have LV := fun w => llow_any v 32 (by decide) w
      have LY := fun w => llow_any y 32 (by decide) w
      rw [show (2 : Int) ^ 32 = 4294967296 by decide +kernel] at LV LY
      rw [t4] at LY
      obtain ⟨x, hx⟩ : ∃ x, v % 4294967296 = x := ⟨_, rfl⟩
      rw [hx] at X t1 LV LY
      clear hx hy t4
      have HX := Lib.hid X
      have HY := Lib.hid Y
      clear X Y
      have HLV := Lib.hid LV
      have HLY := Lib.hid LY
      have T1 := Lib.hid t1
      clear LV LY t1
      go_wp2_with fail
      refine (bput _ _ 4 (by decide) (by decide) (by decide) _).mono ?_
      rintro e w1 ⟨rfl, hb1, hB1, hs1⟩
      have hC1 := hB.trans (hB1.mono hB.size)
      clear hB1 hs1 hB
      generalize wr.heap.size = g at *
      go_wp2_with fail
      refine (bcopy _ _ _ _ _ (bytesL_length v 4) (by omega) hb1.at_).mono ?_
      rintro e w2 ⟨A2, c2, rfl, hat2, hB2⟩
      have hb2 := hb1.below hB2 hb1.lt
      have hC2 := hC1.trans (hB2.mono hC1.size)
      clear hb1 hB2 hC1
      go_wp2_with fail
      refine (get_yes _ _ _ _ _ _ (bytesL_length v 4) (by decide) (by decide) (byt_bytes v 4) hat2).mono ?_
      rintro e w' ⟨rfl, rfl⟩
      rw [HX.out]
      clear hat2
      go_wp2_with fail
      refine (bcopy _ _ _ _ _ (bytesL_length v 4) (by omega) hb2.at_).mono ?_
      rintro e w3 ⟨A3, c3, rfl, hat3, hB3⟩
      have hC3 := hC2.trans (hB3.mono hC2.size)
      clear hb2 hB3 hC2
      go_wp2_with fail
      refine (get_yes _ _ _ _ _ _ (bytesL_length v 4) (by decide) (by decide) (byt_bytes v 4) hat3).mono ?_
      rintro e w' ⟨rfl, rfl⟩
      rw [HY.out]
      clear hat3
      go_upto_region 7 with (fail)
      rw [plain_list]
      simp only [List.cons_append, List.nil_append]
      go_wp2_with fail
      refine (HLV.out _).mono ?_
      rintro e w' ⟨rfl, rfl⟩
      go_wp2_with fail
      refine (HLY.out _).mono ?_
      rintro e w' ⟨rfl, rfl⟩
      have t1 := T1.out
      go_wp2_with fail
      go_roundw
      case rel => exact ⟨5, by omega, by omega, rfl, hC3⟩
      case measure => simp [intOf]

    · have X : getV (bytesL v 5) false = v % 1099511627776 := bk_unsigned 5 v (by decide) (by decide)
      have Y : getV (bytesL v 5) true = sx 40 v := bk_get 5 v (by decide) (by decide)
      obtain ⟨y, hy⟩ : ∃ y, sx 40 v = y := ⟨_, rfl⟩
      rw [hy] at Y
      obtain ⟨t1, t2, t3, t4⟩ := bf5 v y hy
      have LV := fun w => llow_any v 40 (by decide) w
      have LY := fun w => llow_any y 40 (by decide) w
      rw [show (2 : Int) ^ 40 = 1099511627776 by decide +kernel] at LV LY
      rw [t4] at LY
      obtain ⟨x, hx⟩ : ∃ x, v % 1099511627776 = x := ⟨_, rfl⟩
      rw [hx] at X t1 LV LY
      clear hx hy t4
      have HX := Lib.hid X
      have HY := Lib.hid Y
      clear X Y
      have HLV := Lib.hid LV
      have HLY := Lib.hid LY
      have T1 := Lib.hid t1
      clear LV LY t1
      go_wp2_with fail
      refine (bput _ _ 5 (by decide) (by decide) (by decide) _).mono ?_
      rintro e w1 ⟨rfl, hb1, hB1, hs1⟩
      have hC1 := hB.trans (hB1.mono hB.size)
      clear hB1 hs1 hB
      generalize wr.heap.size = g at *
      go_wp2_with fail
      refine (bcopy _ _ _ _ _ (bytesL_length v 5) (by omega) hb1.at_).mono ?_
      rintro e w2 ⟨A2, c2, rfl, hat2, hB2⟩
      have hb2 := hb1.below hB2 hb1.lt
      have hC2 := hC1.trans (hB2.mono hC1.size)
      clear hb1 hB2 hC1
      go_wp2_with fail
      refine (get_yes _ _ _ _ _ _ (bytesL_length v 5) (by decide) (by decide) (byt_bytes v 5) hat2).mono ?_
      rintro e w' ⟨rfl, rfl⟩
      rw [HX.out]
      clear hat2
      go_wp2_with fail
      refine (bcopy _ _ _ _ _ (bytesL_length v 5) (by omega) hb2.at_).mono ?_
      rintro e w3 ⟨A3, c3, rfl, hat3, hB3⟩
      have hC3 := hC2.trans (hB3.mono hC2.size)
      clear hb2 hB3 hC2
      go_wp2_with fail
      refine (get_yes _ _ _ _ _ _ (bytesL_length v 5) (by decide) (by decide) (byt_bytes v 5) hat3).mono ?_
      rintro e w' ⟨rfl, rfl⟩
      rw [HY.out]
      clear hat3
      go_upto_region 7 with (fail)
      rw [plain_list]
      simp only [List.cons_append, List.nil_append]
      go_wp2_with fail
      refine (HLV.out _).mono ?_
      rintro e w' ⟨rfl, rfl⟩
      go_wp2_with fail
      refine (HLY.out _).mono ?_
      rintro e w' ⟨rfl, rfl⟩
      have t1 := T1.out
      go_wp2_with fail
      go_roundw
      case rel => exact ⟨6, by omega, by omega, rfl, hC3⟩
      case measure => simp [intOf]

    · have X : getV (bytesL v 6) false = v % 281474976710656 := bk_unsigned 6 v (by decide) (by decide)
      have Y : getV (bytesL v 6) true = sx 48 v := bk_get 6 v (by decide) (by decide)
      obtain ⟨y, hy⟩ : ∃ y, sx 48 v = y := ⟨_, rfl⟩
      rw [hy] at Y
      obtain ⟨t1, t2, t3, t4⟩ := bf6 v y hy
      have LV := fun w => llow_any v 48 (by decide) w
      have LY := fun w => llow_any y 48 (by decide) w
      rw [show (2 : Int) ^ 48 = 281474976710656 by decide +kernel] at LV LY
      rw [t4] at LY
      obtain ⟨x, hx⟩ : ∃ x, v % 281474976710656 = x := ⟨_, rfl⟩
      rw [hx] at X t1 LV LY
      clear hx hy t4
      have HX := Lib.hid X
      have HY := Lib.hid Y
      clear X Y
      have HLV := Lib.hid LV
      have HLY := Lib.hid LY
      have T1 := Lib.hid t1
      clear LV LY t1
      go_wp2_with fail
      refine (bput _ _ 6 (by decide) (by decide) (by decide) _).mono ?_
      rintro e w1 ⟨rfl, hb1, hB1, hs1⟩
      have hC1 := hB.trans (hB1.mono hB.size)
      clear hB1 hs1 hB
      generalize wr.heap.size = g at *
      go_wp2_with fail
      refine (bcopy _ _ _ _ _ (bytesL_length v 6) (by omega) hb1.at_).mono ?_
      rintro e w2 ⟨A2, c2, rfl, hat2, hB2⟩
      have hb2 := hb1.below hB2 hb1.lt
      have hC2 := hC1.trans (hB2.mono hC1.size)
      clear hb1 hB2 hC1
      go_wp2_with fail
      refine (get_yes _ _ _ _ _ _ (bytesL_length v 6) (by decide) (by decide) (byt_bytes v 6) hat2).mono ?_
      rintro e w' ⟨rfl, rfl⟩
      rw [HX.out]
      clear hat2
      go_wp2_with fail
      refine (bcopy _ _ _ _ _ (bytesL_length v 6) (by omega) hb2.at_).mono ?_
      rintro e w3 ⟨A3, c3, rfl, hat3, hB3⟩
      have hC3 := hC2.trans (hB3.mono hC2.size)
      clear hb2 hB3 hC2
      go_wp2_with fail
      refine (get_yes _ _ _ _ _ _ (bytesL_length v 6) (by decide) (by decide) (byt_bytes v 6) hat3).mono ?_
      rintro e w' ⟨rfl, rfl⟩
      rw [HY.out]
      clear hat3
      go_upto_region 7 with (fail)
      rw [plain_list]
      simp only [List.cons_append, List.nil_append]
      go_wp2_with fail
      refine (HLV.out _).mono ?_
      rintro e w' ⟨rfl, rfl⟩
      go_wp2_with fail
      refine (HLY.out _).mono ?_
      rintro e w' ⟨rfl, rfl⟩
      have t1 := T1.out
      go_wp2_with fail
      go_roundw
      case rel => exact ⟨7, by omega, by omega, rfl, hC3⟩
      case measure => simp [intOf]

    · have X : getV (bytesL v 7) false = v % 72057594037927936 := bk_unsigned 7 v (by decide) (by decide)
      have Y : getV (bytesL v 7) true = sx 56 v := bk_get 7 v (by decide) (by decide)
      obtain ⟨y, hy⟩ : ∃ y, sx 56 v = y := ⟨_, rfl⟩
      rw [hy] at Y
      obtain ⟨t1, t2, t3, t4⟩ := bf7 v y hy
      have LV := fun w => llow_any v 56 (by decide) w
      have LY := fun w => llow_any y 56 (by decide) w
      rw [show (2 : Int) ^ 56 = 72057594037927936 by decide +kernel] at LV LY
      rw [t4] at LY
      obtain ⟨x, hx⟩ : ∃ x, v % 72057594037927936 = x := ⟨_, rfl⟩
      rw [hx] at X t1 LV LY
      clear hx hy t4
      have HX := Lib.hid X
      have HY := Lib.hid Y
      clear X Y
      have HLV := Lib.hid LV
      have HLY := Lib.hid LY
      have T1 := Lib.hid t1
      clear LV LY t1
      go_wp2_with fail
      refine (bput _ _ 7 (by decide) (by decide) (by decide) _).mono ?_
      rintro e w1 ⟨rfl, hb1, hB1, hs1⟩
      have hC1 := hB.trans (hB1.mono hB.size)
      clear hB1 hs1 hB
      generalize wr.heap.size = g at *
      go_wp2_with fail
      refine (bcopy _ _ _ _ _ (bytesL_length v 7) (by omega) hb1.at_).mono ?_
      rintro e w2 ⟨A2, c2, rfl, hat2, hB2⟩
      have hb2 := hb1.below hB2 hb1.lt
      have hC2 := hC1.trans (hB2.mono hC1.size)
      clear hb1 hB2 hC1
      go_wp2_with fail
      refine (get_yes _ _ _ _ _ _ (bytesL_length v 7) (by decide) (by decide) (byt_bytes v 7) hat2).mono ?_
      rintro e w' ⟨rfl, rfl⟩
      rw [HX.out]
      clear hat2
      go_wp2_with fail
      refine (bcopy _ _ _ _ _ (bytesL_length v 7) (by omega) hb2.at_).mono ?_
      rintro e w3 ⟨A3, c3, rfl, hat3, hB3⟩
      have hC3 := hC2.trans (hB3.mono hC2.size)
      clear hb2 hB3 hC2
      go_wp2_with fail
      refine (get_yes _ _ _ _ _ _ (bytesL_length v 7) (by decide) (by decide) (byt_bytes v 7) hat3).mono ?_
      rintro e w' ⟨rfl, rfl⟩
      rw [HY.out]
      clear hat3
      go_upto_region 7 with (fail)
      rw [plain_list]
      simp only [List.cons_append, List.nil_append]
      go_wp2_with fail
      refine (HLV.out _).mono ?_
      rintro e w' ⟨rfl, rfl⟩
      go_wp2_with fail
      refine (HLY.out _).mono ?_
      rintro e w' ⟨rfl, rfl⟩
      have t1 := T1.out
      go_wp2_with fail
      go_roundw
      case rel => exact ⟨8, by omega, by omega, rfl, hC3⟩
      case measure => simp [intOf]

    · have X := bk_8 v RV.out false
      have Y := bk_8 v RV.out true
      have HX := Lib.hid X
      have HY := Lib.hid Y
      clear X Y
      go_wp2_with fail
      refine (bput _ _ 8 (by decide) (by decide) (by decide) _).mono ?_
      rintro e w1 ⟨rfl, hb1, hB1, hs1⟩
      have hC1 := hB.trans (hB1.mono hB.size)
      clear hB1 hs1 hB
      generalize wr.heap.size = g at *
      go_wp2_with fail
      refine (bcopy _ _ _ _ _ (bytesL_length v 8) (by omega) hb1.at_).mono ?_
      rintro e w2 ⟨A2, c2, rfl, hat2, hB2⟩
      have hb2 := hb1.below hB2 hb1.lt
      have hC2 := hC1.trans (hB2.mono hC1.size)
      clear hb1 hB2 hC1
      go_wp2_with fail
      refine (get_yes _ _ _ _ _ _ (bytesL_length v 8) (by decide) (by decide) (byt_bytes v 8) hat2).mono ?_
      rintro e w' ⟨rfl, rfl⟩
      rw [HX.out]
      clear hat2
      go_wp2_with fail
      refine (bcopy _ _ _ _ _ (bytesL_length v 8) (by omega) hb2.at_).mono ?_
      rintro e w3 ⟨A3, c3, rfl, hat3, hB3⟩
      have hC3 := hC2.trans (hB3.mono hC2.size)
      clear hb2 hB3 hC2
      go_wp2_with fail
      refine (get_yes _ _ _ _ _ _ (bytesL_length v 8) (by decide) (by decide) (byt_bytes v 8) hat3).mono ?_
      rintro e w' ⟨rfl, rfl⟩
      rw [HY.out]
      clear hat3
      go_upto_region 7 with (fail)
      rw [plain_list]
      simp only [List.cons_append, List.nil_append]
      go_wp2_with fail
      go_roundw
      case rel => exact ⟨9, by omega, by omega, rfl, hC3⟩
      case measure => simp [intOf]

    · rw [show ((9 : Nat) : Int) = 9 from rfl]
      have hA := HA.out.below hB
      have hL := HL.out
      have hn := HN.out
      by_cases h18 : 1 ≤ n ∧ n ≤ 8
      · obtain ⟨h1, h8⟩ := h18
        have q1 : decide ((n : Int) < 1) = false := by simp; omega
        have q2 : decide (8 < (n : Int)) = false := by simp; omega
        have E1 := Lib.hid (bk_back L HB.out n hL h1 h8 false)
        have E2 := Lib.hid (bk_back L HB.out n hL h1 h8 true)
        go_wp2_with fail
        refine (bcopy _ _ _ _ _ hL (by omega) hA).mono ?_
        rintro e w2 ⟨A2, c2, rfl, hat2, hB2⟩
        have hA2 := hA.below hB2
        have hC2 := hB.trans (hB2.mono hB.size)
        go_wp2_with fail
        refine (get_yes _ _ _ _ _ _ hL h1 h8 HB.out hat2).mono ?_
        rintro e w' ⟨rfl, rfl⟩
        go_wp2_with fail
        refine (put_yes n _ h1 h8 _).mono ?_
        rintro e w3 ⟨rfl, hb3, hB3, hs3⟩
        rw [E1.out] at hb3
        have hA3 := hA2.below hB3
        have hC3 := hC2.trans (hB3.mono hC2.size)
        clear hs3
        generalize w2.heap.size = g3 at *
        go_wp2_with fail
        refine (bcopy _ _ _ _ _ hL (by omega) hA3).mono ?_
        rintro e w4 ⟨A4, c4, rfl, hat4, hB4⟩
        have hA4 := hA3.below hB4
        have hb4 := hb3.below hB4 hb3.lt
        have hC4 := hC3.trans (hB4.mono hC3.size)
        go_wp2_with fail
        refine (get_yes _ _ _ _ _ _ hL h1 h8 HB.out hat4).mono ?_
        rintro e w' ⟨rfl, rfl⟩
        go_wp2_with fail
        refine (put_yes n _ h1 h8 _).mono ?_
        rintro e w5 ⟨rfl, hb5, hB5, hs5⟩
        rw [E2.out] at hb5
        have hA5 := hA4.below hB5
        have hb6 := hb4.below hB5 hb4.lt
        have hC5 := hC4.trans (hB5.mono hC4.size)
        clear hs5
        generalize w4.heap.size = g5 at *
        go_wp2_with fail
        refine (same_yes _ _ _ _ _ _ L hL (by omega) hA5 hb6.at_).mono ?_
        rintro e w' ⟨rfl, rfl⟩
        go_wp2_with fail
        refine (same_yes _ _ _ _ _ _ L hL (by omega) hA5 hb5.at_).mono ?_
        rintro e w' ⟨rfl, rfl⟩
        go_wp2_with fail
        go_ret
        exact ⟨rfl, hC5⟩
      · have h19 : n < 1 ∨ 8 < n := by omega
        clear h18
        rcases h19 with h19 | h19
        · have q1 : decide ((n : Int) < 1) = true := by simp; omega
          go_wp2_with fail
          refine (bcopy _ _ _ _ _ hL (by omega) hA).mono ?_
          rintro e w2 ⟨A2, c2, rfl, hat2, hB2⟩
          have hC2 := hB.trans (hB2.mono hB.size)
          go_wp2_with fail
          refine (get_no _ _ _ _ (.inl h19) (by omega) _).mono ?_
          rintro e w' ⟨rfl, rfl⟩
          go_wp2_with fail
          go_ret
          exact ⟨rfl, hC2⟩
        · have q1 : decide ((n : Int) < 1) = false := by simp; omega
          have q2 : decide (8 < (n : Int)) = true := by simp; omega
          go_wp2_with fail
          refine (bcopy _ _ _ _ _ hL (by omega) hA).mono ?_
          rintro e w2 ⟨A2, c2, rfl, hat2, hB2⟩
          have hC2 := hB.trans (hB2.mono hB.size)
          go_wp2_with fail
          refine (get_no _ _ _ _ (.inr h19) (by omega) _).mono ?_
          rintro e w' ⟨rfl, rfl⟩
          go_wp2_with fail
          go_ret
          exact ⟨rfl, hC2⟩
end Go.Proofs.Ytmoecflmdfkgdaa
