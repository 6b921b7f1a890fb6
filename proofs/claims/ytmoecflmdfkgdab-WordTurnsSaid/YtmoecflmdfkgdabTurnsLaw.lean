/- WordTurns: the walk of the law. -/
import Derived.Test.YtmoecflmdfkgdabTurnsMath
import Derived.Deep.QuietTactic
import Derived.BigQuiet
namespace Go.Proofs.Ytmoecflmdfkgdab
open Go.ChangeShapes Go.WideShapes Go.ChangeAt Go.RowKit
open Bits
set_option linter.unusedVariables false



set_option maxRecDepth 100000 in
set_option maxHeartbeats 4000000 in
theorem wordTurns_walk (a : Int) (ra : -9223372036854775808 ≤ a ∧ a ≤ 9223372036854775807) (w : World) :
    Calls Try.prog 3 #[.int .i64 a] w fun e w' => e = .returned (.bool true) ∧ Below w.heap.size w w' := by
  have T64 := Lib.hid (t64 a ra)
  clear ra
  go_enter Try.func3, Try.ntmps3
  go_wp2_with fail
  go_loopw [3] (fun s wr => ∃ n : Nat, (n = 2 ∨ n = 4 ∨ n = 8 ∨ n = 16) ∧ s = .int .i64 ((8 * n : Nat) : Int) ∧ Below w.heap.size w wr) (fun s _ => (128 - intOf s).toNat)
  case atStart => exact ⟨2, by omega, rfl, Below.refl _ _⟩
  case round =>
    obtain ⟨n, hn, rfl, hB⟩ := hrel
    rcases hn with rfl | rfl | rfl | rfl
    · have e1 : swapI 16 true a = swapV 2 true a := swapI_yes 2 true a (by omega)
      have e2 : swapI 16 true (swapV 2 true a) = swapV 2 false a := (swapI_yes 2 true _ (by omega)).trans (swap_swap 2 a (by omega))
      have e3 : swapI 16 false a = swapV 2 false a := swapI_yes 2 false a (by omega)
      have HX := Lib.hid (fun i hi => turned_byte 2 a (by omega) i hi)
      have E1 := Lib.hid e1
      have E2 := Lib.hid e2
      have E3 := Lib.hid e3
      clear e1 e2 e3
      have EL := Lib.hid (swap_low 2 a (by omega))
      obtain ⟨x, hx⟩ : ∃ x, swapV 2 true a = x := ⟨_, rfl⟩
      rw [hx] at HX E1 E2
      obtain ⟨y, hy⟩ : ∃ y, swapV 2 false a = y := ⟨_, rfl⟩
      rw [hy] at E2 E3 EL
      clear hx hy
      go_wp2_with fail
      refine (swap_any _ _ _ _).mono ?_
      rintro e w' ⟨rfl, rfl⟩
      rw [E1.out]
      go_wp2_with fail
      refine (put_n _ _ 2 (by decide) (by decide) (by decide) _).mono ?_
      rintro e w1 ⟨rfl, hb1, hB1, hs1⟩
      go_wp2_with fail
      refine (put_n _ _ 2 (by decide) (by decide) (by decide) _).mono ?_
      rintro e w2 ⟨rfl, hb2, hB2, hs2⟩
      have hb3 := hb1.below hB2 hb1.lt
      have hC := hB.trans ((hB1.mono hB.size).trans (hB2.mono (Nat.le_trans hB.size hB1.size)))
      have HS := Lib.hid (show wr.heap.size ≠ w1.heap.size by omega)
      clear hb1 hs1 hs2 hB1 hB2
      obtain ⟨g1, hg1⟩ : ∃ g, wr.heap.size = g := ⟨_, rfl⟩
      obtain ⟨g2, hg2⟩ : ∃ g, w1.heap.size = g := ⟨_, rfl⟩
      rw [hg1] at hb3 ⊢
      rw [hg2] at hb2 ⊢
      clear hg1 hg2 HS
      obtain ⟨wo, rfl⟩ : ∃ wo : World, wo = w2 := ⟨_, rfl⟩
      go_wp2_with fail
      go_loopw [7] (fun i wi => ∃ j m : Nat, j ≤ 2 ∧ i = .int .i64 j ∧ wi = wo.drewN m) (fun i _ => (2 - intOf i).toNat)
      case atStart => exact ⟨0, 0, by omega, rfl, rfl⟩
      case round =>
        obtain ⟨j, m, hj, rfl, rfl⟩ := hrel
        by_cases hlt : j < 2
        · have hx := hb3.cell j (by rw [bytesL_length]; exact hlt)
          have hy := hb2.cell (2 - 1 - j) (by rw [bytesL_length]; omega)
          rw [HX.out j hlt] at hx
          simp only [Nat.reduceSub] at hy hx
          generalize (bytesL x 2)[1 - j]?.getD 0 = z at *
          go_wp2_with fail
          go_quiet (fail)
          go_wp2_with fail
          go_roundw
          case rel => exact ⟨j + 1, _, by omega, by go_num, rfl⟩
          case measure => simp [intOf]; omega
        · have hj' : j = 2 := by omega
          clear hj hlt
          subst hj'
          have hD := below_drewN hC m
          generalize wo.drewN m = wd at *
          clear hb3 hb2 hC
          go_wp2_with fail
          refine (swap_any _ _ _ _).mono ?_
          rintro e w' ⟨rfl, rfl⟩
          rw [E2.out]
          go_wp2_with fail
          refine (swap_any _ _ _ _).mono ?_
          rintro e w' ⟨rfl, rfl⟩
          rw [E3.out]
          go_wp2_with fail
          refine (swap_any _ _ _ _).mono ?_
          rintro e w' ⟨rfl, rfl⟩
          rw [E3.out]
          go_wp2_with fail
          refine (llow_any a 16 (by decide) _).mono ?_
          rintro e w' ⟨rfl, rfl⟩
          rw [← EL.out]
          go_wp2_with fail
          go_roundw
          case rel => exact ⟨4, by omega, rfl, hD⟩
          case measure => simp [intOf]
    · have e1 : swapI 32 true a = swapV 4 true a := swapI_yes 4 true a (by omega)
      have e2 : swapI 32 true (swapV 4 true a) = swapV 4 false a := (swapI_yes 4 true _ (by omega)).trans (swap_swap 4 a (by omega))
      have e3 : swapI 32 false a = swapV 4 false a := swapI_yes 4 false a (by omega)
      have HX := Lib.hid (fun i hi => turned_byte 4 a (by omega) i hi)
      have E1 := Lib.hid e1
      have E2 := Lib.hid e2
      have E3 := Lib.hid e3
      clear e1 e2 e3
      have EL := Lib.hid (swap_low 4 a (by omega))
      obtain ⟨x, hx⟩ : ∃ x, swapV 4 true a = x := ⟨_, rfl⟩
      rw [hx] at HX E1 E2
      obtain ⟨y, hy⟩ : ∃ y, swapV 4 false a = y := ⟨_, rfl⟩
      rw [hy] at E2 E3 EL
      clear hx hy
      go_wp2_with fail
      refine (swap_any _ _ _ _).mono ?_
      rintro e w' ⟨rfl, rfl⟩
      rw [E1.out]
      go_wp2_with fail
      refine (put_n _ _ 4 (by decide) (by decide) (by decide) _).mono ?_
      rintro e w1 ⟨rfl, hb1, hB1, hs1⟩
      go_wp2_with fail
      refine (put_n _ _ 4 (by decide) (by decide) (by decide) _).mono ?_
      rintro e w2 ⟨rfl, hb2, hB2, hs2⟩
      have hb3 := hb1.below hB2 hb1.lt
      have hC := hB.trans ((hB1.mono hB.size).trans (hB2.mono (Nat.le_trans hB.size hB1.size)))
      have HS := Lib.hid (show wr.heap.size ≠ w1.heap.size by omega)
      clear hb1 hs1 hs2 hB1 hB2
      obtain ⟨g1, hg1⟩ : ∃ g, wr.heap.size = g := ⟨_, rfl⟩
      obtain ⟨g2, hg2⟩ : ∃ g, w1.heap.size = g := ⟨_, rfl⟩
      rw [hg1] at hb3 ⊢
      rw [hg2] at hb2 ⊢
      clear hg1 hg2 HS
      obtain ⟨wo, rfl⟩ : ∃ wo : World, wo = w2 := ⟨_, rfl⟩
      go_wp2_with fail
      go_loopw [7] (fun i wi => ∃ j m : Nat, j ≤ 4 ∧ i = .int .i64 j ∧ wi = wo.drewN m) (fun i _ => (4 - intOf i).toNat)
      case atStart => exact ⟨0, 0, by omega, rfl, rfl⟩
      case round =>
        obtain ⟨j, m, hj, rfl, rfl⟩ := hrel
        by_cases hlt : j < 4
        · have hx := hb3.cell j (by rw [bytesL_length]; exact hlt)
          have hy := hb2.cell (4 - 1 - j) (by rw [bytesL_length]; omega)
          rw [HX.out j hlt] at hx
          simp only [Nat.reduceSub] at hy hx
          generalize (bytesL x 4)[3 - j]?.getD 0 = z at *
          go_wp2_with fail
          go_quiet (fail)
          go_wp2_with fail
          go_roundw
          case rel => exact ⟨j + 1, _, by omega, by go_num, rfl⟩
          case measure => simp [intOf]; omega
        · have hj' : j = 4 := by omega
          clear hj hlt
          subst hj'
          have hD := below_drewN hC m
          generalize wo.drewN m = wd at *
          clear hb3 hb2 hC
          go_wp2_with fail
          refine (swap_any _ _ _ _).mono ?_
          rintro e w' ⟨rfl, rfl⟩
          rw [E2.out]
          go_wp2_with fail
          refine (swap_any _ _ _ _).mono ?_
          rintro e w' ⟨rfl, rfl⟩
          rw [E3.out]
          go_wp2_with fail
          refine (swap_any _ _ _ _).mono ?_
          rintro e w' ⟨rfl, rfl⟩
          rw [E3.out]
          go_wp2_with fail
          refine (llow_any a 32 (by decide) _).mono ?_
          rintro e w' ⟨rfl, rfl⟩
          rw [← EL.out]
          go_wp2_with fail
          go_roundw
          case rel => exact ⟨8, by omega, rfl, hD⟩
          case measure => simp [intOf]
    · have e1 : swapI 64 true a = swapV 8 true a := swapI_yes 8 true a (by omega)
      have e2 : swapI 64 true (swapV 8 true a) = swapV 8 false a := (swapI_yes 8 true _ (by omega)).trans (swap_swap 8 a (by omega))
      have e3 : swapI 64 false a = swapV 8 false a := swapI_yes 8 false a (by omega)
      have HX := Lib.hid (fun i hi => turned_byte 8 a (by omega) i hi)
      have E1 := Lib.hid e1
      have E2 := Lib.hid e2
      have E3 := Lib.hid e3
      clear e1 e2 e3
      obtain ⟨x, hx⟩ : ∃ x, swapV 8 true a = x := ⟨_, rfl⟩
      rw [hx] at HX E1 E2
      obtain ⟨y, hy⟩ : ∃ y, swapV 8 false a = y := ⟨_, rfl⟩
      rw [hy] at E2 E3
      clear hx hy
      go_wp2_with fail
      refine (swap_any _ _ _ _).mono ?_
      rintro e w' ⟨rfl, rfl⟩
      rw [E1.out]
      go_wp2_with fail
      refine (put_n _ _ 8 (by decide) (by decide) (by decide) _).mono ?_
      rintro e w1 ⟨rfl, hb1, hB1, hs1⟩
      go_wp2_with fail
      refine (put_n _ _ 8 (by decide) (by decide) (by decide) _).mono ?_
      rintro e w2 ⟨rfl, hb2, hB2, hs2⟩
      have hb3 := hb1.below hB2 hb1.lt
      have hC := hB.trans ((hB1.mono hB.size).trans (hB2.mono (Nat.le_trans hB.size hB1.size)))
      have HS := Lib.hid (show wr.heap.size ≠ w1.heap.size by omega)
      clear hb1 hs1 hs2 hB1 hB2
      obtain ⟨g1, hg1⟩ : ∃ g, wr.heap.size = g := ⟨_, rfl⟩
      obtain ⟨g2, hg2⟩ : ∃ g, w1.heap.size = g := ⟨_, rfl⟩
      rw [hg1] at hb3 ⊢
      rw [hg2] at hb2 ⊢
      clear hg1 hg2 HS
      obtain ⟨wo, rfl⟩ : ∃ wo : World, wo = w2 := ⟨_, rfl⟩
      go_wp2_with fail
      go_loopw [7] (fun i wi => ∃ j m : Nat, j ≤ 8 ∧ i = .int .i64 j ∧ wi = wo.drewN m) (fun i _ => (8 - intOf i).toNat)
      case atStart => exact ⟨0, 0, by omega, rfl, rfl⟩
      case round =>
        obtain ⟨j, m, hj, rfl, rfl⟩ := hrel
        by_cases hlt : j < 8
        · have hx := hb3.cell j (by rw [bytesL_length]; exact hlt)
          have hy := hb2.cell (8 - 1 - j) (by rw [bytesL_length]; omega)
          rw [HX.out j hlt] at hx
          simp only [Nat.reduceSub] at hy hx
          generalize (bytesL x 8)[7 - j]?.getD 0 = z at *
          go_wp2_with fail
          go_quiet (fail)
          go_wp2_with fail
          go_roundw
          case rel => exact ⟨j + 1, _, by omega, by go_num, rfl⟩
          case measure => simp [intOf]; omega
        · have hj' : j = 8 := by omega
          clear hj hlt
          subst hj'
          have hD := below_drewN hC m
          generalize wo.drewN m = wd at *
          clear hb3 hb2 hC
          go_wp2_with fail
          refine (swap_any _ _ _ _).mono ?_
          rintro e w' ⟨rfl, rfl⟩
          rw [E2.out]
          go_wp2_with fail
          refine (swap_any _ _ _ _).mono ?_
          rintro e w' ⟨rfl, rfl⟩
          rw [E3.out]
          go_wp2_with fail
          go_roundw
          case rel => exact ⟨16, by omega, rfl, hD⟩
          case measure => simp [intOf]
    · rw [show ((8 * 16 : Nat) : Int) = 128 from rfl]
      go_wp2_with fail
      go_loopw [8] (fun s wr => ∃ n : Nat, (n = 1 ∨ n = 2 ∨ n = 4 ∨ n = 8) ∧ s = .int .i64 ((8 * n : Nat) : Int) ∧ Below w.heap.size w wr) (fun s _ => (64 - intOf s).toNat)
      case atStart => exact ⟨1, by omega, rfl, hB⟩
      case round =>
        clear hB
        obtain ⟨n, hn, rfl, hB⟩ := hrel
        rcases hn with rfl | rfl | rfl | rfl
        · have X1 : sx 8 a % 256 = a % 256 := sx_low 8 a
          have F2 : extI 8 false (sx 8 a) = sx 8 a := (extI_f 8 (sx 8 a) (by decide)).trans (sx_sx 8 a)
          have X3 : getV (bytesL a 1) true = sx 8 a := get_put 1 a (by decide) (by decide)
          have X4 : sx 8 a / 128 = 0 ∨ sx 8 a / 128 = -1 := sx_top 8 (by decide) a
          have F1 : extI 8 false a = sx 8 a := extI_f 8 a (by decide)
          have LX := fun w => llow_any (sx 8 a) 8 (by decide) w
          have LA := fun w => llow_any a 8 (by decide) w
          rw [show (2 : Int) ^ 8 = 256 by decide +kernel] at LX LA
          obtain ⟨x, hx⟩ : ∃ x, sx 8 a = x := ⟨_, rfl⟩
          rw [hx] at X1 X3 X4 F1 F2 LX
          rw [X1] at LX
          obtain ⟨z, hz⟩ : ∃ z, a % 256 = z := ⟨_, rfl⟩
          rw [hz] at LX LA
          have XX3 := Lib.hid X3
          have XX4 := Lib.hid X4
          have FF1 := Lib.hid F1
          have FF2 := Lib.hid F2
          have LLX := Lib.hid LX
          have LLA := Lib.hid LA
          clear X1 X3 X4 F1 F2 LX LA hx hz
          go_wp2_with fail
          refine (extend_any _ _ _ _).mono ?_
          rintro e w' ⟨rfl, rfl⟩
          rw [FF1.out]
          go_wp2_with fail
          refine (LLX.out _).mono ?_
          rintro e w' ⟨rfl, rfl⟩
          go_wp2_with fail
          refine (LLA.out _).mono ?_
          rintro e w' ⟨rfl, rfl⟩
          go_wp2_with fail
          refine (extend_any _ _ _ _).mono ?_
          rintro e w' ⟨rfl, rfl⟩
          rw [FF2.out]
          go_wp2_with fail
          refine (put_n _ _ 1 (by decide) (by decide) (by decide) _).mono ?_
          rintro e w1 ⟨rfl, hb1, hB1, hs1⟩
          go_wp2_with fail
          refine (get_yes _ _ _ _ _ _ (bytesL_length a 1) (by decide) (by decide) (byt_bytes a 1) hb1.at_).mono ?_
          rintro e w' ⟨rfl, rfl⟩
          rw [XX3.out]
          have hC := hB.trans (hB1.mono hB.size)
          clear hB hB1 hs1 hb1
          go_wp2_with fail
          all_goals
            first
            | (exfalso
               rename_i h1 h2
               rcases XX4.out with e0 | e0 <;> simp [e0] at h1 h2; done)
            | (go_roundw
               case rel => exact ⟨2, by omega, rfl, hC⟩
               case measure => simp [intOf])
        · have X1 : sx 16 a % 65536 = a % 65536 := sx_low 16 a
          have F2 : extI 16 false (sx 16 a) = sx 16 a := (extI_f 16 (sx 16 a) (by decide)).trans (sx_sx 16 a)
          have X3 : getV (bytesL a 2) true = sx 16 a := get_put 2 a (by decide) (by decide)
          have X4 : sx 16 a / 32768 = 0 ∨ sx 16 a / 32768 = -1 := sx_top 16 (by decide) a
          have F1 : extI 16 false a = sx 16 a := extI_f 16 a (by decide)
          have LX := fun w => llow_any (sx 16 a) 16 (by decide) w
          have LA := fun w => llow_any a 16 (by decide) w
          rw [show (2 : Int) ^ 16 = 65536 by decide +kernel] at LX LA
          obtain ⟨x, hx⟩ : ∃ x, sx 16 a = x := ⟨_, rfl⟩
          rw [hx] at X1 X3 X4 F1 F2 LX
          rw [X1] at LX
          obtain ⟨z, hz⟩ : ∃ z, a % 65536 = z := ⟨_, rfl⟩
          rw [hz] at LX LA
          have XX3 := Lib.hid X3
          have XX4 := Lib.hid X4
          have FF1 := Lib.hid F1
          have FF2 := Lib.hid F2
          have LLX := Lib.hid LX
          have LLA := Lib.hid LA
          clear X1 X3 X4 F1 F2 LX LA hx hz
          go_wp2_with fail
          refine (extend_any _ _ _ _).mono ?_
          rintro e w' ⟨rfl, rfl⟩
          rw [FF1.out]
          go_wp2_with fail
          refine (LLX.out _).mono ?_
          rintro e w' ⟨rfl, rfl⟩
          go_wp2_with fail
          refine (LLA.out _).mono ?_
          rintro e w' ⟨rfl, rfl⟩
          go_wp2_with fail
          refine (extend_any _ _ _ _).mono ?_
          rintro e w' ⟨rfl, rfl⟩
          rw [FF2.out]
          go_wp2_with fail
          refine (put_n _ _ 2 (by decide) (by decide) (by decide) _).mono ?_
          rintro e w1 ⟨rfl, hb1, hB1, hs1⟩
          go_wp2_with fail
          refine (get_yes _ _ _ _ _ _ (bytesL_length a 2) (by decide) (by decide) (byt_bytes a 2) hb1.at_).mono ?_
          rintro e w' ⟨rfl, rfl⟩
          rw [XX3.out]
          have hC := hB.trans (hB1.mono hB.size)
          clear hB hB1 hs1 hb1
          go_wp2_with fail
          all_goals
            first
            | (exfalso
               rename_i h1 h2
               rcases XX4.out with e0 | e0 <;> simp [e0] at h1 h2; done)
            | (go_roundw
               case rel => exact ⟨4, by omega, rfl, hC⟩
               case measure => simp [intOf])
        · have X1 : sx 32 a % 4294967296 = a % 4294967296 := sx_low 32 a
          have F2 : extI 32 false (sx 32 a) = sx 32 a := (extI_f 32 (sx 32 a) (by decide)).trans (sx_sx 32 a)
          have X3 : getV (bytesL a 4) true = sx 32 a := get_put 4 a (by decide) (by decide)
          have X4 : sx 32 a / 2147483648 = 0 ∨ sx 32 a / 2147483648 = -1 := sx_top 32 (by decide) a
          have F1 : extI 32 false a = sx 32 a := extI_f 32 a (by decide)
          have LX := fun w => llow_any (sx 32 a) 32 (by decide) w
          have LA := fun w => llow_any a 32 (by decide) w
          rw [show (2 : Int) ^ 32 = 4294967296 by decide +kernel] at LX LA
          obtain ⟨x, hx⟩ : ∃ x, sx 32 a = x := ⟨_, rfl⟩
          rw [hx] at X1 X3 X4 F1 F2 LX
          rw [X1] at LX
          obtain ⟨z, hz⟩ : ∃ z, a % 4294967296 = z := ⟨_, rfl⟩
          rw [hz] at LX LA
          have XX3 := Lib.hid X3
          have XX4 := Lib.hid X4
          have FF1 := Lib.hid F1
          have FF2 := Lib.hid F2
          have LLX := Lib.hid LX
          have LLA := Lib.hid LA
          clear X1 X3 X4 F1 F2 LX LA hx hz
          go_wp2_with fail
          refine (extend_any _ _ _ _).mono ?_
          rintro e w' ⟨rfl, rfl⟩
          rw [FF1.out]
          go_wp2_with fail
          refine (LLX.out _).mono ?_
          rintro e w' ⟨rfl, rfl⟩
          go_wp2_with fail
          refine (LLA.out _).mono ?_
          rintro e w' ⟨rfl, rfl⟩
          go_wp2_with fail
          refine (extend_any _ _ _ _).mono ?_
          rintro e w' ⟨rfl, rfl⟩
          rw [FF2.out]
          go_wp2_with fail
          refine (put_n _ _ 4 (by decide) (by decide) (by decide) _).mono ?_
          rintro e w1 ⟨rfl, hb1, hB1, hs1⟩
          go_wp2_with fail
          refine (get_yes _ _ _ _ _ _ (bytesL_length a 4) (by decide) (by decide) (byt_bytes a 4) hb1.at_).mono ?_
          rintro e w' ⟨rfl, rfl⟩
          rw [XX3.out]
          have hC := hB.trans (hB1.mono hB.size)
          clear hB hB1 hs1 hb1
          go_wp2_with fail
          all_goals
            first
            | (exfalso
               rename_i h1 h2
               rcases XX4.out with e0 | e0 <;> simp [e0] at h1 h2; done)
            | (go_roundw
               case rel => exact ⟨8, by omega, rfl, hC⟩
               case measure => simp [intOf])
        · go_wp2_with fail
          refine (swap_any _ _ _ _).mono ?_
          rintro e w' ⟨rfl, rfl⟩
          rw [T64.out]
          go_wp2_with fail
          refine (swap_any _ _ _ _).mono ?_
          rintro e w' ⟨rfl, rfl⟩
          rw [t1]
          go_wp2_with fail
          go_ret
          exact ⟨rfl, hB⟩
end Go.Proofs.Ytmoecflmdfkgdab
