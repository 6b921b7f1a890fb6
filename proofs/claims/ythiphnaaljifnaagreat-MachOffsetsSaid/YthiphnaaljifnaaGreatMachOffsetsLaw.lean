/- MachOffsets: the walk. Written by gen_mcoff.py. -/
import Derived.Test.YthiphnaaljifnaaGreatMcR3
import Derived.Deep.CutBlock
namespace Go.Proofs.YthiphnaaljifnaaGreat
open Go.ChangeShapes Go.WideShapes Go.ChangeAt Go.RowKit
open Cod Bits
set_option linter.unusedVariables false
set_option linter.unusedSimpArgs false
set_option maxRecDepth 100000
set_option maxHeartbeats 4000000 in
theorem moves_v (w : World) (a b : Int) :
    Calls Tryz.prog 36 #[.int .i64 a, .int .i64 b] w fun e w' => e = .returned (.tuple #[.int .i64 (moveR a b), .int .i64 (moveE a b)]) ∧ Below w.heap.size w w' := by
  go_enter Tryz.func36, Tryz.ntmps36
  go_wp2_with fail
  refine (wide_x _ 3 a).mono ?_
  rintro e w1 ⟨rfl, hB1⟩
  have HB1 := Lib.hid hB1
  clear hB1
  go_wp2_with fail
  go_at_call 25
  refine (wide_x _ 3 b).mono ?_
  rintro e w2 ⟨rfl, hB2⟩
  have HB2 := Lib.hid (HB1.out.trans (hB2.mono HB1.out.size))
  have HRU := Lib.hid (runs_move (w2.alloc (.cells #[.int .i64 15, .bool false, .bool true, .int .i64 0, .int .i64 4, .int .i64 1, .int .i64 0, .int .i64 0, .int .i64 20, .bool false, .bool false, .int .i64 0, .int .i64 3, .int .i64 0, .int .i64 0, .int .i64 a, .int .i64 1, .bool false, .bool true, .int .i64 0, .int .i64 4, .int .i64 3, .int .i64 0, .int .i64 0, .int .i64 20, .bool false, .bool false, .int .i64 0, .int .i64 3, .int .i64 0, .int .i64 0, .int .i64 b, .int .i64 2, .bool false, .bool true, .int .i64 0, .int .i64 4, .int .i64 3, .int .i64 0, .int .i64 0, .int .i64 2, .bool false, .bool true, .int .i64 0, .int .i64 4, .int .i64 1, .int .i64 0, .int .i64 0, .int .i64 15, .bool false, .bool true, .int .i64 0, .int .i64 0, .int .i64 4, .int .i64 0, .int .i64 0, .int .i64 39, .bool false, .bool false, .int .i64 0, .int .i64 0, .int .i64 0, .int .i64 0, .int .i64 0] 57)) ⟨w2.heap.size, 0, none⟩ 8 a b (blk_code (Blk.new w2 57 #[.int .i64 15, .bool false, .bool true, .int .i64 0, .int .i64 4, .int .i64 1, .int .i64 0, .int .i64 0, .int .i64 20, .bool false, .bool false, .int .i64 0, .int .i64 3, .int .i64 0, .int .i64 0, .int .i64 a, .int .i64 1, .bool false, .bool true, .int .i64 0, .int .i64 4, .int .i64 3, .int .i64 0, .int .i64 0, .int .i64 20, .bool false, .bool false, .int .i64 0, .int .i64 3, .int .i64 0, .int .i64 0, .int .i64 b, .int .i64 2, .bool false, .bool true, .int .i64 0, .int .i64 4, .int .i64 3, .int .i64 0, .int .i64 0, .int .i64 2, .bool false, .bool true, .int .i64 0, .int .i64 4, .int .i64 1, .int .i64 0, .int .i64 0, .int .i64 15, .bool false, .bool true, .int .i64 0, .int .i64 0, .int .i64 4, .int .i64 0, .int .i64 0, .int .i64 39, .bool false, .bool false, .int .i64 0, .int .i64 0, .int .i64 0, .int .i64 0, .int .i64 0]) rfl))
  clear hB2 HB1
  go_wp2_with fail
  go_at_call 24
  refine HRU.out.mono ?_
  rintro e w3 ⟨⟨A1, n1, c1, A2, n2, c2, rfl⟩, hB3⟩
  have HB3 := Lib.hid ((HB2.out.alloc HB2.out.size _).trans (hB3.mono (Nat.le_trans HB2.out.size (box1 w2 _).size)))
  clear HB2 hB3 HRU
  go_wp2_with fail
  go_ret2
  exact ⟨rfl, HB3.out.alloc HB3.out.size _⟩
set_option maxHeartbeats 8000000 in
theorem machOffsets_walk (w : World) (a : Int) (ra : -9223372036854775808 ≤ a ∧ a ≤ 9223372036854775807) (b : Int) (rb : -9223372036854775808 ≤ b ∧ b ≤ 9223372036854775807) :
    Calls Tryz.prog 10 #[.int .i64 a, .int .i64 b] w fun e w' => e = .returned (.bool true) ∧ Below w.heap.size w w' := by
  have HM := Lib.hid (moves_v w a b)
  cases ha : farB a with
  | true =>
    have hE : moveE a b = 85 := by unfold moveE; rw [if_pos ha]
    have hR : moveR a b = 0 := by unfold moveR; rw [hE]; rfl
    rw [hE, hR] at HM
    clear hE hR ra rb
    go_enter Tryz.func10, Tryz.ntmps10
    go_wp2_with fail
    refine HM.out.mono ?_
    rintro e w1 ⟨rfl, hB⟩
    go_wp2_with fail
    go_at_call 37
    refine (far_v _ _).mono ?_
    rintro e w' ⟨rfl, rfl⟩
    go_wp2_with fail
    go_ret
    exact ⟨rfl, hB⟩
  | false =>
    have hna := near_of ha
    have HA := Lib.hid ha
    go_enter Tryz.func10, Tryz.ntmps10
    go_wp2_with fail
    refine HM.out.mono ?_
    rintro e w1 ⟨rfl, hB⟩
    have HB := Lib.hid hB
    clear hB HM
    go_upto_block 0 with (fail)
    go_cut [5, 6, 27] (fun _ _ _ wx => Below w.heap.size w wx)
    case first =>
      by_cases h1 : b < -4194304
      · have hE : moveE a b = 85 := by unfold moveE; rw [if_neg (by rw [ha]; decide), if_pos (big_out a b ha (.inl h1))]
        have hR : moveR a b = 0 := by unfold moveR; rw [hE]; rfl
        rw [hE, hR]
        clear hE hR
        go_wp2_with (go_at_call 37; refine (far_v _ _).mono ?_; rintro e w' ⟨rfl, rfl⟩)
        go_meet
        case rel => exact HB.out
      by_cases h2 : 4194304 < b
      · have hE : moveE a b = 85 := by unfold moveE; rw [if_neg (by rw [ha]; decide), if_pos (big_out a b ha (.inr h2))]
        have hR : moveR a b = 0 := by unfold moveR; rw [hE]; rfl
        rw [hE, hR]
        clear hE hR
        go_wp2_with (go_at_call 37; refine (far_v _ _).mono ?_; rintro e w' ⟨rfl, rfl⟩)
        go_meet
        case rel => exact HB.out
      have hbi := big_iff a b ha ⟨by omega, by omega⟩
      cases h3 : farB (a - b) with
      | true =>
        have hE : moveE a b = 85 := by unfold moveE; rw [if_neg (by rw [ha]; decide), if_pos (hbi.trans h3)]
        have hR : moveR a b = 0 := by unfold moveR; rw [hE]; rfl
        rw [hE, hR]
        clear hE hR hbi
        go_wp2_with (go_at_call 37; refine (far_v _ _).mono ?_; rintro e w' ⟨rfl, rfl⟩)
        go_meet
        case rel => exact HB.out
      | false =>
        have hE : moveE a b = 0 := by unfold moveE; rw [if_neg (by rw [ha]; decide), if_neg (by rw [hbi, h3]; decide)]
        have hR : moveR a b = a - b := by unfold moveR; rw [hE]; rfl
        rw [hE, hR]
        clear hE hR hbi
        go_wp2_with (go_at_call 37; refine (far_v _ _).mono ?_; rintro e w' ⟨rfl, rfl⟩)
        go_meet
        case rel => exact HB.out
    case rest =>
      clear HB ha
      have hB := hcut
      clear hcut
      cases hb : farB b with
      | true =>
        go_wp2_with (go_at_call 37; refine (far_v _ _).mono ?_; rintro e w' ⟨rfl, rfl⟩)
        go_ret
        exact ⟨rfl, hB⟩
      | false =>
        go_wp2_with (go_at_call 37; refine (far_v _ _).mono ?_; rintro e w' ⟨rfl, rfl⟩)
        have HBB := Lib.hid hb
        clear hb
        go_loopw [7] (fun o wr => ∃ j : Nat, 27 ≤ j ∧ j ≤ 37 ∧ o = .int .i64 j ∧ Below w.heap.size w wr) (fun o _ => (37 - intOf o).toNat)
        case atStart => exact ⟨27, by omega, by omega, rfl, hB⟩
        case round =>
          clear hB
          obtain ⟨j, hj1, hj2, rfl, hB⟩ := hrel
          by_cases hlt : j < 37
          · have HJ := Lib.hid (show 27 ≤ (j : Int) ∧ (j : Int) ≤ 36 by omega)
            have hj37 : (j : Int) < 37 := by omega
            go_upto_region 15 with (fail)
            clear hj37
            go_cut [67] (fun v wx => ∃ t : Bool, v = .bool t ∧ sgnOp j = (if t = true then (j : Int) - 29 + 33 else j) ∧ Below w.heap.size w wx)
            case first =>
              by_cases h29 : 29 ≤ j
              · have k29 : (29 : Int) ≤ j := by omega
                by_cases h32 : j ≤ 32
                · have k32 : (j : Int) ≤ 32 := by omega
                  have HS := Lib.hid (show sgnOp j = (j : Int) - 29 + 33 by unfold sgnOp; rcases (by omega : j = 29 ∨ j = 30 ∨ j = 31 ∨ j = 32) with rfl | rfl | rfl | rfl <;> rfl)
                  go_wp2_with fail
                  go_meet
                  case rel => exact ⟨true, rfl, HS.out, hB⟩
                · have k32 : ¬ (j : Int) ≤ 32 := by omega
                  have HS := Lib.hid (show sgnOp j = (j : Int) by unfold sgnOp; rw [if_neg (by omega), if_neg (by omega), if_neg (by omega), if_neg (by omega)])
                  go_wp2_with fail
                  go_meet
                  case rel => exact ⟨false, rfl, HS.out, hB⟩
              · have k29 : ¬ (29 : Int) ≤ j := by omega
                have HS := Lib.hid (show sgnOp j = (j : Int) by unfold sgnOp; rw [if_neg (by omega), if_neg (by omega), if_neg (by omega), if_neg (by omega)])
                go_wp2_with fail
                go_meet
                case rel => exact ⟨false, rfl, HS.out, hB⟩
            case rest =>
             clear hB
             obtain ⟨t, rfl, hs, hB⟩ := hcut
             have HS := Lib.hid hs
             clear hs
             go_upto_if 67 with (fail)
             go_cut [8] (fun v wx => v = .int .i64 (sgnOp j) ∧ Below w.heap.size w wx)
             case first =>
               have hj1' : (27 : Int) ≤ j := HJ.out.1
               have hj2' : (j : Int) ≤ 36 := HJ.out.2
               cases t
               · have HS2 := Lib.hid (HS.out.trans (if_neg Bool.false_ne_true))
                 go_wp2_with fail
                 go_meet
                 case rel => exact ⟨by rw [HS2.out], hB⟩
               · have HS2 := Lib.hid (HS.out.trans (if_pos rfl))
                 go_wp2_with fail
                 go_meet
                 case rel => exact ⟨by rw [HS2.out], hB⟩
             case rest =>
              clear hB HS t
              obtain ⟨rfl, hB⟩ := hcut
              have HS := Lib.hid (show brR j a b = if holdsM (sgnOp j) false a b = true then 1 else 0 from rfl)
              have HH := Lib.hid (fun w => holds_any (sgnOp j) false a b w)
              have HRU := Lib.hid (fun wx => runs_br (wx.alloc (.cells #[.int .i64 15, .bool false, .bool true, .int .i64 0, .int .i64 4, .int .i64 1, .int .i64 0, .int .i64 0, .int .i64 1, .bool false, .bool false, .int .i64 0, .int .i64 4, .int .i64 0, .int .i64 0, .int .i64 a, .int .i64 1, .bool false, .bool false, .int .i64 0, .int .i64 1, .int .i64 0, .int .i64 0, .int .i64 b, .int .i64 15, .bool false, .bool false, .int .i64 0, .int .i64 0, .int .i64 0, .int .i64 0, .int .i64 1, .int .i64 j, .bool false, .bool true, .int .i64 0, .int .i64 4, .int .i64 1, .int .i64 1, .int .i64 0, .int .i64 15, .bool false, .bool false, .int .i64 0, .int .i64 0, .int .i64 0, .int .i64 0, .int .i64 0, .int .i64 39, .bool false, .bool false, .int .i64 0, .int .i64 0, .int .i64 0, .int .i64 0, .int .i64 0] 57)) ⟨wx.heap.size, 0, none⟩ 7 j a b HJ.out HA.out HBB.out (blk_code (Blk.new wx 57 #[.int .i64 15, .bool false, .bool true, .int .i64 0, .int .i64 4, .int .i64 1, .int .i64 0, .int .i64 0, .int .i64 1, .bool false, .bool false, .int .i64 0, .int .i64 4, .int .i64 0, .int .i64 0, .int .i64 a, .int .i64 1, .bool false, .bool false, .int .i64 0, .int .i64 1, .int .i64 0, .int .i64 0, .int .i64 b, .int .i64 15, .bool false, .bool false, .int .i64 0, .int .i64 0, .int .i64 0, .int .i64 0, .int .i64 1, .int .i64 j, .bool false, .bool true, .int .i64 0, .int .i64 4, .int .i64 1, .int .i64 1, .int .i64 0, .int .i64 15, .bool false, .bool false, .int .i64 0, .int .i64 0, .int .i64 0, .int .i64 0, .int .i64 0, .int .i64 39, .bool false, .bool false, .int .i64 0, .int .i64 0, .int .i64 0, .int .i64 0, .int .i64 0]) rfl))
              generalize brR j a b = R at *
              generalize holdsM (sgnOp j) false a b = hh at *
              generalize sgnOp j = sj at *
              go_upto_if 74 with (go_at_call 28; refine (HH.out _).mono ?_; rintro e w' ⟨rfl, rfl⟩)
              go_cut [9] (fun v wx => v = .int .i64 R ∧ Below w.heap.size w wx)
              case first =>
                cases hh
                · have HS2 := Lib.hid (HS.out.trans (if_neg Bool.false_ne_true))
                  go_wp2_with fail
                  go_meet
                  case rel => exact ⟨by rw [HS2.out], hB⟩
                · have HS2 := Lib.hid (HS.out.trans (if_pos rfl))
                  go_wp2_with fail
                  go_meet
                  case rel => exact ⟨by rw [HS2.out], hB⟩
              case rest =>
                clear hB
                obtain ⟨rfl, hB⟩ := hcut
                have HB := Lib.hid hB
                have HRW := Lib.hid (HRU.out wc)
                clear hB HH HS HRU HJ HA HBB
                go_wp2_with fail
                go_at_call 24
                refine HRW.out.mono ?_
                rintro e w2 ⟨⟨A1, n1, c1, A2, n2, c2, rfl⟩, hB2⟩
                have HB2 := Lib.hid ((HB.out.alloc HB.out.size _).trans (hB2.mono (Nat.le_trans HB.out.size (box1 wc _).size)))
                clear HB hB2 HRW
                go_wp2_with fail
                go_roundw
                case rel => exact ⟨j + 1, by omega, by omega, by go_num, HB2.out.alloc HB2.out.size _⟩
                case measure => simp [intOf]; omega
          · obtain rfl : j = 37 := by omega
            go_wp2_with fail
            go_ret
            exact ⟨rfl, hB⟩
end Go.Proofs.YthiphnaaljifnaaGreat
