/- The document's zone: Cons. -/
import Derived.Test.YtejcijbohnlbgaaZRa
import Derived.Test.YtejcijbohnlbgaaZQ
namespace Go.Proofs.Ytejcijbohnlbgaa
open Go.ChangeShapes Go.WideShapes Go.ChangeAt Go.RowKit
open Zon
set_option linter.unusedVariables false
set_option maxRecDepth 100000
set_option maxHeartbeats 4000000 in
theorem refConsT_any (w : World) (M : Tab) (hM : OkT M) :
    Calls Try.prog 23 #[rvV (false, rT M)] w (Owned 99 w (consT M)) := by
  have HM := Lib.hid hM
  clear hM
  go_enter Try.func23, Try.ntmps23
  go_upto_region 1 with (fail)
  obtain ⟨w1, hw1⟩ : ∃ w1, w1 = w.alloc (.cells (arr 3601 (zc false (rT M))) 41) := ⟨_, rfl⟩
  obtain ⟨g, hg⟩ : ∃ g, g = w.heap.size := ⟨_, rfl⟩
  have HZ := Lib.hid (show RB w1 g false (rT M) by rw [hw1, hg]; exact FB.new w _ _ _)
  have HB1 := Lib.hid (show Below w.heap.size w w1 by rw [hw1]; exact below_box w _)
  rw [← hw1, ← hg]
  have HG := Lib.hid hg
  clear hw1 hg
  have x0 := HZ.out.head
  go_wp2_with fail
  clear x0
  go_loopw [4, 3] (fun i v wr => ∃ k : Nat, k ≤ 60 ∧ i = .int .i64 k ∧ OwnC 99 wr w1.heap.size v (consN M k) ∧ Below w1.heap.size w1 wr) (fun i _ _ => (60 - intOf i).toNat)
  case atStart => exact ⟨0, by omega, rfl, OwnC.nil _ _ _, Below.refl _ _⟩
  case round =>
    obtain ⟨k, hk, rfl, hO, hB⟩ := hrel
    by_cases hlt : k < 60
    · have hlt' : (k : Int) < 60 := by omega
      have hk0 : (0 : Int) ≤ k := by omega
      have HKT := Lib.hid hlt
      have HO := Lib.hid hO
      have HB := Lib.hid hB
      have HLK := Lib.hid (consN_len M k)
      clear hO hB hlt
      go_wp2_with fail
      go_loopw [5, 3] (fun i v wr => ∃ j : Nat, j ≤ 60 ∧ i = .int .i64 j ∧ OwnC 99 wr w1.heap.size v (consN M k ++ rowN M k j) ∧ Below w1.heap.size w1 wr) (fun i _ _ => (60 - intOf i).toNat)
      case atStart => exact ⟨0, by omega, rfl, by rw [show rowN M k 0 = [] from rfl, List.append_nil]; exact HO.out, HB.out⟩
      case round =>
        clear HO HB
        obtain ⟨j, hj, rfl, hO, hB⟩ := hrel
        by_cases hjt : j < 60
        · have hjt' : (j : Int) < 60 := by omega
          have hj0 : (0 : Int) ≤ j := by omega
          have z0 := (HZ.out.up hB).at_ k j HKT.out hjt
          have HOK := Lib.hid (HM.out k j HKT.out hjt)
          have HO := Lib.hid hO
          have HB := Lib.hid hB
          have HLJ := Lib.hid (rowN_len M k j)
          obtain ⟨A, m, c, rfl, HMM⟩ := hO.form'
          have HLL := Lib.hid (show (consN M k ++ rowN M k j).length + 1 ≤ 8000000000000 by rw [List.length_append]; have := HLK.out; have := HLJ.out; omega)
          clear hO hB hjt
          have hno : ∀ h : (k = j ∨ M k j = 3458764513820540928), consN M k ++ rowN M k (j + 1) = consN M k ++ rowN M k j := fun h => by rw [rowN_no h]
          have HNO := Lib.hid hno
          have HYES := Lib.hid (fun (h1 : k ≠ j) (h2 : M k j ≠ 3458764513820540928) => show consN M k ++ rowN M k (j + 1) = (consN M k ++ rowN M k j) ++ [⟨k, j, M k j⟩] by rw [rowN_yes h1 h2, List.append_assoc])
          clear hno HLJ
          by_cases h1 : k = j
          · have HE := Lib.hid (HNO.out (.inl h1))
            subst h1
            clear HNO HYES z0
            go_wp2_with fail
            go_roundw
            case rel => exact ⟨k + 1, by omega, by go_num, by rw [HE.out]; exact HO.out, HB.out⟩
            case measure => simp [intOf]; omega
          · have t1 : ((k : Int) == (j : Int)) = false := by rw [beq_eq_false_iff_ne]; omega
            have t2 : ((k : Int) != (j : Int)) = true := by rw [bne_iff_ne]; omega
            by_cases h2 : M k j = 3458764513820540928
            · have HE := Lib.hid (HNO.out (.inr h2))
              rw [show rT M k j = 2305843009213693952 from rN_no h2] at z0
              clear HNO HYES h1 h2 HOK
              go_wp2_with fail
              go_roundw
              case rel => exact ⟨j + 1, by omega, by go_num, by rw [HE.out]; exact HO.out, HB.out⟩
              case measure => simp [intOf]; omega
            · have HE := Lib.hid (HYES.out h1 h2)
              rw [show rT M k j = M k j from rN_yes h2] at z0
              have t3 : decide (M k j < 2305843009213693952) = true := decide_eq_true (by have := HOK.out; unfold Ok at this; omega)
              clear HNO HYES h1 h2 HOK
              have HSZ := Lib.hid (fun o => Nat.le_trans HB.out.size (below_box wr o).size)
              generalize consN M k ++ rowN M k j = L at *
              generalize M k j = mkj at *
              go_upto_region 11 with (fail)
              go_wp2_with (at_builtin; (refine append_con 22 99 Try.underlying22 rcon_info _ rfl (.tmp 29) (.tmp 39) rfl w1.heap.size _ _ rfl (HO.out.up (below_box wr _)) _ 1 _ [_] rfl rfl (cons_one wr _ _ _ _) HLL.out (HSZ.out _) ?_; intro v' w' hown' hB'))
              go_roundw
              case rel => exact ⟨j + 1, by omega, by go_num, by rw [HE.out]; exact hown', HB.out.trans (((below_box wr _).mono HB.out.size).trans hB')⟩
              case measure => simp [intOf]; omega
        · obtain rfl : j = 60 := by omega
          rw [← consN_succ] at hO
          have HO := Lib.hid hO
          have HB := Lib.hid hB
          clear hO hB
          go_wp2_with fail
          go_roundw
          case rel => exact ⟨k + 1, by have := HKT.out; omega, by go_num, HO.out, HB.out⟩
          case measure => simp [intOf]; omega
    · obtain rfl : k = 60 := by omega
      have HO := Lib.hid hO
      have HB := Lib.hid hB
      clear hO hB
      go_wp2_with fail
      go_ret
      obtain ⟨g1, g2⟩ := HO.out
      exact ⟨_, rfl, ⟨g1, by
        rcases g2 with h | ⟨gg, cap, cur, a1, a2, a3⟩
        · exact .inl h
        · exact .inr ⟨gg, cap, cur, a1, Nat.le_trans HB1.out.size a2, a3⟩⟩, HB1.out.trans (HB.out.mono HB1.out.size)⟩
set_option maxHeartbeats 1000000 in
theorem refConsN_any (w : World) (T : Tab) :
    Calls Try.prog 23 #[rvV (true, T)] w (Owned 99 w []) := by
  go_enter Try.func23, Try.ntmps23
  go_upto_region 1 with (fail)
  obtain ⟨w1, hw1⟩ : ∃ w1, w1 = w.alloc (.cells (arr 3601 (zc true T)) 41) := ⟨_, rfl⟩
  obtain ⟨g, hg⟩ : ∃ g, g = w.heap.size := ⟨_, rfl⟩
  have HZ := Lib.hid (show RB w1 g true T by rw [hw1, hg]; exact FB.new w _ _ _)
  have HB1 := Lib.hid (show Below w.heap.size w w1 by rw [hw1]; exact below_box w _)
  rw [← hw1, ← hg]
  clear hw1 hg
  have x0 := HZ.out.head
  go_wp2_with fail
  go_ret
  exact ⟨_, rfl, OwnC.nil _ _ _, HB1.out⟩
theorem refCons_any (w : World) (z : Zn) (hz : OkZ z) : Calls Try.prog 23 #[rvV (rv z)] w (Owned 99 w (consZ z)) := by
  cases z with
  | none => exact refConsN_any w _
  | some M => exact refConsT_any w M (hz M rfl)
end Go.Proofs.Ytejcijbohnlbgaa
