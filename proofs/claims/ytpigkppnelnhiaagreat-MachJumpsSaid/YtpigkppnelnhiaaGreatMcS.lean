/- Package mach: doer, Step. Written by gen_mcs.py. -/
import Derived.Test.YtpigkppnelnhiaaGreatMcK
namespace Go.Proofs.YtpigkppnelnhiaaGreat
open Go.ChangeShapes Go.WideShapes Go.ChangeAt Go.RowKit
set_option linter.unusedVariables false
set_option linter.unusedSimpArgs false
set_option maxRecDepth 100000
/-- which method does an operation -/
def doF (op : Int) : Nat :=
  if (op == 1) = true then 52 else
  if (op == 2) = true then 53 else
  if (op == 15) = true then 54 else
  if (op == 16) = true then 55 else
  if (op == 17) = true then 56 else
  if (op == 18) = true then 56 else
  if (op == 19) = true then 56 else
  if (op == 20) = true then 57 else
  if (op == 21) = true then 57 else
  if (op == 22) = true then 58 else
  if (op == 23) = true then 58 else
  if (op == 24) = true then 59 else
  if (op == 25) = true then 60 else
  if (op == 26) = true then 61 else
  if (op == 38) = true then 62 else
  if (op == 39) = true then 63 else
  if (decide (26 ≤ op) && decide (op ≤ 37)) = true then 64 else 65

set_option maxHeartbeats 8000000 in
theorem doer_v (g : Nat) (op : Int) (w : World) : Calls Tryz.prog 33 #[.pointer (some ⟨g, 0, none⟩), .int .i64 op] w fun e w' => e = .returned (.func (.func (doF op)) #[.pointer (some ⟨g, 0, none⟩)] #[]) ∧ w = w' := by
  have hmf : ∀ (fn : Fn) (first cap : Array Value) (w : World), (Instr.makeFunc fn first cap).run Tryz.prog w = .ok (.func fn first cap) w := fun _ _ _ _ => rfl
  have HL := Lib.hid (show doF op = if (op == 1) = true then 52 else if (op == 2) = true then 53 else if (op == 15) = true then 54 else if (op == 16) = true then 55 else if (op == 17) = true then 56 else if (op == 18) = true then 56 else if (op == 19) = true then 56 else if (op == 20) = true then 57 else if (op == 21) = true then 57 else if (op == 22) = true then 58 else if (op == 23) = true then 58 else if (op == 24) = true then 59 else if (op == 25) = true then 60 else if (op == 26) = true then 61 else if (op == 38) = true then 62 else if (op == 39) = true then 63 else (if (decide (26 ≤ op) && decide (op ≤ 37)) = true then 64 else 65) from rfl)
  cases t1 : (op == 1)
  · cases t2 : (op == 2)
    · cases t15 : (op == 15)
      · cases t16 : (op == 16)
        · cases t17 : (op == 17)
          · cases t18 : (op == 18)
            · cases t19 : (op == 19)
              · cases t20 : (op == 20)
                · cases t21 : (op == 21)
                  · cases t22 : (op == 22)
                    · cases t23 : (op == 23)
                      · cases t24 : (op == 24)
                        · cases t25 : (op == 25)
                          · cases t26 : (op == 26)
                            · cases t38 : (op == 38)
                              · cases t39 : (op == 39)
                                · cases tj : (decide (26 ≤ op) && decide (op ≤ 37))
                                  · rw [t1, t2, t15, t16, t17, t18, t19, t20, t21, t22, t23, t24, t25, t26, t38, t39, tj] at HL
                                    simp only [Bool.false_eq_true, if_false, if_true] at HL
                                    go_enter Tryz.func33, Tryz.ntmps33
                                    go_wp2_with (go_at_call 48; refine (is_v _ _).mono ?_; rw [tj]; rintro e w' ⟨rfl, rfl⟩)
                                    go_ret
                                    rw [HL.out]
                                    exact ⟨rfl, rfl⟩
                                  · rw [t1, t2, t15, t16, t17, t18, t19, t20, t21, t22, t23, t24, t25, t26, t38, t39, tj] at HL
                                    simp only [Bool.false_eq_true, if_false, if_true] at HL
                                    go_enter Tryz.func33, Tryz.ntmps33
                                    go_wp2_with (go_at_call 48; refine (is_v _ _).mono ?_; rw [tj]; rintro e w' ⟨rfl, rfl⟩)
                                    go_ret
                                    rw [HL.out]
                                    exact ⟨rfl, rfl⟩
                                · rw [t1, t2, t15, t16, t17, t18, t19, t20, t21, t22, t23, t24, t25, t26, t38, t39] at HL
                                  simp only [Bool.false_eq_true, if_false, if_true] at HL
                                  go_enter Tryz.func33, Tryz.ntmps33
                                  go_wp2_with fail
                                  go_ret
                                  rw [HL.out]
                                  exact ⟨rfl, rfl⟩
                              · rw [t1, t2, t15, t16, t17, t18, t19, t20, t21, t22, t23, t24, t25, t26, t38] at HL
                                simp only [Bool.false_eq_true, if_false, if_true] at HL
                                go_enter Tryz.func33, Tryz.ntmps33
                                go_wp2_with fail
                                go_ret
                                rw [HL.out]
                                exact ⟨rfl, rfl⟩
                            · rw [t1, t2, t15, t16, t17, t18, t19, t20, t21, t22, t23, t24, t25, t26] at HL
                              simp only [Bool.false_eq_true, if_false, if_true] at HL
                              go_enter Tryz.func33, Tryz.ntmps33
                              go_wp2_with fail
                              go_ret
                              rw [HL.out]
                              exact ⟨rfl, rfl⟩
                          · rw [t1, t2, t15, t16, t17, t18, t19, t20, t21, t22, t23, t24, t25] at HL
                            simp only [Bool.false_eq_true, if_false, if_true] at HL
                            go_enter Tryz.func33, Tryz.ntmps33
                            go_wp2_with fail
                            go_ret
                            rw [HL.out]
                            exact ⟨rfl, rfl⟩
                        · rw [t1, t2, t15, t16, t17, t18, t19, t20, t21, t22, t23, t24] at HL
                          simp only [Bool.false_eq_true, if_false, if_true] at HL
                          go_enter Tryz.func33, Tryz.ntmps33
                          go_wp2_with fail
                          go_ret
                          rw [HL.out]
                          exact ⟨rfl, rfl⟩
                      · rw [t1, t2, t15, t16, t17, t18, t19, t20, t21, t22, t23] at HL
                        simp only [Bool.false_eq_true, if_false, if_true] at HL
                        go_enter Tryz.func33, Tryz.ntmps33
                        go_wp2_with fail
                        go_ret
                        rw [HL.out]
                        exact ⟨rfl, rfl⟩
                    · rw [t1, t2, t15, t16, t17, t18, t19, t20, t21, t22] at HL
                      simp only [Bool.false_eq_true, if_false, if_true] at HL
                      go_enter Tryz.func33, Tryz.ntmps33
                      go_wp2_with fail
                      go_ret
                      rw [HL.out]
                      exact ⟨rfl, rfl⟩
                  · rw [t1, t2, t15, t16, t17, t18, t19, t20, t21] at HL
                    simp only [Bool.false_eq_true, if_false, if_true] at HL
                    go_enter Tryz.func33, Tryz.ntmps33
                    go_wp2_with fail
                    go_ret
                    rw [HL.out]
                    exact ⟨rfl, rfl⟩
                · rw [t1, t2, t15, t16, t17, t18, t19, t20] at HL
                  simp only [Bool.false_eq_true, if_false, if_true] at HL
                  go_enter Tryz.func33, Tryz.ntmps33
                  go_wp2_with fail
                  go_ret
                  rw [HL.out]
                  exact ⟨rfl, rfl⟩
              · rw [t1, t2, t15, t16, t17, t18, t19] at HL
                simp only [Bool.false_eq_true, if_false, if_true] at HL
                go_enter Tryz.func33, Tryz.ntmps33
                go_wp2_with fail
                go_ret
                rw [HL.out]
                exact ⟨rfl, rfl⟩
            · rw [t1, t2, t15, t16, t17, t18] at HL
              simp only [Bool.false_eq_true, if_false, if_true] at HL
              go_enter Tryz.func33, Tryz.ntmps33
              go_wp2_with fail
              go_ret
              rw [HL.out]
              exact ⟨rfl, rfl⟩
          · rw [t1, t2, t15, t16, t17] at HL
            simp only [Bool.false_eq_true, if_false, if_true] at HL
            go_enter Tryz.func33, Tryz.ntmps33
            go_wp2_with fail
            go_ret
            rw [HL.out]
            exact ⟨rfl, rfl⟩
        · rw [t1, t2, t15, t16] at HL
          simp only [Bool.false_eq_true, if_false, if_true] at HL
          go_enter Tryz.func33, Tryz.ntmps33
          go_wp2_with fail
          go_ret
          rw [HL.out]
          exact ⟨rfl, rfl⟩
      · rw [t1, t2, t15] at HL
        simp only [Bool.false_eq_true, if_false, if_true] at HL
        go_enter Tryz.func33, Tryz.ntmps33
        go_wp2_with fail
        go_ret
        rw [HL.out]
        exact ⟨rfl, rfl⟩
    · rw [t1, t2] at HL
      simp only [Bool.false_eq_true, if_false, if_true] at HL
      go_enter Tryz.func33, Tryz.ntmps33
      go_wp2_with fail
      go_ret
      rw [HL.out]
      exact ⟨rfl, rfl⟩
  · rw [t1] at HL
    simp only [Bool.false_eq_true, if_false, if_true] at HL
    go_enter Tryz.func33, Tryz.ntmps33
    go_wp2_with fail
    go_ret
    rw [HL.out]
    exact ⟨rfl, rfl⟩
end Go.Proofs.YtpigkppnelnhiaaGreat
