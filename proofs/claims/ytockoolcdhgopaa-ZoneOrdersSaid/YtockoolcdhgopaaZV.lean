/- The law's reach. -/
import Derived.Test.YtockoolcdhgopaaZT
namespace Go.Proofs.Ytockoolcdhgopaa
open Go.ChangeShapes Go.WideShapes Go.ChangeAt Go.RowKit
open Zon
set_option linter.unusedVariables false
set_option maxRecDepth 100000
/-- the least so far, of the first k bounds of a row -/
def rk (M : Tab) (q j : Nat) : Nat → Int
  | 0 => 36028797018963968
  | k + 1 => if M q k = 3458764513820540928 then rk M q j k else if (if k = j then M q k else M q k + 1125899906842624) < rk M q j k then (if k = j then M q k else M q k + 1125899906842624) else rk M q j k
theorem rk_rng {M : Tab} (h : OkT M) {q j : Nat} (hq : q < 60) : ∀ k, k ≤ 60 → -1152921504606846976 ≤ rk M q j k ∧ rk M q j k ≤ 36028797018963968
  | 0, _ => by unfold rk; omega
  | k + 1, hk => by
    have ih := rk_rng h (q := q) (j := j) hq k (by omega)
    have := h q k hq (by omega)
    unfold Ok at this
    unfold rk
    split
    · exact ih
    · split <;> split at * <;> omega
def rF (M : Tab) (j q : Nat) : Int := rk M q j 60
def reachV (M : Tab) (j : Nat) : Nat → Int := fun q => rF M j q - rF M j 0
def partV (M : Tab) (j q k : Nat) : Nat → Int := fun x => if x < q then rF M j x else if x = q then rk M q j k else 0
set_option maxHeartbeats 8000000 in
theorem reach_any (w : World) (g : Nat) (M : Tab) (i : Int) (j : Nat) (hz : ZoneAt w g (some M)) (hj : j < 60) :
    Calls Try.prog 72 #[.pointer (some ⟨g, 0, none⟩), .int .i64 i, .int .i64 j, .int .i64 1125899906842624] w (Vec w (reachV M j)) := by
  have HZ := Lib.hid hz
  have hj1 : (j : Int) < 60 := by omega
  have hj0 : (0 : Int) ≤ j := by omega
  clear hz
  go_enter Try.func72, Try.ntmps72
  go_upto_region 2 with (refine wpList_make60 rfl _ _ rfl rfl rfl ?_; intro w2 hb2 hB2 hs2)
  obtain ⟨g9, hg⟩ : ∃ g, g = w.heap.size := ⟨_, rfl⟩
  rw [← hg] at hb2 ⊢
  have HG := Lib.hid hg
  have HB2 := Lib.hid hB2
  have Hb2 := Lib.hid hb2
  have HNE := Lib.hid (show g ≠ g9 by have := HZ.out.lt; omega)
  have HZ2 := Lib.hid (show ZB w2 g false M from HZ.out.1.up hB2)
  clear hg hb2 hB2 hs2
  go_wp2_with fail
  go_loopw [10] (fun i wr => ∃ k : Nat, k ≤ 60 ∧ i = .int .i64 k ∧ VecAt wr g9 (fun x => if x < k then rF M j x else 0) ∧ Touch g9 w2 wr) (fun i _ => (60 - intOf i).toNat)
  case atStart => exact ⟨0, by omega, rfl, Hb2.out.congr fun q _ => by rw [if_neg (by omega)], Touch.refl _ _⟩
  case round =>
    obtain ⟨q, hq, rfl, hV, hT⟩ := hrel
    have hq0 : (0 : Int) ≤ q := by omega
    by_cases hlt : q < 60
    · have hq1 : (q : Int) < 60 := by omega
      have hy := hV.at_ q hlt
      have hf := FB.frozen hV q
      have HN := Lib.hid ((hV.set q 36028797018963968).congr (b := partV M j q 0) fun x _ => by
        unfold updI partV rk
        by_cases e : x = q
        · rw [if_pos e, if_neg (by omega), if_pos e]
        · rw [if_neg e]
          show (if x < q then rF M j x else 0) = _
          by_cases e2 : x < q
          · rw [if_pos e2, if_pos e2]
          · rw [if_neg e2, if_neg e2, if_neg e])
      have HT := Lib.hid (hT.trans (Touch.set_ wr q (.int .i64 36028797018963968)))
      clear hV hT
      go_upto_region 6 with (fail)
      generalize wr.setCell ⟨g9, q, none⟩ (.int .i64 36028797018963968) = wo at *
      clear hy hf
      go_wp2_with fail
      go_loopw [11] (fun i wr => ∃ k : Nat, k ≤ 60 ∧ i = .int .i64 k ∧ VecAt wr g9 (partV M j q k) ∧ Touch g9 w2 wr) (fun i _ => (60 - intOf i).toNat)
      case atStart => exact ⟨0, by omega, rfl, HN.out, HT.out⟩
      case round =>
        clear HN HT
        obtain ⟨k, hk, rfl, hV, hT⟩ := hrel
        have hk0 : (0 : Int) ≤ k := by omega
        by_cases hkt : k < 60
        · have hk1 : (k : Int) < 60 := by omega
          have HBo := Lib.hid (Bound_at wr g q k M ⟨HZ2.out.touch hT HNE.out, HZ.out.2⟩ hlt hkt)
          have HOK := Lib.hid (HZ.out.2 q k hlt hkt)
          have HR := Lib.hid (rk_rng HZ.out.2 (j := j) hlt k (by omega))
          have HRE := Lib.hid (show rk M q j (k + 1) = if M q k = 3458764513820540928 then rk M q j k else if (if k = j then M q k else M q k + 1125899906842624) < rk M q j k then (if k = j then M q k else M q k + 1125899906842624) else rk M q j k from rfl)
          have HV := Lib.hid hV
          have HT := Lib.hid hT
          clear hV hT
          go_wp2_with fail
          go_at_call 18
          refine HBo.out.mono ?_
          rintro e w3 ⟨rfl, hB3⟩
          have hV3 := HV.out.up hB3
          have HT3 := Lib.hid (HT.out.trans (.of_below hB3))
          clear HBo HV HT hB3
          by_cases hno : M q k = 3458764513820540928
          · have HE := Lib.hid (HRE.out.trans (if_pos hno))
            rw [show bv (bnd (M q k)) = .agg #[.bool false, .int .i64 0] by unfold bnd; rw [if_pos hno]; rfl]
            have HV4 := Lib.hid (hV3.up (below_box w3 (.cells #[.bool false, .int .i64 0] 38)))
            have HT4 := Lib.hid (HT3.out.trans (Touch.of_below (below_box w3 (.cells #[.bool false, .int .i64 0] 38))))
            clear hno HRE hV3 HT3
            go_wp2_with fail
            go_roundw
            case rel => exact ⟨k + 1, by omega, by go_num, HV4.out.congr fun x _ => by unfold partV; rw [HE.out], HT4.out⟩
            case measure => simp [intOf]; omega
          · rw [show bv (bnd (M q k)) = .agg #[.bool true, .int .i64 (M q k)] by unfold bnd; rw [if_neg hno]; rfl]
            have hrange : -1152921504606846976 ≤ M q k ∧ M q k ≤ 1152921504606846976 := by have := HOK.out; unfold Ok at this; omega
            have HV4 := Lib.hid (hV3.up (below_box w3 (.cells #[.bool true, .int .i64 (M q k)] 38)))
            have HT4 := Lib.hid (HT3.out.trans (Touch.of_below (below_box w3 (.cells #[.bool true, .int .i64 (M q k)] 38))))
            have HRE2 := Lib.hid (HRE.out.trans (if_neg hno))
            clear hno HRE hV3 HT3
            obtain ⟨r1, r2⟩ := hrange
            have hx4 := HV4.out.at_ q hlt
            have hf4 := FB.frozen HV4.out q
            rw [show partV M j q k q = rk M q j k by unfold partV; rw [if_neg (by omega), if_pos rfl]] at hx4
            obtain ⟨mv, hmv⟩ : ∃ mv, mv = M q k := ⟨_, rfl⟩
            obtain ⟨rv, hrv⟩ : ∃ rv, rv = rk M q j k := ⟨_, rfl⟩
            have HMV := Lib.hid hmv
            have HRV := Lib.hid hrv
            rw [← hmv] at r1 r2 HRE2 HV4 HT4 hx4 hf4 ⊢
            rw [← hrv] at HRE2 hx4
            have hrr := HR.out
            rw [← hrv] at hrr
            obtain ⟨s1, s2⟩ := hrr
            clear hmv hrv HR HOK
            have hcase : ∃ v, (if k = j then mv else mv + 1125899906842624) = v := ⟨_, rfl⟩
            by_cases hkj : k = j
            · have hv : (if k = j then mv else mv + 1125899906842624) = mv := if_pos hkj
              have t1 : ((k : Int) != (j : Int)) = false := by rw [hkj]; exact bne_self_eq_false _
              have t2 : ((k : Int) == (j : Int)) = true := by rw [hkj]; exact beq_self_eq_true _
              rw [hv] at HRE2
              have HKJ := Lib.hid hkj
              clear hkj hv hcase
              by_cases hc : mv < rv
              · have t3 : decide (mv < rv) = true := decide_eq_true hc
                have HE := Lib.hid (HRE2.out.trans (if_pos hc))
                clear hc
                have HV5 := Lib.hid ((HV4.out.set q mv).congr (b := partV M j q (k + 1)) fun x _ => by
                  unfold updI partV
                  by_cases e : x = q
                  · rw [if_pos e, if_neg (by omega), if_pos e, HE.out]
                  · rw [if_neg e, if_neg e]
                    by_cases e2 : x < q
                    · rw [if_pos e2, if_pos e2]
                    · rw [if_neg e2, if_neg e2, if_neg e])
                have HT5 := Lib.hid (HT4.out.trans (Touch.set_ _ q (.int .i64 mv)))
                go_wp2_with fail
                go_roundw
                case rel => exact ⟨k + 1, by omega, by go_num, HV5.out, HT5.out⟩
                case measure => simp [intOf]; omega
              · have t3 : decide (mv < rv) = false := decide_eq_false hc
                have HE := Lib.hid (HRE2.out.trans (if_neg hc))
                clear hc
                go_wp2_with fail
                go_roundw
                case rel => exact ⟨k + 1, by omega, by go_num, HV4.out.congr fun x _ => by unfold partV; rw [HE.out, HRV.out], HT4.out⟩
                case measure => simp [intOf]; omega
            · have hv : (if k = j then mv else mv + 1125899906842624) = mv + 1125899906842624 := if_neg hkj
              have t1 : ((k : Int) != (j : Int)) = true := by rw [bne_iff_ne]; omega
              have t2 : ((k : Int) == (j : Int)) = false := by rw [beq_eq_false_iff_ne]; omega
              rw [hv] at HRE2
              clear hkj hv hcase
              by_cases hc : mv + 1125899906842624 < rv
              · have t3 : decide (mv + 1125899906842624 < rv) = true := decide_eq_true hc
                have HE := Lib.hid (HRE2.out.trans (if_pos hc))
                clear hc
                have HV5 := Lib.hid ((HV4.out.set q (mv + 1125899906842624)).congr (b := partV M j q (k + 1)) fun x _ => by
                  unfold updI partV
                  by_cases e : x = q
                  · rw [if_pos e, if_neg (by omega), if_pos e, HE.out]
                  · rw [if_neg e, if_neg e]
                    by_cases e2 : x < q
                    · rw [if_pos e2, if_pos e2]
                    · rw [if_neg e2, if_neg e2, if_neg e])
                have HT5 := Lib.hid (HT4.out.trans (Touch.set_ _ q (.int .i64 (mv + 1125899906842624))))
                go_wp2_with fail
                go_roundw
                case rel => exact ⟨k + 1, by omega, by go_num, HV5.out, HT5.out⟩
                case measure => simp [intOf]; omega
              · have t3 : decide (mv + 1125899906842624 < rv) = false := decide_eq_false hc
                have HE := Lib.hid (HRE2.out.trans (if_neg hc))
                clear hc
                go_wp2_with fail
                go_roundw
                case rel => exact ⟨k + 1, by omega, by go_num, HV4.out.congr fun x _ => by unfold partV; rw [HE.out, HRV.out], HT4.out⟩
                case measure => simp [intOf]; omega
        · obtain rfl : k = 60 := by omega
          have HV := Lib.hid (hV.congr (b := fun x => if x < q + 1 then rF M j x else 0) fun x _ => by
            unfold partV
            by_cases e : x < q
            · rw [if_pos e, if_pos (by omega)]
            · by_cases e2 : x = q
              · rw [if_neg e, if_pos e2, if_pos (by omega), e2]; rfl
              · rw [if_neg e, if_neg e2, if_neg (by omega)])
          have HT := Lib.hid hT
          clear hV hT
          go_wp2_with fail
          go_roundw
          case rel => exact ⟨q + 1, by omega, by go_num, HV.out, HT.out⟩
          case measure => simp [intOf]; omega
    · obtain rfl : q = 60 := by omega
      have hV2 : VecAt wr g9 (rF M j) := hV.congr fun x hx => by rw [if_pos hx]
      have h0 := hV2.at_ 0 (by omega)
      have HR := Lib.hid (fun x (hx : x < 60) => rk_rng HZ.out.2 (q := x) (j := j) hx 60 (by omega))
      have HV := Lib.hid hV2
      have HT := Lib.hid hT
      clear hV hT hV2
      go_wp2_with fail
      obtain ⟨wo, rfl⟩ : ∃ wo : World, wo = wr := ⟨_, rfl⟩
      go_loopw [15] (fun i wr => ∃ k : Nat, k ≤ 60 ∧ i = .int .i64 k ∧ VecAt wr g9 (fun x => if x < k then reachV M j x else rF M j x) ∧ Touch g9 w2 wr) (fun i _ => (60 - intOf i).toNat)
      case atStart => exact ⟨0, by omega, rfl, HV.out.congr fun x _ => by rw [if_neg (by omega)], HT.out⟩
      case round =>
        clear HV HT h0
        obtain ⟨k, hk, rfl, hV, hT⟩ := hrel
        have hk0 : (0 : Int) ≤ k := by omega
        by_cases hkt : k < 60
        · have hk1 : (k : Int) < 60 := by omega
          have hx := hV.at_ k hkt
          rw [if_neg (by omega)] at hx
          have hf := FB.frozen hV k
          obtain ⟨a1, a2⟩ := HR.out k hkt
          obtain ⟨b1, b2⟩ := HR.out 0 (by omega)
          have HN := Lib.hid ((hV.set k (rF M j k - rF M j 0)).congr (b := fun x => if x < k + 1 then reachV M j x else rF M j x) fun x _ => by
            unfold updI
            by_cases e : x = k
            · rw [if_pos e, if_pos (by omega), e]; rfl
            · rw [if_neg e]
              show (if x < k then reachV M j x else rF M j x) = _
              by_cases e2 : x < k
              · rw [if_pos e2, if_pos (by omega)]
              · rw [if_neg e2, if_neg (by omega)])
          have HT := Lib.hid (hT.trans (Touch.set_ wr k (.int .i64 (rF M j k - rF M j 0))))
          change -1152921504606846976 ≤ rF M j k at a1
          change rF M j k ≤ 36028797018963968 at a2
          change -1152921504606846976 ≤ rF M j 0 at b1
          change rF M j 0 ≤ 36028797018963968 at b2
          clear hV hT
          go_wp2_with fail
          go_roundw
          case rel => exact ⟨k + 1, by omega, by go_num, HN.out, HT.out⟩
          case measure => simp [intOf]; omega
        · obtain rfl : k = 60 := by omega
          have HV := Lib.hid (hV.congr (b := reachV M j) fun x hx => by rw [if_pos hx])
          have HBl := Lib.hid (show Below w.heap.size w wr from HB2.out.trans (hT.below (by rw [HG.out]; exact Nat.le_refl _) HB2.out.size))
          clear hV hT
          go_wp2_with fail
          go_ret
          exact ⟨g9, rfl, by rw [HG.out]; exact Nat.le_refl _, HV.out, HBl.out⟩
end Go.Proofs.Ytockoolcdhgopaa
