/- The law's meets, of an assignment that meets. -/
import Derived.Test.YtockoolcdhgopaaZoneM5
import Derived.Test.YtockoolcdhgopaaZT
namespace Go.Proofs.Ytockoolcdhgopaa
open Go.ChangeShapes Go.WideShapes Go.ChangeAt Go.RowKit
open Zon
set_option linter.unusedVariables false
set_option maxRecDepth 100000
set_option maxHeartbeats 4000000 in
theorem meets_yes (w : World) (g : Nat) (M : Tab) (hz : ZoneAt w g (some M)) (ga : Nat) (a : Nat → Int) (ha : VecAt w ga a) (hi : ∀ q, q < 60 → I64 (a q)) (hm : Meets M a) :
    Calls Try.prog 13 #[.pointer (some ⟨g, 0, none⟩), vecV ga] w (True_ w) := by
  have HZ := Lib.hid hz
  have HV := Lib.hid ha
  have HI := Lib.hid hi
  have HM := Lib.hid hm
  have HE := Lib.hid (Empty_any w g (some M) hz)
  have HC := Lib.hid (Cons_law w g (some M) hz)
  clear hz ha hi hm
  go_enter Try.func13, Try.ntmps13
  go_wp2_with fail
  go_at_call 24
  refine HE.out.mono ?_
  rintro e w' ⟨rfl, rfl⟩
  rw [show voidB (some M) = false from rfl]
  go_wp2_with fail
  go_at_call 26
  refine HC.out.mono ?_
  rintro e w2 ⟨A, n, c, rfl, hL, hc, hA, hB⟩
  have HL := Lib.hid (show (consT M).length = n from hL)
  have HA := Lib.hid (show ConsAt w2 A (consT M) from hA)
  have HV2 := Lib.hid (HV.out.up hB)
  have HB2 := Lib.hid hB
  have hn : n ≤ 3600 := by have := consN_len M 60; have : (consT M).length ≤ 60 * 60 := this; have := HL.out; omega
  clear hL hA hB HE HC
  go_wp2_with fail
  go_loopw [6] (fun i wr => ∃ k : Nat, k ≤ n ∧ i = .int .i64 k ∧ Below w2.heap.size w2 wr) (fun i _ => (n - intOf i).toNat)
  case atStart => exact ⟨0, by omega, rfl, Below.refl _ _⟩
  case round =>
    obtain ⟨k, hk, rfl, hB⟩ := hrel
    by_cases hlt : k < n
    · have hlt' : (k : Int) < n := by omega
      have hk0 : (0 : Int) ≤ k := by omega
      obtain ⟨b, off, rfl, hbl, -⟩ := HA.out (by have := HL.out; omega)
      obtain ⟨x, hx, -, x0, x1, x2⟩ := (HA.out.below hB).get (k := k) (by have := HL.out; omega)
      obtain ⟨p, q, hp, hq, h1, h2, rfl⟩ := mem_consT.mp (List.mem_of_getElem? hx)
      have hV3 : VecAt wr ga a := HV2.out.up hB
      have v0 := hV3.at_ p hp
      have v1 := hV3.at_ q hq
      have hle := HM.out p q hp hq h2
      have hok := HZ.out.2 p q hp hq
      have hr : -2305843009213693952 ≤ M p q ∧ M p q ≤ 2305843009213693952 := by unfold Ok at hok; omega
      have HBY := Lib.hid (fun W => beyond_any (a p) (a q) (M p q) W (HI.out p hp) (HI.out q hq) hr)
      rw [decide_eq_false (show ¬ (M p q < a p - a q) by omega)] at HBY
      simp only at x0 x1 x2
      have hp1 : (p : Int) < 60 := by omega
      have hq1 : (q : Int) < 60 := by omega
      have hp0 : (0 : Int) ≤ p := by omega
      have hq0 : (0 : Int) ≤ q := by omega
      have t1 : decide ((p : Int) < 0) = false := decide_eq_false (by omega)
      have t2 : decide ((q : Int) < 0) = false := decide_eq_false (by omega)
      have t3 : decide ((60 : Int) ≤ p) = false := decide_eq_false (by omega)
      have t4 : decide ((60 : Int) ≤ q) = false := decide_eq_false (by omega)
      have t5 : decide (60 ≤ p) = false := decide_eq_false (by omega)
      have t6 : decide (60 ≤ q) = false := decide_eq_false (by omega)
      have HB := Lib.hid hB
      generalize M p q = mv at *
      generalize a p = ap at *
      generalize a q = aq at *
      clear hx hB hbl h1 h2 hV3 hle hok hr hlt hp hq
      go_upto_region 7 with (fail)
      go_quiet ((go_at_call 15; exact Calls.quiet_of_same ((HBY.out _).mono fun e w' h => ⟨h.1, h.2.symm⟩)))
      go_wp2_with fail
      go_roundw
      case rel => exact ⟨k + 1, by omega, by go_num, below_drewN' HB.out _⟩
      case measure => simp [intOf]; omega
    · obtain rfl : k = n := by omega
      have hjn : decide ((k : Int) < k) = false := decide_eq_false (by omega)
      have HBl := Lib.hid (HB2.out.trans (hB.mono HB2.out.size))
      clear hB
      go_wp2_with fail
      go_ret
      exact ⟨rfl, HBl.out⟩
end Go.Proofs.Ytockoolcdhgopaa
