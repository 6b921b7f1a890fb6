/- The document's table beside the program's: no bound is 2^61 there. Plain mathematics. -/
import Derived.Test.YtejcijbohnlbgaaZoneM9
namespace Go.Proofs.Ytejcijbohnlbgaa
open Zon
set_option linter.unusedVariables false
set_option maxRecDepth 100000
def rN (x : Int) : Int := if x = 3458764513820540928 then 2305843009213693952 else x
def rT (M : Tab) : Tab := fun p q => rN (M p q)
def rsum (a b : Int) : Int := if 2305843009213693952 ≤ a then 2305843009213693952 else if 2305843009213693952 ≤ b then 2305843009213693952 else if 1152921504606846976 < a + b then 2305843009213693952 else if a + b < -1152921504606846976 then -1152921504606846976 else a + b
theorem rN_rng {x : Int} (h : Ok x) : -1152921504606846976 ≤ rN x ∧ rN x ≤ 2305843009213693952 := by unfold rN Ok at *; split <;> omega
theorem rN_no {x : Int} (h : x = 3458764513820540928) : rN x = 2305843009213693952 := if_pos h
theorem rN_yes {x : Int} (h : x ≠ 3458764513820540928) : rN x = x := if_neg h
theorem rN_top {x : Int} (h : Ok x) : 2305843009213693952 ≤ rN x ↔ x = 3458764513820540928 := by unfold rN Ok at *; split <;> omega
theorem rN_le {x y : Int} (h : Ok x) (g : Ok y) : rN x ≤ rN y ↔ x ≤ y := by unfold rN Ok at *; split <;> split <;> omega
theorem rN_lt {x y : Int} (h : Ok x) (g : Ok y) : rN x < rN y ↔ x < y := by unfold rN Ok at *; split <;> split <;> omega
theorem rN_low {x c : Int} (h : Ok x) (hc : c ≤ 1152921504606846976) : rN x ≤ c ↔ x ≤ c := by unfold rN Ok at *; split <;> omega
theorem rN_neg {x : Int} (h : Ok x) : rN x < 0 ↔ x < 0 := by unfold rN Ok at *; split <;> omega
theorem rN_min {x y : Int} (h : Ok x) (g : Ok y) : (if rN y < rN x then rN y else rN x) = rN (min x y) := by
  by_cases e : y < x
  · rw [if_pos ((rN_lt g h).mpr e), Int.min_eq_right (by omega)]
  · rw [if_neg (fun e' => e ((rN_lt g h).mp e')), Int.min_eq_left (by omega)]
theorem rsum_psum {a b : Int} (ha : Ok a) (hb : Ok b) : rsum (rN a) (rN b) = rN (psum a b) := by
  unfold rsum
  by_cases e : a = 3458764513820540928
  · rw [if_pos ((rN_top ha).mpr e), psum_no _ _ e hb.rng.1]; rfl
  · rw [if_neg (fun g => e ((rN_top ha).mp g))]
    by_cases e2 : b = 3458764513820540928
    · rw [if_pos ((rN_top hb).mpr e2), psum_no' _ _ e2 ha.rng.1]; rfl
    · rw [if_neg (fun g => e2 ((rN_top hb).mp g)), rN_yes e, rN_yes e2]
      unfold psum
      by_cases e3 : 1152921504606846976 < a + b
      · rw [if_pos e3, if_pos e3]; rfl
      · rw [if_neg e3, if_neg e3]
        have : max (a + b) (-1152921504606846976) ≠ 3458764513820540928 := by omega
        rw [rN_yes this]
        split <;> omega
theorem rN_num {c : Int} (h : c ≤ 1152921504606846976) : rN c = c := if_neg (by omega)
theorem rsum_right {a c : Int} (ha : Ok a) (hc : rngB c = true) : rsum (rN a) c = rN (psum a c) := by
  have h := ok_of_rng hc
  have : c ≤ 1152921504606846976 := by unfold rngB at hc; simp at hc; exact hc.2
  rw [← rsum_psum ha h, rN_num this]
/-- the document's zone -/
def rv : Zn → Bool × Tab | none => (true, rT topT) | some M => (false, rT M)
end Go.Proofs.Ytejcijbohnlbgaa
