/- Contracts of the law's same. -/
import Derived.Test.YtejcijbohnlbgaaZH
namespace Go.Proofs.Ytejcijbohnlbgaa
open Go.ChangeShapes Go.WideShapes Go.ChangeAt Go.RowKit
open Zon
set_option linter.unusedVariables false
set_option maxRecDepth 100000
theorem below_drewN' {B : Nat} {a w : World} (h : Below B a w) (n : Nat) : Below B a (w.drewN n) := h.trans ⟨rfl, rfl, rfl, Nat.le_refl _, fun _ _ => rfl⟩
def True_ (w : World) (e : Ending) (w' : World) : Prop := e = .returned (.bool true) ∧ Below w.heap.size w w'
set_option maxHeartbeats 2000000 in
theorem same_yes (w : World) (A A' : Option Addr) (n c c' : Nat) (L : List Con) (hL : L.length = n) (hn : n ≤ 4000000000000000000) (h : ConsAt w A L) (h' : ConsAt w A' L) :
    Calls Try.prog 24 #[.slice A n c, .slice A' n c'] w (True_ w) := by
  have HA := Lib.hid h
  have HA' := Lib.hid h'
  have HL := Lib.hid hL
  clear h h' hL
  go_enter Try.func24, Try.ntmps24
  go_wp2_with fail
  go_loopw [5] (fun i wr => ∃ k : Nat, k ≤ n ∧ i = .int .i64 k ∧ Below w.heap.size w wr) (fun i _ => (n - intOf i).toNat)
  case atStart => exact ⟨0, by omega, rfl, Below.refl _ _⟩
  case round =>
    obtain ⟨k, hk, rfl, hB⟩ := hrel
    by_cases hlt : k < n
    · have hlt' : (k : Int) < n := by omega
      have hk0 : (0 : Int) ≤ k := by omega
      obtain ⟨b, off, rfl, hbl, -⟩ := HA.out (by have := HL.out; omega)
      obtain ⟨b', off', rfl, hbl', -⟩ := HA'.out (by have := HL.out; omega)
      obtain ⟨x, hx, -, x0, x1, x2⟩ := (HA.out.below hB).get (k := k) (by have := HL.out; omega)
      obtain ⟨x', hx', -, y0, y1, y2⟩ := (HA'.out.below hB).get (k := k) (by have := HL.out; omega)
      rw [hx] at hx'
      injection hx' with e
      subst e
      obtain ⟨xi, xj, xc⟩ := x
      simp only at x0 x1 x2 y0 y1 y2
      have HB := Lib.hid hB
      clear hx hB hlt hbl hbl'
      go_wp2_with fail
      go_quiet (fail)
      go_wp2_with fail
      go_roundw
      case rel => exact ⟨k + 1, by omega, by go_num, below_drewN' HB.out _⟩
      case measure => simp [intOf]; omega
    · obtain rfl : k = n := by omega
      have hjn : decide ((k : Int) < k) = false := decide_eq_false (by omega)
      go_wp2_with fail
      go_ret
      exact ⟨rfl, hB⟩
theorem awake_math : consZ (withZ (some topT) [⟨2, 3, 1⟩, ⟨3, 4, 2⟩]) = [⟨2, 3, 1⟩, ⟨2, 4, 3⟩, ⟨3, 4, 2⟩] := by decide +kernel
end Go.Proofs.Ytejcijbohnlbgaa
