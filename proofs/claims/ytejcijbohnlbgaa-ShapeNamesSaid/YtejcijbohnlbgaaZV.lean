/- The law's reach. -/
import Derived.Test.YtejcijbohnlbgaaZT
namespace Go.Proofs.Ytejcijbohnlbgaa
open Go.ChangeShapes Go.WideShapes Go.ChangeAt Go.RowKit
open Zon
set_option linter.unusedVariables false
set_option maxRecDepth 100000
/-- the least so far, of the first k bounds of a row -/
def rk (M : Tab) (q j : Nat) : Nat → Int
  | 0 => 36028797018963968
  | k + 1 => if M q k = 3458764513820540928 then rk M q j k else if (if k = j then M q k else M q k + 1125899906842624) < rk M q j k then (if k = j then M q k else M q k + 1125899906842624) else rk M q j k
theorem rk_rng {M : Tab} (h : OkT M) {q j : Nat} (hq : q < 60) : ∀ k, k ≤ 60 → -1152921504606846976 ≤ rk M q j k ∧ rk M q j k ≤ 36028797018963968
  | 0, _ => by unfold rk; omega
  | k + 1, hk => by
    have ih := rk_rng h (q := q) (j := j) hq k (by omega)
    have := h q k hq (by omega)
    unfold Ok at this
    unfold rk
    split
    · exact ih
    · split <;> split at * <;> omega
def rF (M : Tab) (j q : Nat) : Int := rk M q j 60
def reachV (M : Tab) (j : Nat) : Nat → Int := fun q => rF M j q - rF M j 0
def partV (M : Tab) (j q k : Nat) : Nat → Int := fun x => if x < q then rF M j x else if x = q then rk M q j k else 0
end Go.Proofs.Ytejcijbohnlbgaa
