/- Contracts of the document's rows of bits, more: signed, width. -/
import Derived.Test.YthibideapapcbaaDoorRow
import Derived.Deep.QuietTactic
import Derived.BigQuiet
namespace Go.Proofs.YthibideapapcbaaDoor
open Go.ChangeShapes Go.WideShapes Go.ChangeAt Go.RowKit
open Bits

/-- the number of a row of at most 64 bits, the highest as its sign -/
def sgnL (L : List Int) : Int :=
  if L.length = 64 then wrap64 (valL L) else if L.length = 0 then 0 else if L[L.length - 1]?.getD 0 = 0 then valL L else valL L - 2 ^ L.length

theorem pow_le_of {a b : Nat} (h : a ≤ b) : (2 : Int) ^ a ≤ 2 ^ b := by exact_mod_cast Nat.pow_le_pow_right (by decide : 0 < 2) h

theorem valL_w64 {L : List Int} (h : Bit L) (hl : L.length < 64) : wrap64 (valL L) = valL L := by
  have h1 := valL_nonneg h
  have h2 : (2 : Int) ^ L.length ≤ 2 ^ 63 := pow_le_of (by omega)
  have h3 : (2 : Int) ^ 63 = 9223372036854775808 := by decide
  exact IntWalk.wrap64_in _ (by omega)

theorem IntsAt.drewN {w : World} {A : Option Addr} {L : List Int} (h : IntsAt w A L) (n : Nat) : IntsAt (w.drewN n) A L := h
end Go.Proofs.YthibideapapcbaaDoor
