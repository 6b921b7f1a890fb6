/- The law's Reach, Extend. -/
import Derived.Test.YtejcijbohnlbgaaZoneM8
import Derived.Test.YtejcijbohnlbgaaZW
import Derived.Test.YtejcijbohnlbgaaZX
namespace Go.Proofs.Ytejcijbohnlbgaa
open Go.ChangeShapes Go.WideShapes Go.ChangeAt Go.RowKit
open Zon
set_option linter.unusedVariables false
set_option maxRecDepth 100000
/-- sixty truth values in a block -/
def BitAt (w : World) (g : Nat) (a : Nat → Bool) : Prop := FB w g 4 60 (fun q => .bool (a q))
theorem BitAt.up {w w' : World} {g : Nat} {a : Nat → Bool} (h : BitAt w g a) (hb : Below w.heap.size w w') : BitAt w' g a := FB.up h hb
theorem BitAt.at_ {w : World} {g : Nat} {a : Nat → Bool} (h : BitAt w g a) (q : Nat) (hq : q < 60) : w.cell? ⟨g, q, none⟩ = some (.bool (a q)) := FB.cell h q hq
theorem BitAt.congr {w : World} {g : Nat} {a b : Nat → Bool} (h : BitAt w g a) (e : ∀ q, q < 60 → a q = b q) : BitAt w g b := FB.congr h fun k hk => by simp only [e k hk]
theorem BitAt.set {w : World} {g : Nat} {a : Nat → Bool} (h : BitAt w g a) (x : Nat) (v : Bool) : BitAt (w.setCell ⟨g, x, none⟩ (.bool v)) g (fun q => if q = x then v else a q) :=
  FB.congr (FB.set_ h x (.bool v)) fun k _ => by
    show upd (fun q => Value.bool (a q)) x (.bool v) k = Value.bool (if k = x then v else a k)
    unfold upd
    by_cases e : k = x
    · rw [if_pos e, if_pos e]
    · rw [if_neg e, if_neg e]
theorem set_new {w wr : World} {g : Nat} {i : Nat} {v : Value} (hg : w.heap.size ≤ g) (h : Below w.heap.size w wr) : Below w.heap.size w (wr.setCell ⟨g, i, none⟩ v) := h.trans ((Touch.set_ wr i v).below hg h.size)
end Go.Proofs.Ytejcijbohnlbgaa
