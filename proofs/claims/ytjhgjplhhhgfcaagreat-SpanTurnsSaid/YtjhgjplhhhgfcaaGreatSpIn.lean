/- What a region that draws its order makes: variables of two ends, each made by one operation and stored into by another. -/
import Derived.Test.YtjhgjplhhhgfcaaGreatSpR
import Derived.Test.YtjhgjplhhhgfcaaGreatInv
namespace Go.Proofs.YtjhgjplhhhgfcaaGreat
open Go.ChangeShapes Go.WideShapes Go.ChangeAt Go.RowKit
open Spn
namespace Spc
set_option linter.unusedVariables false
set_option maxRecDepth 100000
/-- a variable that may have been made, and stored into -/
def SlotI (base : Nat) (al st : Prop) (x : Value) (w : World) (p q : Value) : Prop :=
  (st → al) ∧ (al → ∃ g, x = .pointer (some ⟨g, 0, none⟩) ∧ base < g ∧ ∃ a b, Blk w g 30 #[a, b] ∧ (st → a = p ∧ b = q))
theorem SlotI.up {base : Nat} {al st : Prop} {x p q : Value} {w w' : World} (h : SlotI base al st x w p q) (hb : Below w.heap.size w w') : SlotI base al st x w' p q := ⟨h.1, fun ha => by
  obtain ⟨g, e, hg, a, b, hB, hs⟩ := h.2 ha
  exact ⟨g, e, hg, a, b, hB.up hb, hs⟩⟩
theorem SlotI.no {base : Nat} {x p q : Value} {w : World} : SlotI base False False x w p q := ⟨id, fun ha => ha.elim⟩
/-- another operation comes up -/
theorem SlotI.step {base : Nat} {u : Nat → Prop} {ai si i : Nat} {x p q : Value} {w : World} (h : SlotI base (u ai) (u si) x w p q) (h1 : ai ≠ i) (h2 : si ≠ i) : SlotI base (ai = i ∨ u ai) (si = i ∨ u si) x w p q :=
  ⟨fun hs => .inr (h.1 (hs.resolve_left h2)), fun ha => by
    obtain ⟨g, e, hg, a, b, hB, hs⟩ := h.2 (ha.resolve_left h1)
    exact ⟨g, e, hg, a, b, hB, fun h => hs (h.resolve_left h2)⟩⟩
/-- just made -/
theorem SlotI.made {base : Nat} {u : Nat → Prop} {ai si : Nat} {x p q a b : Value} {w : World} (h : SlotI base (u ai) (u si) x w p q) (hu : ¬ u ai) (hne : si ≠ ai) (hb : base < w.heap.size) :
    SlotI base (ai = ai ∨ u ai) (si = ai ∨ u si) (.pointer (some ⟨w.heap.size, 0, none⟩)) (w.alloc (.cells #[a, b] 30)) p q :=
  ⟨fun _ => .inl rfl, fun _ => ⟨_, rfl, hb, a, b, Blk.new w _ _, fun hs => absurd (h.1 (hs.resolve_left hne)) hu⟩⟩
/-- another one is stored into -/
theorem SlotI.far {base g : Nat} {al st : Prop} {x p q a b : Value} {w : World} (h : SlotI base al st x w p q) (hx : al → x ≠ .pointer (some ⟨g, 0, none⟩)) : SlotI base al st x ((w.setCell ⟨g, 0, none⟩ a).setCell ⟨g, 1, none⟩ b) p q := ⟨h.1, fun ha => by
  obtain ⟨g', e, hg, c, d, hB, hs⟩ := h.2 ha
  exact ⟨g', e, hg, c, d, far2 hB (fun e2 => hx ha (by rw [e, e2])) a b, hs⟩⟩
/-- this one is stored into -/
theorem SlotI.stored {base g : Nat} {u : Nat → Prop} {ai si : Nat} {p q c d : Value} {w : World} (hb : base < g) (ha : u ai) (hB : Blk w g 30 #[c, d]) :
    SlotI base (ai = si ∨ u ai) (si = si ∨ u si) (.pointer (some ⟨g, 0, none⟩)) ((w.setCell ⟨g, 0, none⟩ p).setCell ⟨g, 1, none⟩ q) p q :=
  ⟨fun _ => .inr ha, fun _ => ⟨g, rfl, hb, p, q, set2 hB p q, fun _ => ⟨rfl, rfl⟩⟩⟩
/-- one that is made later is another one -/
theorem SlotI.ne {base : Nat} {al st : Prop} {x p q : Value} {w : World} (h : SlotI base al st x w p q) (ha : al) : x ≠ .pointer (some ⟨w.heap.size, 0, none⟩) := fun e => by
  obtain ⟨g, e2, _, c, d, hB, _⟩ := h.2 ha
  rw [e2] at e
  injection e with e
  injection e with e
  injection e with e
  have := hB.lt
  omega
/-- all has come up -/
theorem SlotI.full {base : Nat} {al st : Prop} {x p q : Value} {w : World} (h : SlotI base al st x w p q) (hs : st) : ∃ g, x = .pointer (some ⟨g, 0, none⟩) ∧ base < g ∧ Blk w g 30 #[p, q] := by
  obtain ⟨g, e, hg, a, b, hB, h2⟩ := h.2 (h.1 hs)
  obtain ⟨rfl, rfl⟩ := h2 hs
  exact ⟨g, e, hg, hB⟩
end Spc
end Go.Proofs.YtjhgjplhhhgfcaaGreat
