/- A drawn region's variables whose content is told by a predicate. -/
import Derived.Test.YtpigkppnelnhiaaGreatMcI
namespace Go.Proofs.YtpigkppnelnhiaaGreat
open Go.ChangeShapes Go.WideShapes Go.ChangeAt Go.RowKit
set_option linter.unusedVariables false
set_option maxRecDepth 100000
/-- a variable that may have been made, and stored into -/
def SlotP (lo : Nat) (t : TypeId) (al st : Prop) (x : Value) (w : World) (N : Nat) (C : Array Value → Prop) : Prop :=
  (st → al) ∧ (al → ∃ b zs, x = .pointer (some ⟨b, 0, none⟩) ∧ lo ≤ b ∧ zs.size = N ∧ Blk w b t zs ∧ (st → C zs))
section
variable {lo : Nat} {t : TypeId} {al st : Prop} {x : Value} {w w' : World} {N : Nat} {C : Array Value → Prop} {u : Nat → Prop} {ai si i : Nat}
theorem SlotP.up (h : SlotP lo t al st x w N C) (hb : Below w.heap.size w w') : SlotP lo t al st x w' N C := ⟨h.1, fun ha => by
  obtain ⟨g, zs, e, hg, hz, hB, hs⟩ := h.2 ha
  exact ⟨g, zs, e, hg, hz, hB.up hb, hs⟩⟩
theorem SlotP.no : SlotP lo t False False x w N C := ⟨id, fun ha => ha.elim⟩
theorem SlotP.step (h : SlotP lo t (u ai) (u si) x w N C) (h1 : ai ≠ i) (h2 : si ≠ i) : SlotP lo t (ai = i ∨ u ai) (si = i ∨ u si) x w N C :=
  ⟨fun hs => .inr (h.1 (hs.resolve_left h2)), fun ha => by
    obtain ⟨g, zs, e, hg, hz, hB, hs⟩ := h.2 (ha.resolve_left h1)
    exact ⟨g, zs, e, hg, hz, hB, fun h => hs (h.resolve_left h2)⟩⟩
theorem SlotP.made {zs : Array Value} (h : SlotP lo t (u ai) (u si) x w N C) (hu : ¬ u ai) (hne : si ≠ ai) (hb : lo ≤ w.heap.size) (hz : zs.size = N) :
    SlotP lo t (ai = ai ∨ u ai) (si = ai ∨ u si) (.pointer (some ⟨w.heap.size, 0, none⟩)) (w.alloc (.cells zs t)) N C :=
  ⟨fun _ => .inl rfl, fun _ => ⟨_, zs, rfl, hb, hz, Blk.new w _ _, fun hs => absurd (h.1 (hs.resolve_left hne)) hu⟩⟩
theorem SlotP.far {g : Nat} (h : SlotP lo t al st x w N C) (ht : Touch g w w') (hx : al → x ≠ .pointer (some ⟨g, 0, none⟩)) : SlotP lo t al st x w' N C := ⟨h.1, fun ha => by
  obtain ⟨g', zs, e, hg, hz, hB, hs⟩ := h.2 ha
  exact ⟨g', zs, e, hg, hz, hB.touch ht (fun e2 => hx ha (by rw [e, e2])), hs⟩⟩
theorem SlotP.stored {g : Nat} {cs : Array Value} (hb : lo ≤ g) (ha : u ai) (hB : Blk w' g t cs) (hN : cs.size = N) (hC : C cs) : SlotP lo t (ai = si ∨ u ai) (si = si ∨ u si) (.pointer (some ⟨g, 0, none⟩)) w' N C :=
  ⟨fun _ => .inr ha, fun _ => ⟨g, cs, rfl, hb, hN, hB, fun _ => hC⟩⟩
theorem SlotP.ne (h : SlotP lo t al st x w N C) (ha : al) : x ≠ .pointer (some ⟨w.heap.size, 0, none⟩) := fun e => by
  obtain ⟨g, zs, e2, _, _, hB, _⟩ := h.2 ha
  rw [e2] at e
  injection e with e
  injection e with e
  injection e with e
  have := hB.lt
  omega
theorem SlotP.full (h : SlotP lo t al st x w N C) (hs : st) : ∃ g cs, x = .pointer (some ⟨g, 0, none⟩) ∧ lo ≤ g ∧ Blk w g t cs ∧ C cs := by
  obtain ⟨g, zs, e, hg, hz, hB, h2⟩ := h.2 (h.1 hs)
  exact ⟨g, zs, e, hg, hB, h2 hs⟩
end
end Go.Proofs.YtpigkppnelnhiaaGreat
