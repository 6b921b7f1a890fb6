/- What a region that draws its order makes: variables of one to eight cells, each made by one operation and stored into by another; all that was there stays. -/
import Derived.Test.YtpigkppnelnhiaaGreatMcC
import Derived.Test.YtpigkppnelnhiaaGreatInv
namespace Go.Proofs.YtpigkppnelnhiaaGreat
open Go.ChangeShapes Go.WideShapes Go.ChangeAt Go.RowKit
set_option linter.unusedVariables false
set_option maxRecDepth 100000
/-- a variable that may have been made, and stored into -/
def SlotM (lo : Nat) (t : TypeId) (al st : Prop) (x : Value) (w : World) (cs : Array Value) : Prop :=
  (st → al) ∧ (al → ∃ b zs, x = .pointer (some ⟨b, 0, none⟩) ∧ lo ≤ b ∧ zs.size = cs.size ∧ Blk w b t zs ∧ (st → zs = cs))
section
variable {lo : Nat} {t : TypeId} {al st : Prop} {x : Value} {w w' : World} {cs : Array Value} {u : Nat → Prop} {ai si i : Nat}
theorem SlotM.up (h : SlotM lo t al st x w cs) (hb : Below w.heap.size w w') : SlotM lo t al st x w' cs := ⟨h.1, fun ha => by
  obtain ⟨g, zs, e, hg, hz, hB, hs⟩ := h.2 ha
  exact ⟨g, zs, e, hg, hz, hB.up hb, hs⟩⟩
theorem SlotM.no : SlotM lo t False False x w cs := ⟨id, fun ha => ha.elim⟩
theorem SlotM.step (h : SlotM lo t (u ai) (u si) x w cs) (h1 : ai ≠ i) (h2 : si ≠ i) : SlotM lo t (ai = i ∨ u ai) (si = i ∨ u si) x w cs :=
  ⟨fun hs => .inr (h.1 (hs.resolve_left h2)), fun ha => by
    obtain ⟨g, zs, e, hg, hz, hB, hs⟩ := h.2 (ha.resolve_left h1)
    exact ⟨g, zs, e, hg, hz, hB, fun h => hs (h.resolve_left h2)⟩⟩
theorem SlotM.made {zs : Array Value} (h : SlotM lo t (u ai) (u si) x w cs) (hu : ¬ u ai) (hne : si ≠ ai) (hb : lo ≤ w.heap.size) (hz : zs.size = cs.size) :
    SlotM lo t (ai = ai ∨ u ai) (si = ai ∨ u si) (.pointer (some ⟨w.heap.size, 0, none⟩)) (w.alloc (.cells zs t)) cs :=
  ⟨fun _ => .inl rfl, fun _ => ⟨_, zs, rfl, hb, hz, Blk.new w _ _, fun hs => absurd (h.1 (hs.resolve_left hne)) hu⟩⟩
theorem SlotM.far {g : Nat} (h : SlotM lo t al st x w cs) (ht : Touch g w w') (hx : al → x ≠ .pointer (some ⟨g, 0, none⟩)) : SlotM lo t al st x w' cs := ⟨h.1, fun ha => by
  obtain ⟨g', zs, e, hg, hz, hB, hs⟩ := h.2 ha
  exact ⟨g', zs, e, hg, hz, hB.touch ht (fun e2 => hx ha (by rw [e, e2])), hs⟩⟩
theorem SlotM.stored {g : Nat} (hb : lo ≤ g) (ha : u ai) (hB : Blk w' g t cs) : SlotM lo t (ai = si ∨ u ai) (si = si ∨ u si) (.pointer (some ⟨g, 0, none⟩)) w' cs :=
  ⟨fun _ => .inr ha, fun _ => ⟨g, cs, rfl, hb, rfl, hB, fun _ => rfl⟩⟩
theorem SlotM.ne (h : SlotM lo t al st x w cs) (ha : al) : x ≠ .pointer (some ⟨w.heap.size, 0, none⟩) := fun e => by
  obtain ⟨g, zs, e2, _, _, hB, _⟩ := h.2 ha
  rw [e2] at e
  injection e with e
  injection e with e
  injection e with e
  have := hB.lt
  omega
theorem SlotM.full (h : SlotM lo t al st x w cs) (hs : st) : ∃ g, x = .pointer (some ⟨g, 0, none⟩) ∧ lo ≤ g ∧ Blk w g t cs := by
  obtain ⟨g, zs, e, hg, hz, hB, h2⟩ := h.2 (h.1 hs)
  obtain rfl := h2 hs
  exact ⟨g, e, hg, hB⟩
end
theorem arr4_of {zs : Array Value} (h : zs.size = 4) : ∃ a b c d, zs = #[a, b, c, d] := by
  obtain ⟨l⟩ := zs
  match l, h with
  | [a, b, c, d], _ => exact ⟨a, b, c, d, rfl⟩
theorem arr5_of {zs : Array Value} (h : zs.size = 5) : ∃ a b c d e, zs = #[a, b, c, d, e] := by
  obtain ⟨l⟩ := zs
  match l, h with
  | [a, b, c, d, e], _ => exact ⟨a, b, c, d, e, rfl⟩
theorem Touch.up {g : Nat} {w w' : World} (h : Touch g w w') : Touch g w w' := h
theorem below_touch {lo g : Nat} {w0 w w' : World} (h : Below lo w0 w) (ht : Touch g w w') (hg : lo ≤ g) (hl : lo ≤ w.heap.size) : Below lo w0 w' := h.trans (ht.below hg hl)
theorem Blk.five {w : World} {b : Nat} {t : TypeId} {a0 a1 a2 a3 a4 : Value} (h : Blk w b t #[a0, a1, a2, a3, a4]) : (w.cell? ⟨b, 0, none⟩ = some a0 ∧ w.cell? ⟨b, 1, none⟩ = some a1 ∧ w.cell? ⟨b, 2, none⟩ = some a2 ∧ w.cell? ⟨b, 3, none⟩ = some a3 ∧ w.cell? ⟨b, 4, none⟩ = some a4) ∧
    (w.frozen? ⟨b, 0, none⟩ = false ∧ w.frozen? ⟨b, 1, none⟩ = false ∧ w.frozen? ⟨b, 2, none⟩ = false ∧ w.frozen? ⟨b, 3, none⟩ = false ∧ w.frozen? ⟨b, 4, none⟩ = false) := ⟨⟨h.cell 0, h.cell 1, h.cell 2, h.cell 3, h.cell 4⟩, h.frozen 0, h.frozen 1, h.frozen 2, h.frozen 3, h.frozen 4⟩
theorem Blk.eight {w : World} {b : Nat} {t : TypeId} {a0 a1 a2 a3 a4 a5 a6 a7 : Value} (h : Blk w b t #[a0, a1, a2, a3, a4, a5, a6, a7]) : w.cell? ⟨b, 0, none⟩ = some a0 ∧ w.cell? ⟨b, 1, none⟩ = some a1 ∧ w.cell? ⟨b, 2, none⟩ = some a2 ∧ w.cell? ⟨b, 3, none⟩ = some a3 ∧ w.cell? ⟨b, 4, none⟩ = some a4 ∧
    w.cell? ⟨b, 5, none⟩ = some a5 ∧ w.cell? ⟨b, 6, none⟩ = some a6 ∧ w.cell? ⟨b, 7, none⟩ = some a7 := ⟨h.cell 0, h.cell 1, h.cell 2, h.cell 3, h.cell 4, h.cell 5, h.cell 6, h.cell 7⟩
theorem Touch.set5 {g : Nat} (w : World) (a b c d e : Nat) (x y z u v : Value) : Touch g w (((((w.setCell ⟨g, a, none⟩ x).setCell ⟨g, b, none⟩ y).setCell ⟨g, c, none⟩ z).setCell ⟨g, d, none⟩ u).setCell ⟨g, e, none⟩ v) := (((((Touch.set_ _ _ _).trans (Touch.set_ _ _ _)).trans (Touch.set_ _ _ _)).trans (Touch.set_ _ _ _))).trans (Touch.set_ _ _ _)
theorem Blk.set5 {w : World} {b : Nat} {t : TypeId} {a0 a1 a2 a3 a4 : Value} (h : Blk w b t #[a0, a1, a2, a3, a4]) (x y z u v : Value) : Blk (((((w.setCell ⟨b, 0, none⟩ x).setCell ⟨b, 1, none⟩ y).setCell ⟨b, 2, none⟩ z).setCell ⟨b, 3, none⟩ u).setCell ⟨b, 4, none⟩ v) b t #[x, y, z, u, v] :=
  ((((h.set_ 0 x).set_ 1 y).set_ 2 z).set_ 3 u).set_ 4 v
end Go.Proofs.YtpigkppnelnhiaaGreat
