/- Package code: (*reader).ins, whatever lies ahead of it. -/
import Derived.Test.YthibideapapcbaaDoorCodeD1
namespace Go.Proofs.YthibideapapcbaaDoor
open Go.ChangeShapes Go.WideShapes Go.ChangeAt Go.RowKit
open Cod Bits
set_option linter.unusedVariables false
set_option linter.unusedSimpArgs false

/-- the bytes that are left: they lie below B -/
def Left (w : World) (B : Nat) (A : Option Addr) (n c : Nat) (L : List Int) : Prop :=
  L.length = n ∧ BytesL L ∧ (0 < n → n ≤ c ∧ ∃ b off, A = some ⟨b, off, none⟩ ∧ b < B ∧ ∀ i, i < L.length → w.cell? ⟨b, off + i, none⟩ = some (.int .u8 (L[i]?.getD 0)))
theorem Left.but {w w' : World} {B g : Nat} {A : Option Addr} {n c : Nat} {L : List Int} (h : Left w B A n c L) (hb : But g w w') (hB : B ≤ g) (hw : B ≤ w.heap.size) : Left w' B A n c L :=
  ⟨h.1, h.2.1, fun hn => by
    obtain ⟨hc, b, off, e, hl, hx⟩ := h.2.2 hn
    exact ⟨hc, b, off, e, hl, fun i hi => (hb.cell (by omega) (by omega)).trans (hx i hi)⟩⟩
theorem Left.below {w w' : World} {B : Nat} {A : Option Addr} {n c : Nat} {L : List Int} (h : Left w B A n c L) (hb : Below w.heap.size w w') (hw : B ≤ w.heap.size) : Left w' B A n c L :=
  ⟨h.1, h.2.1, fun hn => by
    obtain ⟨hc, b, off, e, hl, hx⟩ := h.2.2 hn
    exact ⟨hc, b, off, e, hl, fun i hi => (hb.cell (p := ⟨b, off + i, none⟩) (by show b < _; omega)).trans (hx i hi)⟩⟩
theorem Left.adv {w : World} {B b off n c : Nat} {L : List Int} (hlen : L.length = n) (hL : BytesL L) (hn : 8 ≤ n) (hc : n ≤ c) (hb : b < B) (hx : ∀ i, i < L.length → w.cell? ⟨b, off + i, none⟩ = some (.int .u8 (L[i]?.getD 0))) :
    Left w B (Go.Proofs.YthibideapapcbaaDoor.adv b off c) (n - 8) (c - 8) (L.drop 8) := by
  refine ⟨by rw [List.length_drop, hlen], hL.drop 8, fun h0 => ⟨by omega, b, off + 8, ?_, hb, fun i hi => ?_⟩⟩
  · unfold Go.Proofs.YthibideapapcbaaDoor.adv; rw [if_neg (by omega)]
  · rw [List.length_drop] at hi
    rw [List.getElem?_drop, show off + 8 + i = off + (8 + i) by omega]
    exact hx (8 + i) (by omega)
theorem Left.adv2 {w : World} {B b off n c : Nat} {L : List Int} (hlen : L.length = n) (hL : BytesL L) (hn : 16 ≤ n) (hc : n ≤ c) (hb : b < B) (hx : ∀ i, i < L.length → w.cell? ⟨b, off + i, none⟩ = some (.int .u8 (L[i]?.getD 0))) :
    Left w B (Go.Proofs.YthibideapapcbaaDoor.adv b (off + 8) (c - 8)) (n - 8 - 8) (c - 8 - 8) (L.drop (8 * 2)) := by
  have h := Left.adv (w := w) (B := B) (b := b) (off := off + 8) (n := n - 8) (c := c - 8) (L := L.drop 8) (by rw [List.length_drop, hlen]) (hL.drop 8) (by omega) (by omega) hb (fun i hi => by
    rw [List.length_drop] at hi
    rw [List.getElem?_drop, show off + 8 + i = off + (8 + i) by omega]
    exact hx (8 + i) (by omega))
  rw [List.drop_drop] at h
  exact h
theorem insEnd_zero {E : Int} {v : Value} (h : E = 0) : insEnd E v = .returned v := if_pos h
theorem insEnd_pos {E : Int} {v : Value} (h : E ≠ 0) : insEnd E v = .panicked [{ v := .iface 26 (.int .i64 E), recovered := false }] := if_neg h

theorem ins_any (g B : Nat) (A : Option Addr) (n c : Nat) (L : List Int) (un bg : Int) (w : World) (hb : Blk w g 69 (rd3 A n c un bg)) (hB : B ≤ g) (hn : 0 < n) (hl : Left w B A n c L) (hu : 0 ≤ un ∧ un < 1000000) (ht : Tabs w) (hg4 : 4 ≤ g) :
    Calls Tryd.prog 45 #[.pointer (some ⟨g, 0, none⟩)] w fun e w' => e = insEnd (insD L).1 (.agg (insD L).2.1.arr) ∧ But g w w' ∧
      ∃ A' n' c' un', Blk w' g 69 (rd3 A' n' c' un' bg) ∧ ((insD L).1 = 0 → un' = un + (insD L).2.2 ∧ Left w' B A' n' c' (L.drop (8 * (insD L).2.2))) := by
  obtain ⟨hlen, hL, hx⟩ := hl
  obtain ⟨hc, b, off, rfl, hbB, hcell⟩ := hx hn
  have hgl := hb.lt
  have hne : b ≠ g := by omega
  unfold insD
  by_cases c1 : L.length < 8
  · rw [if_pos c1]
    refine (ins_short g _ n c un bg w hb (by omega)).mono fun e w' ⟨h1, h2, h3⟩ => ⟨?_, h2, _, _, _, _, h3, fun h => absurd h (by decide)⟩
    rw [h1]; rfl
  rw [if_neg c1]
  by_cases c2 : (opL (unitA L).oc).op = 0
  · rw [if_pos c2]
    refine (ins_zero g b off n c L un bg w hb (by omega) hc (by omega) hne hlen hL hcell ⟨hu.1, by omega⟩ ht hg4 c2).mono fun e w' ⟨h1, h2, h3⟩ => ⟨?_, h2, _, _, _, _, h3, fun h => absurd h (by decide)⟩
    rw [h1]; rfl
  rw [if_neg c2]
  by_cases c3 : (opL (unitA L).oc).op = 20
  · rw [if_pos c3]
    by_cases c4 : L.length < 16
    · rw [if_pos c4]
      refine (ins_two_short g b off n c L un bg w hb (by omega) hc (by omega) hne hlen hL hcell ⟨hu.1, by omega⟩ ht hg4 c3 (by omega)).mono fun e w' ⟨h1, h2, h3⟩ => ⟨?_, h2, _, _, _, _, h3, fun h => absurd h (by decide)⟩
      rw [h1]; rfl
    rw [if_neg c4]
    refine (ins_two g b off n c L un bg w hb (by omega) hc (by omega) hne hlen hL hcell hu ht hg4 c3 (by omega)).mono fun e w' ⟨h1, h2, h3⟩ => ⟨h1, h2, _, _, _, _, h3, fun _ => ⟨?_, ?_⟩⟩
    · show un + 1 + 1 = un + ((2 : Nat) : Int); omega
    · have hcell' : ∀ i, i < L.length → w'.cell? ⟨b, off + i, none⟩ = some (.int .u8 (L[i]?.getD 0)) := fun i hi => (h2.cell (by omega) hne).trans (hcell i hi)
      exact Left.adv2 hlen hL (by omega) hc hbB hcell'
  · rw [if_neg c3]
    refine (ins_one g b off n c L un bg w hb (by omega) hc (by omega) hne hlen hL hcell ⟨hu.1, by omega⟩ ht hg4 c2 c3).mono fun e w' ⟨h1, h2, h3⟩ => ⟨h1, h2, _, _, _, _, h3, fun _ => ⟨?_, ?_⟩⟩
    · show un + 1 = un + ((1 : Nat) : Int); omega
    · exact Left.adv hlen hL (by omega) hc hbB (fun i hi => (h2.cell (by omega) hne).trans (hcell i hi))
end Go.Proofs.YthibideapapcbaaDoor
