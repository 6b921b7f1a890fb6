/- What the walks of package code's laws share. -/
import Derived.Test.YtlodoinmippebaaDoorCodeEE
import Derived.Test.YtlodoinmippebaaDoorCodeL
namespace Go.Proofs.YtlodoinmippebaaDoor
open Go.ChangeShapes Go.WideShapes Go.ChangeAt Go.RowKit
open Cod Bits
set_option linter.unusedVariables false

theorem Left.keep' {w : World} {B B' : Nat} {A : Option Addr} {n c : Nat} {L : List Int} (h : Left w B A n c L) (hb : B ≤ B') : Left w B' A n c L :=
  ⟨h.1, h.2.1, fun hn => by
    obtain ⟨hc, b, off, e, hl, hx⟩ := h.2.2 hn
    exact ⟨hc, b, off, e, by omega, hx⟩⟩
theorem ownB_left {w : World} {base : Nat} {v : Value} {L : List Int} (h : OwnB w base v L) (hb : BytesL L) : ∃ A c, v = .slice A L.length c ∧ Left w w.heap.size A L.length c L := by
  rcases h.2 with ⟨hv, hn⟩ | ⟨g, cap, cur, hv, hg, hh, hnc, hcm, hcs, hx⟩
  · exact ⟨none, 0, by rw [hv, hn], rfl, hb, fun hp => by omega⟩
  · obtain ⟨A, c, e, hby⟩ := h.form
    rw [hv] at e
    injection e with e1 e2 e3
    subst e1 e3
    refine ⟨_, _, hv, rfl, hb, fun hp => ⟨hnc, ?_⟩⟩
    obtain ⟨b, off, e4, hl, hc⟩ := hby hp
    exact ⟨b, off, e4, hl, hc⟩
theorem unitsL_length (L : List Ins) : (unitsL L).length = L.length + 1 := by simp [unitsL]
theorem unitsL_last (L : List Ins) : (unitsL L)[L.length]?.getD 0 = unitsN L := by
  rw [List.getElem?_eq_getElem (by rw [unitsL_length]; omega)]
  simp [unitsL, uAt_end]
theorem Left.up {w w' : World} {A : Option Addr} {n c : Nat} {L : List Int} (h : Left w w.heap.size A n c L) (hb : Below w.heap.size w w') : Left w' w'.heap.size A n c L :=
  (h.below hb (Nat.le_refl _)).keep' hb.size
theorem Left.bytes {w : World} {A : Option Addr} {n c : Nat} {L : List Int} (h : Left w w.heap.size A n c L) : BytesAt w A L := fun hq => by
  obtain ⟨hc, b, off, e, hlt, hx⟩ := h.2.2 (by rw [← h.1]; exact hq)
  exact ⟨b, off, e, hlt, hx⟩
theorem Left.take {w : World} {B : Nat} {A : Option Addr} {n c : Nat} {L : List Int} (h : Left w B A n c L) (k : Nat) (hk : k ≤ n) : Left w B A k c (L.take k) :=
  ⟨by rw [List.length_take, h.1]; omega, fun x hx => h.2.1 x (List.mem_of_mem_take hx), fun hp => by
    obtain ⟨hc, b, off, e, hl, hx⟩ := h.2.2 (by omega)
    exact ⟨by omega, b, off, e, hl, fun i hi => by
      rw [List.length_take] at hi
      rw [hx i (by omega), List.getElem?_take, if_pos (by omega)]⟩⟩
theorem Left.drop {w : World} {B b off : Nat} {n c : Nat} {L : List Int} (h : Left w B (some ⟨b, off, none⟩) n c L) (k : Nat) (hk : k < n) : Left w B (some ⟨b, off + k, none⟩) (n - k) (c - k) (L.drop k) :=
  ⟨by rw [List.length_drop, h.1], h.2.1.drop k, fun hp => by
    obtain ⟨hc, b', off', e, hl, hx⟩ := h.2.2 (by omega)
    injection e with e; injection e with e1 e2; subst e1 e2
    exact ⟨by omega, b, off + k, rfl, hl, fun i hi => by
      rw [List.length_drop] at hi
      rw [Nat.add_assoc, hx (k + i) (by omega), List.getElem?_drop]⟩⟩
end Go.Proofs.YtlodoinmippebaaDoor
