/- A list of instructions that is lent: in memory of the law's own, two marks behind it; a field of one of its instructions is put anew. -/
import Derived.Test.YtaglclmfjopnlaaDoorRefU
namespace Go.Proofs.YtaglclmfjopnlaaDoor
open Go.ChangeShapes Go.WideShapes Go.ChangeAt Go.RowKit
open Cod Bits
set_option linter.unusedVariables false
set_option linter.unusedSimpArgs false

structure LentI (w0 : World) (g n c : Nat) (L : List Ins) (w : World) : Prop where
  own : OwnI w w0.heap.size (.slice (some ⟨g, 0, none⟩) (n + 2) c) (L ++ [markI, markI])
  len : L.length = n
  below : Below w0.heap.size w0 w
  mark : MarkAt w
  old : 0 < w0.heap.size
theorem LentI.up {w0 : World} {g n c : Nat} {L : List Ins} {w w' : World} (h : LentI w0 g n c L w) (hb : Below w.heap.size w w') : LentI w0 g n c L w' :=
  ⟨own_keep h.own hb, h.len, h.below.trans (hb.mono h.below.size), h.mark.below hb, h.old⟩
theorem CodeAt.front {w : World} {A : Option Addr} {L M : List Ins} (h : CodeAt w A (L ++ M)) : CodeAt w A L := fun hp => by
  obtain ⟨b, off, e, hl, hc⟩ := h (by rw [List.length_append]; omega)
  exact ⟨b, off, e, hl, fun j i hi => hc j i (by rw [List.getElem?_append_left]; exact hi; exact (List.getElem?_eq_some_iff.1 hi).1)⟩
theorem LentI.all {w0 : World} {g n c : Nat} {L : List Ins} {w : World} (h : LentI w0 g n c L w) : CodeAt w (some ⟨g, 0, none⟩) (L ++ [markI, markI]) ∧ n + 2 ≤ c ∧ w0.heap.size ≤ g ∧ g < w.heap.size := by
  have hlen : (L ++ [markI, markI]).length = n + 2 := by simp [h.len]
  obtain ⟨A, c', e, h2⟩ := h.own.codeAt
  injection e with e1 e2 e3
  subst e1 e3
  refine ⟨h2, ?_⟩
  rcases h.own.2 with ⟨h0, _⟩ | ⟨g', cap, cur, hv, hg, hh, hnc, _⟩
  · cases h0
  · injection hv with e1 e2 e3
    injection e1 with e1
    injection e1 with e1
    subst e1 e3
    refine ⟨by rw [hlen] at hnc; exact hnc, hg, ?_⟩
    rcases Nat.lt_or_ge g w.heap.size with h1 | h1
    · exact h1
    · rw [Array.getElem?_eq_none h1] at hh; cases hh
theorem LentI.codeAt {w0 : World} {g n c : Nat} {L : List Ins} {w : World} (h : LentI w0 g n c L w) : CodeAt w (some ⟨g, 0, none⟩) L := h.all.1.front
theorem LentI.ins {w0 : World} {g n c : Nat} {L : List Ins} {w : World} (h : LentI w0 g n c L w) {j : Nat} {i : Ins} (hi : L[j]? = some i) : InsIs w g (j * 8) i := by
  obtain ⟨b, off, e, hl, hc⟩ := h.codeAt (by have := (List.getElem?_eq_some_iff.1 hi).1; omega)
  injection e with e; injection e with e1 e2; subst e1 e2
  have := hc j i hi
  rwa [Nat.zero_add] at this
theorem flat_set (M : List Ins) : ∀ (j : Nat) (i i' : Ins) (k : Nat) (u : Value), M[j]? = some i → k < 8 → i'.cells = i.cells.set k u → (M.flatMap Ins.cells).set (j * 8 + k) u = (M.set j i').flatMap Ins.cells := by
  induction M with
  | nil => intro j i i' k u hi; simp at hi
  | cons a t ih =>
    intro j i i' k u hi hk hc
    have hl : a.cells.length = 8 := rfl
    cases j with
    | zero =>
      have e : a = i := by simpa using hi
      subst e
      rw [List.set_cons_zero, List.flatMap_cons, List.flatMap_cons, Nat.zero_mul, Nat.zero_add, List.set_append_left _ _ (by omega), hc]
    | succ j =>
      have h2 : t[j]? = some i := by simpa using hi
      rw [List.set_cons_succ, List.flatMap_cons, List.flatMap_cons, List.set_append_right _ _ (by omega), hl, show (j + 1) * 8 + k - 8 = j * 8 + k by omega, ih j i i' k u h2 hk hc]
theorem LentI.frozen {w0 : World} {g n c : Nat} {L : List Ins} {w : World} (h : LentI w0 g n c L w) (p : Nat) : w.frozen? ⟨g, p, none⟩ = false := by
  have hlen : (L ++ [markI, markI]).length = n + 2 := by simp [h.len]
  have h2 := h.own
  unfold OwnI at h2
  rw [hlen] at h2
  exact World.ownsRow.frozenAt h2 p
theorem LentI.put {w0 : World} {g n c : Nat} {L : List Ins} {w : World} (h : LentI w0 g n c L w) {j : Nat} {i : Ins} (i' : Ins) (k : Nat) (u : Value) (hi : L[j]? = some i) (hk : k < 8) (hc : i'.cells = i.cells.set k u) (p : Nat) (hp : p = j * 8 + k) :
    LentI w0 g n c (L.set j i') (w.setCell ⟨g, p, none⟩ u) ∧ (∀ b, b ≠ g → (w.setCell ⟨g, p, none⟩ u).heap[b]? = w.heap[b]?) := by
  subst hp
  have hlen : (L ++ [markI, markI]).length = n + 2 := by simp [h.len]
  obtain ⟨_, _, hg, hlt⟩ := h.all
  have h2 := h.own
  unfold OwnI at h2
  rw [hlen] at h2
  have h3 := (World.ownsRow.stored h2 (j * 8 + k) u).1
  have hj := (List.getElem?_eq_some_iff.1 hi).1
  have hi2 : (L ++ [markI, markI])[j]? = some i := by rw [List.getElem?_append_left hj]; exact hi
  rw [flat_set _ j i i' k u hi2 hk hc, List.set_append_left _ _ hj] at h3
  have hk2 : ∀ b, b ≠ g → (w.setCell ⟨g, j * 8 + k, none⟩ u).heap[b]? = w.heap[b]? := fun b hb => Below.heap_setCell w _ _ b hb
  refine ⟨⟨?_, by rw [List.length_set]; exact h.len, h.below.setCell hg _, ?_, h.old⟩, hk2⟩
  · unfold OwnI
    rw [List.length_append, List.length_set, h.len]
    exact h3
  · have hb : Below g w (w.setCell ⟨g, j * 8 + k, none⟩ u) := (Below.refl g w).setCell (Nat.le_refl _) u
    exact ⟨Nat.lt_of_lt_of_le h.mark.1 hb.size, h.mark.2.below hb (Nat.lt_of_lt_of_le h.old hg)⟩
theorem IntsAt.but {w w' : World} {A : Option Addr} {L : List Int} {g : Nat} (h : IntsAt w A L) (hs : w.heap.size ≤ w'.heap.size) (hk : ∀ b, b ≠ g → w'.heap[b]? = w.heap[b]?) (hA : ∀ b off, A = some ⟨b, off, none⟩ → b ≠ g) : IntsAt w' A L := fun hp => by
  obtain ⟨b, off, rfl, hlt, hc⟩ := h hp
  exact ⟨b, off, rfl, by omega, fun i hi => (World.cell?_of_block (w := w) (a := ⟨b, off + i, none⟩) (hk b (hA b off rfl))).trans (hc i hi)⟩
theorem lend_lent (w : World) (A : Option Addr) (n c : Nat) (L : List Ins) (hL : L.length = n) (hn : n ≤ 2513169434917) (h : CodeAt w A L) (hm : MarkAt w) (w0 : World) (hb : Below w0.heap.size w0 w) (ho : 0 < w0.heap.size) :
    Calls Tryd.prog 15 #[.slice A n c] w fun e w' => ∃ g c', e = .returned (.slice (some ⟨g, 0, none⟩) n c') ∧ LentI w0 g n c' L w' ∧ w.heap.size ≤ g ∧ Below w.heap.size w w' :=
  (lend_any w A n c L hL hn h hm).mono fun e w' ⟨g, c', he, ho', hb'⟩ => by
    have hg : w.heap.size ≤ g := by
      rcases ho'.2 with ⟨h0, _⟩ | ⟨g', cap, cur, hv, hg, _⟩
      · cases h0
      · injection hv with e1 e2 e3
        injection e1 with e1
        injection e1 with e1
        subst e1
        exact hg
    refine ⟨g, c', he, ⟨?_, hL, hb.trans (hb'.mono hb.size), hm.below hb', ho⟩, hg, hb'⟩
    exact ownI_keep ho' hb.size fun b _ _ => rfl
end Go.Proofs.YtaglclmfjopnlaaDoor
