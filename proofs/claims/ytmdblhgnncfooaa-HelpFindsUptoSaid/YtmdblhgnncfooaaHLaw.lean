/- A lender, lent once and given back: what the laws that lend want. -/
import Derived.Test.YtmdblhgnncfooaaHG
import Derived.Test.YtmdblhgnncfooaaHelpPartsLaw
import Derived.Test.YtmdblhgnncfooaaHBack
namespace Go.Proofs.Ytmdblhgnncfooaa
open Go.ChangeShapes Go.WideShapes Go.ChangeAt Go.RowKit
open Bits HM
set_option linter.unusedVariables false
set_option linter.unusedSimpArgs false

/-- the lender at block g has lent L in block r, n bytes and m in all -/
def OutH (w0 : World) (g r n m : Nat) (L : List Int) (w : World) : Prop :=
  w0.heap.size ≤ g ∧ w0.heap.size ≤ r ∧ L.length = n ∧ Byt L ∧ n ≤ 1048576 ∧ m ≤ 1099511627776 ∧ Below w0.heap.size w0 w ∧ ∃ D, Lent w g r L D ∧ L.length + (L.length + 70) + D.length = m
theorem lent_keep {w w' : World} {g r g' : Nat} {r' : Option Nat} {L D : List Int} (h : Lent w g r L D) (hk : Keep2 g' r' w w') (h1 : g ≠ g') (h2 : some g ≠ r') (h3 : r ≠ g') (h4 : some r ≠ r') : Lent w' g r L D :=
  ⟨h.1, (hk r h.2.1.lt h3 h4).trans h.2.1, (hk g h.2.2.lt h1 h2).trans h.2.2⟩
theorem lent_below {w w' : World} {g r : Nat} {L D : List Int} (h : Lent w g r L D) (hb : Below w.heap.size w w') : Lent w' g r L D :=
  ⟨h.1, h.2.1.below hb h.2.1.lt, h.2.2.below hb h.2.2.lt⟩
theorem OutH.below {w0 w w' : World} {g r n m : Nat} {L : List Int} (h : OutH w0 g r n m L w) (hb : Below w.heap.size w w') : OutH w0 g r n m L w' := by
  obtain ⟨h1, h2, h3, h4, h5, h6, h7, D, h8, h9⟩ := h
  exact ⟨h1, h2, h3, h4, h5, h6, h7.trans (hb.mono h7.size), D, lent_below h8 hb, h9⟩
theorem OutH.bytes {w0 w : World} {g r n m : Nat} {L : List Int} (h : OutH w0 g r n m L w) : BytesAt w (some ⟨r, 0, none⟩) L := by
  obtain ⟨h1, h2, h3, h4, h5, h6, h7, D, h8, h9⟩ := h
  exact h8.2.1.begin_
theorem OutH.big {w0 w : World} {g r n m : Nat} {L : List Int} (h : OutH w0 g r n m L w) : n ≤ m ∧ m ≤ maxLen := by
  obtain ⟨h1, h2, h3, h4, h5, h6, h7, D, h8, h9⟩ := h
  exact ⟨by omega, by unfold maxLen; omega⟩
/-- bytes in a block of the law's own -/
def BackH (w0 : World) (r n m : Nat) (T : List Int) (w : World) : Prop := w0.heap.size ≤ r ∧ T.length = n ∧ Byt T ∧ n ≤ m ∧ m ≤ maxLen ∧ BytesAt w (some ⟨r, 0, none⟩) T ∧ r < w.heap.size

/-- Lend, of a lender that is new -/
theorem lend_new {w0 w : World} {g : Nat} (hg : Blk w g 40 #[.slice none 0 0]) (hw : Below w0.heap.size w0 w) (hg0 : w0.heap.size ≤ g) (A : Option Addr) (n c : Nat) (L : List Int) (hL : L.length = n) (hY : Byt L) (hn : n ≤ 1048576) (hat : BytesAt w0 A L) :
    Calls Try.prog 22 #[.pointer (some ⟨g, 0, none⟩), .slice A n c] w fun e w' => ∃ r m, e = .returned (.slice (some ⟨r, 0, none⟩) n m) ∧ OutH w0 g r n m L w' ∧ r = w.heap.size ∧ Keep2 g (some r) w w' := by
  refine (lend_any w g none [] (.inl ⟨rfl, rfl, hg⟩) A n c L hL hn (by simp) (hat.below hw) (fun hp b off e => ?_) w0.heap.size hg0 (fun r h => by cases h)).mono fun e w' ⟨r, D, he, hl, hor, hmm, hk, hb⟩ => ?_
  · obtain ⟨b', off', e', hlt, _⟩ := hat (by omega)
    rw [e] at e'
    injection e' with e'
    injection e' with e1 e2
    omega
  · have hr : r = w.heap.size := by
      rcases hor with h | h
      · cases h
      · exact h
    have hsz := hw.size
    exact ⟨r, _, by rw [← hL]; exact he, ⟨hg0, by omega, hL, hY, hn, hmm, hw.trans hb, D, hl, rfl⟩, hr, hk⟩
theorem back_new {w0 w : World} {g r n m : Nat} {L : List Int} (h : OutH w0 g r n m L w) (A : Option Addr) (c : Nat) (hat : BytesAt w0 A L) :
    Calls Try.prog 25 #[.pointer (some ⟨g, 0, none⟩), .slice A n c] w fun e w' => e = .returned (.bool true) ∧ Below w0.heap.size w0 w' ∧ Keep2 g (some r) w w' ∧ w.heap.size ≤ w'.heap.size ∧ ∃ T, BackH w0 r n m T w' := by
  obtain ⟨h1, h2, h3, h4, h5, h6, h7, D, h8, h9⟩ := h
  refine (back_any w g r m L D h8 A n c h3 h5 h9 h6 (hat.below h7) h4 w0.heap.size h2).mono fun e w' ⟨R', hRl, hRB, hblk, he, hroom, hk, hb⟩ => ⟨he, h7.trans hb, hk, hb.size, R'.take n, h2, by rw [List.length_take]; omega, hRB, by omega, by unfold maxLen; omega, ?_, hblk.lt⟩
  exact fun hp => ⟨r, 0, rfl, hblk.lt, fun i hi => by
    rw [List.length_take] at hi
    rw [Nat.zero_add, hblk.cell i (by omega), List.getElem?_take, if_pos (by omega)]⟩
theorem BackH.below {w0 w w' : World} {r n m : Nat} {T : List Int} (h : BackH w0 r n m T w) (hb : Below w.heap.size w w') : BackH w0 r n m T w' :=
  ⟨h.1, h.2.1, h.2.2.1, h.2.2.2.1, h.2.2.2.2.1, h.2.2.2.2.2.1.below hb, by have := hb.size; have := h.2.2.2.2.2.2; omega⟩
end Go.Proofs.Ytmdblhgnncfooaa
