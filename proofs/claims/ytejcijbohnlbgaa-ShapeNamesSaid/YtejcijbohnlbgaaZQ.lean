/- Worlds that hold zones; contracts in the form that the laws' walks take. -/
import Derived.Test.YtejcijbohnlbgaaZO
import Derived.Test.YtejcijbohnlbgaaZP
namespace Go.Proofs.Ytejcijbohnlbgaa
open Go.ChangeShapes Go.WideShapes Go.ChangeAt Go.RowKit
open Zon
set_option linter.unusedVariables false
set_option maxRecDepth 100000
/-- what was there is as it was; these zones are there -/
def St (w W : World) (l : List (Nat × Zn)) : Prop := Below w.heap.size w W ∧ ∀ x ∈ l, ZoneAt W x.1 x.2
theorem St.start (w : World) : St w w [] := ⟨Below.refl _ _, fun _ h => by cases h⟩
theorem St.up {w W W' : World} {l : List (Nat × Zn)} (h : St w W l) (hb : Below W.heap.size W W') : St w W' l :=
  ⟨h.1.trans (hb.mono h.1.size), fun x hx => (h.2 x hx).up hb⟩
theorem St.add {w W : World} {l : List (Nat × Zn)} {g : Nat} {z : Zn} (h : St w W l) (hz : ZoneAt W g z) : St w W ((g, z) :: l) :=
  ⟨h.1, fun x hx => by rcases List.mem_cons.mp hx with rfl | hx; exact hz; exact h.2 x hx⟩
theorem Quiet_.val {v : Value} {w w' : World} {e : Ending} (h : Quiet_ v w e w') : Val v w e w' := by
  obtain ⟨h1, n, rfl⟩ := h
  exact ⟨h1, below_drewN' (Below.refl _ _) n⟩
theorem New_law (w : World) : Calls Try.prog 8 #[] w (Made w (some topT)) := (new_any w).mono fun _ _ ⟨g, h1, h2, h3, h4⟩ => ⟨g, h1, h2, zoneAt_new h3, h4⟩
/-- a list that a call made, of a type of bounds -/
def Listed (w : World) (L : List Con) (e : Ending) (w' : World) : Prop := ∃ A n c, e = .returned (.slice A n c) ∧ L.length = n ∧ n ≤ c ∧ ConsAt w' A L ∧ Below w.heap.size w w'
theorem Owned.listed {t : TypeId} {w w' : World} {L : List Con} {e : Ending} (h : Owned t w L e w') : Listed w L e w' := by
  obtain ⟨v, rfl, hO, hB⟩ := h
  obtain ⟨A, c, rfl, hc, hA, _⟩ := hO.consAt
  exact ⟨A, _, c, rfl, rfl, hc, hA, hB⟩
theorem cons_law (w : World) (A : Option Addr) (n c : Nat) (L : List Con) (hL : L.length = n) (hn : n ≤ 7000000000000) (h : ConsAt w A L) :
    Calls Try.prog 39 #[.slice A n c] w (Listed w L) := (cons_any w A n c L hL hn h).mono fun _ _ h => h.listed
theorem Cons_law (w : World) (g : Nat) (z : Zn) (hz : ZoneAt w g z) :
    Calls Try.prog 22 #[.pointer (some ⟨g, 0, none⟩)] w (Listed w (consZ z)) := (Cons_any w g z hz).mono fun _ _ h => h.listed
theorem With_law (w : World) (g : Nat) (z : Zn) (A : Option Addr) (n c : Nat) (L : List Con) (hz : ZoneAt w g z) (hL : L.length = n) (hn : n ≤ 7000000000000) (h : ConsAt w A L) (h0 : wrongL L = 0) :
    Calls Try.prog 9 #[.pointer (some ⟨g, 0, none⟩), .slice A n c] w fun e w' => ∃ g', e = .returned (.tuple #[.pointer (some ⟨g', 0, none⟩), .int .i64 0]) ∧ ZoneAt w' g' (withZ z L) ∧ Below w.heap.size w w' :=
  (With_any w g z A n c L hz hL (by omega) h).mono fun _ _ h => by obtain ⟨g, h1, h2, h3, h4⟩ := h.yes h0; exact ⟨g, h1, h3, h4⟩
theorem Close_law (w : World) (A : Option Addr) (n c : Nat) (L : List Con) (hL : L.length = n) (hn : n ≤ 7000000000000) (h : ConsAt w A L) (h0 : wrongL L = 0) :
    Calls Try.prog 10 #[.slice A n c] w fun e w' => ∃ g', e = .returned (.tuple #[.pointer (some ⟨g', 0, none⟩), .int .i64 0]) ∧ ZoneAt w' g' (closeZ L) ∧ Below w.heap.size w w' :=
  (Close_any w A n c L hL (by omega) h).mono fun _ _ h => by obtain ⟨g, h1, h2, h3, h4⟩ := h.yes h0; exact ⟨g, h1, h3, h4⟩
/-- the mathematics of ZoneOrdered -/
theorem inZ_refl (z : Zn) : inZ z z := by cases z with | none => trivial | some M => exact fun _ _ _ _ => Int.le_refl _
theorem inZ_anti {z o : Zn} (h : inZ z o) (g : inZ o z) : sameZB z o = true := by
  cases z <;> cases o
  · rfl
  · exact g.elim
  · exact h.elim
  · exact sameTB_true.mpr fun p q hp hq => by have := h p q hp hq; have := g p q hp hq; omega
theorem inZ_join1 (b c : Zn) : inZ b (mergeZ joinT b c) := by
  cases b <;> cases c
  · trivial
  · trivial
  · exact fun _ _ _ _ => Int.le_refl _
  · exact fun p q _ _ => by unfold joinT; omega
theorem inZ_join2 (b c : Zn) : inZ c (mergeZ joinT b c) := by
  cases b <;> cases c
  · trivial
  · exact fun _ _ _ _ => Int.le_refl _
  · trivial
  · exact fun p q _ _ => by unfold joinT; omega
theorem inZ_keep1 (b c : Zn) (hb : OkZ b) : inZ b (mergeZ keepT b c) := by
  cases b <;> cases c
  · trivial
  · trivial
  · exact fun _ _ _ _ => Int.le_refl _
  · rename_i M O
    exact fun p q hp hq => by have := (hb M rfl p q hp hq).rng; unfold keepT; split <;> omega
theorem inZ_keep2 (b c : Zn) (hc : OkZ c) : inZ c (mergeZ keepT b c) := by
  cases b <;> cases c
  · trivial
  · exact fun _ _ _ _ => Int.le_refl _
  · trivial
  · rename_i M O
    exact fun p q hp hq => by have := (hc O rfl p q hp hq).rng; unfold keepT; split <;> omega
theorem inZ_join_keep (b c : Zn) (hb : OkZ b) (hc : OkZ c) : inZ (mergeZ joinT b c) (mergeZ keepT b c) := by
  cases b <;> cases c
  · trivial
  · exact fun _ _ _ _ => Int.le_refl _
  · exact fun _ _ _ _ => Int.le_refl _
  · rename_i M O
    exact fun p q hp hq => by have := (hb M rfl p q hp hq).rng; have := (hc O rfl p q hp hq).rng; unfold joinT keepT; split <;> omega
theorem inZ_join_of {a b c : Zn} (h : inZ b a) (g : inZ c a) : inZ (mergeZ joinT b c) a := by
  cases b <;> cases c <;> cases a
  · trivial
  · trivial
  · exact g
  · exact g
  · exact h
  · exact h
  · exact h
  · exact fun p q hp hq => by have := h p q hp hq; have := g p q hp hq; unfold joinT; omega
theorem same_join {b c : Zn} (h : inZ b c) : sameZB (mergeZ joinT b c) c = true := by
  refine inZ_anti (inZ_join_of h (inZ_refl c)) (inZ_join2 b c)
end Go.Proofs.Ytejcijbohnlbgaa
