/- Package pack: bytes that are lent beside other things: what stays. -/
import Derived.Test.YtlodoinmippebaaDoorPkPf
import Derived.Test.YtlodoinmippebaaDoorLnA
namespace Go.Proofs.YtlodoinmippebaaDoor.Pak
open Go.ChangeShapes Go.WideShapes Go.ChangeAt Go.RowKit
open Ln
set_option linter.unusedVariables false
set_option linter.unusedSimpArgs false
set_option maxRecDepth 100000
theorem OwnPg.touch {w w' : World} {base g : Nat} {vd vt vc : Value} {k : Pg} {t : TypeId} {cs : Array Value} (h : OwnPg w base vd vt vc k) (ht : Touch g w w') (hb : Blk w g t cs) (h1 : 5 ≠ t) (h2 : 69 ≠ t) (h3 : 71 ≠ t) : OwnPg w' base vd vt vc k :=
  ⟨ownB_touch h.data ht hb h1, ownT_touch h.tabs ht hb h2, own_ne h.code ht hb h3⟩
theorem OwnPg.up {w w' : World} {base : Nat} {vd vt vc : Value} {k : Pg} (h : OwnPg w base vd vt vc k) (hb : Below w.heap.size w w') : OwnPg w' base vd vt vc k := ⟨ownB_up h.data hb, h.tabs.up hb, h.code.up hb⟩
theorem OwnPg.at_ {w : World} {base : Nat} {vd vt vc : Value} {k : Pg} (h : OwnPg w base vd vt vc k) : PgAt w vd vt vc k := pgAt_of h.data h.tabs h.code
theorem set_touch {w : World} {g k : Nat} {v : Value} {t : TypeId} {n : Nat} {f : Nat → Value} (h : FB w g t n f) : Touch g w (w.setCell ⟨g, k, none⟩ v) := Touch.set_ w k v
theorem Room.up {w w' : World} {g : Nat} {rb : Option Nat} {R : List Int} (h : Room w g rb R) (hb : Below w.heap.size w w') : Room w' g rb R := by
  rcases h with ⟨h1, h2, h3⟩ | ⟨r, h1, h2, h3, h4⟩
  · exact .inl ⟨h1, h2, h3.below hb h3.lt⟩
  · exact .inr ⟨r, h1, h2, h3.below hb h3.lt, h4.below hb h4.lt⟩
theorem Lent.up {w w' : World} {g r : Nat} {L D : List Int} (h : Lent w g r L D) (hb : Below w.heap.size w w') : Lent w' g r L D :=
  ⟨h.1, h.2.1.below hb h.2.1.lt, h.2.2.below hb h.2.2.lt⟩
theorem Room.blk {w : World} {g : Nat} {rb : Option Nat} {R : List Int} (h : Room w g rb R) : ∃ cs, Blk w g 28 cs := by
  rcases h with ⟨-, -, h3⟩ | ⟨r, -, -, -, h4⟩
  · exact ⟨_, h3⟩
  · exact ⟨_, h4⟩
theorem blk_ne {w : World} {a b : Nat} {t u : TypeId} {cs ds : Array Value} (h : Blk w a t cs) (k : Blk w b u ds) (hn : t ≠ u) : a ≠ b := fun e => by
  subst e
  have hq : some (Obj.cells cs t (0, 0)) = some (Obj.cells ds u (0, 0)) := h.symm.trans k
  injection hq with hq
  injection hq with _ hq
  exact hn hq
/-- where a lender may write: its own block and a room that is its old one or new -/
structure LendK (w : World) (g r : Nat) (rb : Option Nat) (w' : World) : Prop where
  keep : Keep2 g (some r) w w'
  room : some r = rb ∨ r = w.heap.size
  old : ∀ x, rb = some x → ∃ cs, Blk w x 5 cs
  own : ∃ cs, Blk w g 28 cs
theorem room_old {w : World} {g : Nat} {rb : Option Nat} {R : List Int} (h : Room w g rb R) : ∀ x, rb = some x → ∃ cs, Blk w x 5 cs := fun x hx => by
  rcases h with ⟨h1, -, -⟩ | ⟨r, h1, -, h3, -⟩
  · rw [h1] at hx; cases hx
  · rw [h1] at hx; injection hx with hx; subst hx; exact ⟨_, h3⟩
theorem LendK.blk {w w' : World} {g r b : Nat} {rb : Option Nat} {t : TypeId} {cs : Array Value} (h : LendK w g r rb w') (hb : Blk w b t cs) (h1 : t ≠ 5) (h2 : b ≠ g) : Blk w' b t cs := by
  refine (h.keep b hb.lt h2 fun e => ?_).trans hb
  injection e with e
  subst e
  rcases h.room with h3 | h3
  · obtain ⟨ds, h4⟩ := h.old b h3.symm
    exact blk_ne hb h4 h1 rfl
  · have := hb.lt; omega
theorem LendK.bytes {w w' : World} {g r b : Nat} {rb : Option Nat} {L : List Int} (h : LendK w g r rb w') (hb : ByteBlk w b L) (h1 : rb ≠ some b) : ByteBlk w' b L := by
  obtain ⟨cs, h5⟩ := h.own
  refine (h.keep b hb.lt (blk_ne hb h5 (by decide)) fun e => ?_).trans hb
  injection e with e
  subst e
  rcases h.room with h3 | h3
  · exact h1 h3.symm
  · have := hb.lt; omega
theorem LendK.otherRoom {w w' : World} {g r g2 : Nat} {rb rb2 : Option Nat} {R : List Int} (h : LendK w g r rb w') (h2 : Room w g2 rb2 R) (hg : g2 ≠ g) (hr : ∀ x, rb2 = some x → rb ≠ some x) : Room w' g2 rb2 R := by
  rcases h2 with ⟨h1, h2, h3⟩ | ⟨x, h1, h2, h3, h4⟩
  · exact .inl ⟨h1, h2, h.blk h3 (by decide) hg⟩
  · exact .inr ⟨x, h1, h2, h.bytes h3 (hr x h1), h.blk h4 (by decide) hg⟩
theorem LendK.otherLent {w w' : World} {g r g2 r2 : Nat} {rb : Option Nat} {L D : List Int} (h : LendK w g r rb w') (h2 : Lent w g2 r2 L D) (hg : g2 ≠ g) (hr : rb ≠ some r2) : Lent w' g2 r2 L D :=
  ⟨h2.1, h.bytes h2.2.1 hr, h.blk h2.2.2 (by decide) hg⟩
theorem LendK.rows {w w' : World} {g r base n s : Nat} {rb : Option Nat} {e : TypeId} {v : Value} {xs : List Value} (h : LendK w g r rb w') (h2 : w.ownsRow base e s v n xs) (h1 : e ≠ 5) (h3 : e ≠ 28) : w'.ownsRow base e s v n xs := by
  refine ⟨h2.1, ?_⟩
  rcases h2.2 with h4 | ⟨b, cap, cur, hv, hg, hh, h4⟩
  · exact .inl h4
  · obtain ⟨cs, h5⟩ := h.own
    exact .inr ⟨b, cap, cur, hv, hg, h.blk (cs := cur) hh h1 (blk_ne hh h5 h3), h4⟩
/-- what is owned above both stays -/
theorem keep_rows {w w' : World} {g r base n s : Nat} {e : TypeId} {v : Value} {xs : List Value} (hk : Keep2 g (some r) w w') (h2 : w.ownsRow base e s v n xs) (h1 : g < base) (h3 : r < base) : w'.ownsRow base e s v n xs := by
  refine ⟨h2.1, ?_⟩
  rcases h2.2 with h4 | ⟨b, cap, cur, hv, hg, hh, h4⟩
  · exact .inl h4
  · have hb : b < w.heap.size := by
      rcases Nat.lt_or_ge b w.heap.size with h5 | h5
      · exact h5
      · rw [Array.getElem?_eq_none h5] at hh; cases hh
    exact .inr ⟨b, cap, cur, hv, hg, (hk b hb (by omega) (fun e => by injection e with e; omega)).trans hh, h4⟩
theorem keep_blk {w w' : World} {g r b : Nat} {t : TypeId} {cs : Array Value} (hk : Keep2 g (some r) w w') (hb : Blk w b t cs) (h1 : b ≠ g) (h2 : b ≠ r) : Blk w' b t cs :=
  (hk b hb.lt h1 (fun e => h2 (by injection e))).trans hb
theorem Lent.sl {w : World} {g r n : Nat} {L D : List Int} (h : Lent w g r L D) (hn : L.length = n) : Sl w (some ⟨r, 0, none⟩) n (L.length + (L.length + 70) + D.length) L :=
  ⟨Lib.hid hn, by omega, h.2.1.begin_, fun b off e => by injection e with e; injection e with e1; subst e1; exact h.2.1.lt⟩
theorem Lent.room {w : World} {g r : Nat} {L D : List Int} (h : Lent w g r L D) : ∃ cs, Blk w g 28 cs := ⟨_, h.2.2⟩
end Go.Proofs.YtlodoinmippebaaDoor.Pak
