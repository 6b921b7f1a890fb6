/- Package pack: bytes that are lent beside a book: what stays. Laid by wip/tools/mkpklk.py. -/
import Derived.Test.YtkfcfoidaalnlaaPkRd
import Derived.Test.YtkfcfoidaalnlaaLnHBack
import Derived.Test.YtkfcfoidaalnlaaBkG
namespace Go.Proofs.Ytkfcfoidaalnlaa.Pak
open Go.ChangeShapes Go.WideShapes Go.ChangeAt Go.RowKit
open Ln
set_option linter.unusedVariables false
set_option linter.unusedSimpArgs false
set_option maxRecDepth 100000
theorem set_touch {w : World} {g k : Nat} {v : Value} {t : TypeId} {n : Nat} {f : Nat → Value} (h : FB w g t n f) : Touch g w (w.setCell ⟨g, k, none⟩ v) := Touch.set_ w k v
theorem Room.up {w w' : World} {g : Nat} {rb : Option Nat} {R : List Int} (h : Room w g rb R) (hb : Below w.heap.size w w') : Room w' g rb R := by
  rcases h with ⟨h1, h2, h3⟩ | ⟨r, h1, h2, h3, h4⟩
  · exact .inl ⟨h1, h2, h3.below hb h3.lt⟩
  · exact .inr ⟨r, h1, h2, h3.below hb h3.lt, h4.below hb h4.lt⟩
theorem Lent.up {w w' : World} {g r : Nat} {L D : List Int} (h : Lent w g r L D) (hb : Below w.heap.size w w') : Lent w' g r L D :=
  ⟨h.1, h.2.1.below hb h.2.1.lt, h.2.2.below hb h.2.2.lt⟩
theorem Room.blk {w : World} {g : Nat} {rb : Option Nat} {R : List Int} (h : Room w g rb R) : ∃ cs, Blk w g 28 cs := by
  rcases h with ⟨-, -, h3⟩ | ⟨r, -, -, -, h4⟩
  · exact ⟨_, h3⟩
  · exact ⟨_, h4⟩
theorem blk_ne {w : World} {a b : Nat} {t u : TypeId} {cs ds : Array Value} (h : Blk w a t cs) (k : Blk w b u ds) (hn : t ≠ u) : a ≠ b := fun e => by
  subst e
  have hq : some (Obj.cells cs t (0, 0)) = some (Obj.cells ds u (0, 0)) := h.symm.trans k
  injection hq with hq
  injection hq with _ hq
  exact hn hq
/-- where a lender may write: its own block and a room that is its old one or new -/
structure LendK (w : World) (g r : Nat) (rb : Option Nat) (w' : World) : Prop where
  keep : Keep2 g (some r) w w'
  room : some r = rb ∨ r = w.heap.size
  old : ∀ x, rb = some x → ∃ cs, Blk w x 5 cs
  own : ∃ cs, Blk w g 28 cs
theorem room_old {w : World} {g : Nat} {rb : Option Nat} {R : List Int} (h : Room w g rb R) : ∀ x, rb = some x → ∃ cs, Blk w x 5 cs := fun x hx => by
  rcases h with ⟨h1, -, -⟩ | ⟨r, h1, -, h3, -⟩
  · rw [h1] at hx; cases hx
  · rw [h1] at hx; injection hx with hx; subst hx; exact ⟨_, h3⟩
theorem LendK.blk {w w' : World} {g r b : Nat} {rb : Option Nat} {t : TypeId} {cs : Array Value} (h : LendK w g r rb w') (hb : Blk w b t cs) (h1 : t ≠ 5) (h2 : b ≠ g) : Blk w' b t cs := by
  refine (h.keep b hb.lt h2 fun e => ?_).trans hb
  injection e with e
  subst e
  rcases h.room with h3 | h3
  · obtain ⟨ds, h4⟩ := h.old b h3.symm
    exact blk_ne hb h4 h1 rfl
  · have := hb.lt; omega
theorem LendK.bytes {w w' : World} {g r b : Nat} {rb : Option Nat} {L : List Int} (h : LendK w g r rb w') (hb : ByteBlk w b L) (h1 : rb ≠ some b) : ByteBlk w' b L := by
  obtain ⟨cs, h5⟩ := h.own
  refine (h.keep b hb.lt (blk_ne hb h5 (by decide)) fun e => ?_).trans hb
  injection e with e
  subst e
  rcases h.room with h3 | h3
  · exact h1 h3.symm
  · have := hb.lt; omega
theorem LendK.otherRoom {w w' : World} {g r g2 : Nat} {rb rb2 : Option Nat} {R : List Int} (h : LendK w g r rb w') (h2 : Room w g2 rb2 R) (hg : g2 ≠ g) (hr : ∀ x, rb2 = some x → rb ≠ some x) : Room w' g2 rb2 R := by
  rcases h2 with ⟨h1, h2, h3⟩ | ⟨x, h1, h2, h3, h4⟩
  · exact .inl ⟨h1, h2, h.blk h3 (by decide) hg⟩
  · exact .inr ⟨x, h1, h2, h.bytes h3 (hr x h1), h.blk h4 (by decide) hg⟩
theorem LendK.otherLent {w w' : World} {g r g2 r2 : Nat} {rb : Option Nat} {L D : List Int} (h : LendK w g r rb w') (h2 : Lent w g2 r2 L D) (hg : g2 ≠ g) (hr : rb ≠ some r2) : Lent w' g2 r2 L D :=
  ⟨h2.1, h.bytes h2.2.1 hr, h.blk h2.2.2 (by decide) hg⟩
theorem LendK.rows {w w' : World} {g r base n s : Nat} {rb : Option Nat} {e : TypeId} {v : Value} {xs : List Value} (h : LendK w g r rb w') (h2 : w.ownsRow base e s v n xs) (h1 : e ≠ 5) (h3 : e ≠ 28) : w'.ownsRow base e s v n xs := by
  refine ⟨h2.1, ?_⟩
  rcases h2.2 with h4 | ⟨b, cap, cur, hv, hg, hh, h4⟩
  · exact .inl h4
  · obtain ⟨cs, h5⟩ := h.own
    exact .inr ⟨b, cap, cur, hv, hg, h.blk (cs := cur) hh h1 (blk_ne hh h5 h3), h4⟩
/-- what is owned above both stays -/
theorem keep_rows {w w' : World} {g r base n s : Nat} {e : TypeId} {v : Value} {xs : List Value} (hk : Keep2 g (some r) w w') (h2 : w.ownsRow base e s v n xs) (h1 : g < base) (h3 : r < base) : w'.ownsRow base e s v n xs := by
  refine ⟨h2.1, ?_⟩
  rcases h2.2 with h4 | ⟨b, cap, cur, hv, hg, hh, h4⟩
  · exact .inl h4
  · have hb : b < w.heap.size := by
      rcases Nat.lt_or_ge b w.heap.size with h5 | h5
      · exact h5
      · rw [Array.getElem?_eq_none h5] at hh; cases hh
    exact .inr ⟨b, cap, cur, hv, hg, (hk b hb (by omega) (fun e => by injection e with e; omega)).trans hh, h4⟩
theorem keep_blk {w w' : World} {g r b : Nat} {t : TypeId} {cs : Array Value} (hk : Keep2 g (some r) w w') (hb : Blk w b t cs) (h1 : b ≠ g) (h2 : b ≠ r) : Blk w' b t cs :=
  (hk b hb.lt h1 (fun e => h2 (by injection e))).trans hb
theorem Lent.sl {w : World} {g r n : Nat} {L D : List Int} (h : Lent w g r L D) (hn : L.length = n) : Sl w (some ⟨r, 0, none⟩) n (L.length + (L.length + 70) + D.length) L :=
  ⟨Lib.hid hn, by omega, h.2.1.begin_, fun b off e => by injection e with e; injection e with e1; subst e1; exact h.2.1.lt⟩
theorem Lent.room {w : World} {g r : Nat} {L D : List Int} (h : Lent w g r L D) : ∃ cs, Blk w g 28 cs := ⟨_, h.2.2⟩
/-- what a book does not spare stays as it was -/
structure KZ (Z : Nat → Prop) (w w' : World) : Prop where
  size : w.heap.size ≤ w'.heap.size
  keep : ∀ b, b < w.heap.size → ¬ Z b → w'.heap[b]? = w.heap[b]?
section
variable {Z : Nat → Prop} {w w1 w2 : World}
theorem KZ.refl (Z : Nat → Prop) (w : World) : KZ Z w w := ⟨Nat.le_refl _, fun _ _ _ => rfl⟩
theorem KZ.trans (h : KZ Z w w1) (hs : w1.heap.size ≤ w2.heap.size) (hk : ∀ b, b < w.heap.size → ¬ Z b → w2.heap[b]? = w1.heap[b]?) : KZ Z w w2 :=
  ⟨Nat.le_trans h.size hs, fun b hb hz => (hk b hb hz).trans (h.keep b hb hz)⟩
theorem KZ.up (h : KZ Z w w1) (hb : Below w1.heap.size w1 w2) : KZ Z w w2 :=
  h.trans hb.size fun b hl _ => hb.block b (Nat.lt_of_lt_of_le hl h.size)
theorem KZ.keep2 {g r : Nat} (h : KZ Z w w1) (hs : w1.heap.size ≤ w2.heap.size) (hk : Keep2 g (some r) w1 w2) (hg : Z g) (hr : Z r ∨ w.heap.size ≤ r) : KZ Z w w2 :=
  h.trans hs fun b hl hz => hk b (Nat.lt_of_lt_of_le hl h.size) (fun e => hz (e ▸ hg)) (fun e => by
    injection e with e
    subst e
    rcases hr with hr | hr
    · exact hz hr
    · omega)
theorem KZ.touch {x : Nat} (h : KZ Z w w1) (ht : Touch x w1 w2) (hs : w1.heap.size ≤ w2.heap.size) (hx : Z x ∨ w.heap.size ≤ x) : KZ Z w w2 :=
  h.trans hs fun b hl hz => ht.block b (Nat.lt_of_lt_of_le hl h.size) (fun e => by
    subst e
    rcases hx with hx | hx
    · exact hz hx
    · omega)
end
/-- what was made since is spared too, and what was spared has turned -/
theorem use_grow {Z : Nat → Prop} {W0 : World} {G T m : Nat} {w w' : World} (h : Bk.Use Z W0 G T m w) (hk : KZ Z w w') : Bk.Use (fun b => Z b ∨ (w.heap.size ≤ b ∧ b < w'.heap.size)) w' G T m w' := by
  obtain ⟨cnt, tot, fv, wv, kv, fr, F, Ws, K, R, h1, h2⟩ := h
  have hf := h1.far hk.size hk.keep
  have hs := hk.size
  have old : ∀ b, b < w.heap.size → ¬ Z b → ¬ (Z b ∨ (w.heap.size ≤ b ∧ b < w'.heap.size)) := fun b hb hz x => by
    rcases x with x | x
    · exact hz x
    · omega
  refine ⟨cnt, tot, fv, wv, kv, fr, F, Ws, K, R, { hf with
    below := Below.refl _ _
    z := ⟨fun _ _ => rfl, fun b hb => by
      rcases hb with hb | hb
      · have := h1.z.old b hb; have := h1.z.size; omega
      · exact hb.2, Nat.le_refl _, old G (lt_of_block h1.blk) h1.z.g, fun b hb => old b (h1.f.lt hb).2 (h1.z.f b hb), fun b hb => old b (h1.wn.lt hb).2 (h1.z.wn b hb), fun b hb => old b (h1.k.lt hb).2 (h1.z.k b hb), fun b hb => old b (h1.from_.lt hb).2 (h1.z.r b hb),
      fun y hy b hb => old b ((h1.fd y hy).lt hb).2 (h1.z.fd y hy b hb), fun y hy b hb => old b ((h1.kd y hy).lt hb).2 (h1.z.kd y hy b hb)⟩, wz := fun u hu b hb => old b (h1.wlt u hu b hb) (h1.wz u hu b hb) }, h2⟩
/-- the lists that were lent, and the book, at a round's beginning -/
structure BkS (Z : Nat → Prop) (G T m : Nat) (w : World) : Prop where
  use : Bk.Use Z w G T m w
theorem BkS.own {Z : Nat → Prop} {G T m : Nat} {w w' : World} (h : BkS Z G T m w) (hk : KZ Z w w') {v : Value} {L : List Int} {n base : Nat} (hv : OwnB w' base v L) (hb : w.heap.size ≤ base) (hn : L.length = n) (hL : n ≤ 1048576) (hT : T + n ≤ 1099511627776) (hm : m + 2 ≤ 1048576) :
    Calls Try.prog 15 #[.pointer (some ⟨G, 0, none⟩), v] w' fun e w2 => e = .returned (.bool true) ∧
      BkS (fun b => (Z b ∨ (w.heap.size ≤ b ∧ b < w'.heap.size)) ∧ v.ownBlock ≠ some b) G (T + n) (m + 2) w2 ∧ Below 0 w' w2 ∧ ∀ b, (Z b ∨ (w.heap.size ≤ b ∧ b < w'.heap.size)) → v.ownBlock ≠ some b → w2.heap[b]? = w'.heap[b]? := by
  refine (Bk.own_at_ _ w' G T m w' (use_grow h.use hk) v L n (hv.mono (Nat.zero_le _)) (fun b e => .inr ?_) hn hL hT hm).mono ?_
  · have := hv.lt e; omega
  · rintro e w2 ⟨rfl, hu⟩
    obtain ⟨h0, h1⟩ := hu.below
    exact ⟨rfl, ⟨hu.far (Nat.le_refl _) fun _ _ _ => rfl⟩, h0, fun b hb hv => h1 b ⟨hb, hv⟩⟩
end Go.Proofs.Ytkfcfoidaalnlaa.Pak
