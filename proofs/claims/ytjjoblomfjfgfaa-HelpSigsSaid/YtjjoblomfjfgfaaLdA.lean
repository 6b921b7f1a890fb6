/- The ledger of numbers that were handed out (warrantlaw00.Ledger): append that keeps what it grows from; the state. -/
import Derived.Test.YtjjoblomfjfgfaaHG
namespace Go.Proofs.Ytjjoblomfjfgfaa
open Go.ChangeShapes Go.WideShapes Go.ChangeAt Go.RowKit
open Bits HM
set_option linter.unusedVariables false
set_option linter.unusedSimpArgs false

section
variable {P : Program} (w : World)
/-- append onto a row of the call's own: it grows in its block, or it moves and leaves all old blocks as they were -/
def Keep (w w' : World) (v v' : Value) (n m : Nat) : Prop :=
  (∃ g cap, v = .slice (some ⟨g, 0, none⟩) n cap ∧ v' = .slice (some ⟨g, 0, none⟩) (n + m) cap ∧ w.grownBy w' (some g)) ∨ (v'.ownBlock = some w.heap.size ∧ w.grownBy w' none)
theorem run_append_keep (base : Nat) (t ty e : TypeId) (i : TypeInfo) (z : Value) (size bytes : Nat) (ht : P.underlying t = some (.slice e)) (hi : P.info? e = some i) (hz : i.zero = some z)
    (hsize : i.size = size) (hby : i.bytes = bytes) (hzs : z.cells.size = size) (hsz : 0 < size)
    (v : Value) (n : Nat) (xs : List Value) (hown : w.ownsRow base e size v n xs)
    (ad : Addr) (m c : Nat) (news : List Value) (hl : news.length = m * size) (hnews : ∀ j u, news[j]? = some u → w.cell? (ad.add j) = some u) (h1 : ∀ u ∈ news, u.oneCell' = true)
    (h63 : n + m ≤ maxLen) (hbytes : (n + m) * bytes ≤ 140737488355328) (hbase : base ≤ w.heap.size) (hm : 0 < m) :
    ∃ v' w', (Builtin.append_ #[t, t] ty #[v, .slice (some ad) m c]).run P w = .ok v' w' ∧ w'.ownsRow base e size v' (n + m) (xs ++ news) ∧ Keep w w' v v' n m := by
  obtain ⟨v', w', hr, h2, h3, h4, h5⟩ := run_append_own_at (P := P) w base t ty e i z size bytes ht hi hz hsize hby hzs hsz v n xs hown ad m c news hl hnews h1 h63 hbytes hbase
  refine ⟨v', w', hr, h2, ?_⟩
  rcases hown.2 with ⟨rfl, rfl⟩ | ⟨g, cap, cur, rfl, hbg, hg, hnc, hcm, hcs, htake⟩
  · refine .inr ⟨?_, h3⟩
    rcases h5 with h5 | h5
    · rcases h2.2 with ⟨_, hn⟩ | ⟨g, cap, cur, rfl, _⟩
      · omega
      · cases h5
    · exact h5
  · subst hsize
    subst hby
    have hsmall : n + m ≤ 9223372036854775807 := by simp only [maxLen] at h63; omega
    by_cases hroom : n + m ≤ cap
    · have hfit : n * i.size + news.length ≤ cur.size := by rw [hl, hcs, ← Nat.add_mul]; exact Nat.mul_le_mul_right _ hroom
      have hr2 := run_append_room (P := P) w t ty e i ht hi g n cap cur hg ad m c news hl hnews h1 hroom hfit
      rw [hr] at hr2
      injection hr2 with e1 e2
      exact .inl ⟨g, cap, rfl, e1, h3⟩
    · have holds : ∀ j u, xs[j]? = some u → w.cell? ((⟨g, 0, none⟩ : Addr).add j) = some u := hown.cells (g := g) rfl
      have hr2 := run_append_grow (P := P) w t ty e i z ht hi hz ⟨g, 0, none⟩ n cap xs hown.1 holds ad m c news hl hnews (by omega) (by omega) (growslice_fits (by omega) hbytes)
      rw [hr] at hr2
      injection hr2 with e1 e2
      refine .inr ⟨by rw [e1]; rfl, ?_⟩
      rw [e2]
      exact ⟨rfl, rfl, rfl, by simp, fun k hk _ => Below.heap_alloc w.drew _ k hk⟩
end

/-- rows of slices of ints -/
def OwnS (w : World) (base : Nat) (v : Value) (L : List Value) : Prop := w.ownsRow base 24 1 v L.length L
theorem slice_info : (Try.prog.info? 24).map (fun i => (i.zero, i.size, i.bytes)) = some (some (.slice none 0 0), 1, 24) := by kernel_rfl

/-- memory of ints is as it was, but for one block -/
def StabI (x : Option Nat) (w w' : World) : Prop := w.heap.size ≤ w'.heap.size ∧ ∀ b cs fr, w.heap[b]? = some (.cells cs 3 fr) → some b ≠ x → w'.heap[b]? = w.heap[b]?
theorem StabI.refl (x : Option Nat) (w : World) : StabI x w w := ⟨Nat.le_refl _, fun _ _ _ _ _ => rfl⟩
theorem OwnI.stab {w w' : World} {x : Option Nat} {base : Nat} {v : Value} {L : List Int} (h : OwnI w base v L) (hs : StabI x w w') (hne : ∀ b, v.ownBlock = some b → some b ≠ x) : OwnI w' base v L := by
  obtain ⟨h1, h2⟩ := h
  refine ⟨h1, ?_⟩
  rcases h2 with h2 | ⟨g, cap, cur, rfl, hg, hh, h3⟩
  · exact .inl h2
  · exact .inr ⟨g, cap, cur, rfl, hg, (hs.2 g cur (0, 0) hh (hne g rfl)).trans hh, h3⟩
theorem StabI.trans {w w' w'' : World} {x : Option Nat} (h : StabI x w w') (h' : StabI x w' w'') : StabI x w w'' :=
  ⟨Nat.le_trans h.1 h'.1, fun b cs fr hb hx => (h'.2 b cs fr ((h.2 b cs fr hb hx).trans hb) hx).trans (h.2 b cs fr hb hx)⟩
theorem StabI.below {w w' : World} (h : Below w.heap.size w w') : StabI none w w' := ⟨h.size, fun b cs fr hb _ => by
  have hlt : b < w.heap.size := by
    rcases Nat.lt_or_ge b w.heap.size with h1 | h1
    · exact h1
    · rw [Array.getElem?_eq_none h1] at hb; cases hb
  exact h.block b hlt⟩
theorem StabI.setCell {w : World} {g : Nat} {cs : Array Value} {t : TypeId} (hg : Blk w g t cs) (ht : t ≠ 3) (i : Nat) (u : Value) : StabI none w (w.setCell ⟨g, i, none⟩ u) :=
  ⟨by simp [World.setCell], fun b cs' fr hb _ => Below.heap_setCell w ⟨g, i, none⟩ u b (fun e => by
    have e' : b = g := e
    subst e'
    unfold Blk at hg
    rw [hg] at hb
    injection hb with hb
    injection hb with _ h2
    exact ht h2)⟩
theorem StabI.grownS {w w' : World} {base : Nat} {v : Value} {L : List Value} (h : OwnS w base v L) (hg : w.grownBy w' v.ownBlock) : StabI none w w' :=
  ⟨hg.size, fun b cs fr hb _ => by
    have hlt : b < w.heap.size := by
      rcases Nat.lt_or_ge b w.heap.size with h1 | h1
      · exact h1
      · rw [Array.getElem?_eq_none h1] at hb; cases hb
    refine hg.block b hlt fun e => ?_
    rcases h.2 with ⟨rfl, _⟩ | ⟨g, cap, cur, rfl, hg', hh, h3⟩
    · cases e
    · have e' : b = g := by simpa [Value.ownBlock] using e
      subst e'
      rw [hh] at hb
      injection hb with hb
      injection hb with _ h2
      exact absurd h2 (by decide)⟩
theorem StabI.none_any {w w' : World} (h : StabI none w w') (x : Option Nat) : StabI x w w' := ⟨h.1, fun b cs fr hb _ => h.2 b cs fr hb (by simp)⟩
/-- memory of lists of lists is as it was, but for one block -/
def StabS (x : Option Nat) (w w' : World) : Prop := ∀ b cs fr, w.heap[b]? = some (.cells cs 24 fr) → some b ≠ x → w'.heap[b]? = w.heap[b]?
theorem OwnS.stab {w w' : World} {x : Option Nat} {base : Nat} {v : Value} {L : List Value} (h : OwnS w base v L) (hs : StabS x w w') (hne : ∀ b, v.ownBlock = some b → some b ≠ x) : OwnS w' base v L := by
  obtain ⟨h1, h2⟩ := h
  refine ⟨h1, ?_⟩
  rcases h2 with h2 | ⟨g, cap, cur, rfl, hg, hh, h3⟩
  · exact .inl h2
  · exact .inr ⟨g, cap, cur, rfl, hg, (hs g cur (0, 0) hh (hne g rfl)).trans hh, h3⟩
theorem StabS.below {w w' : World} (h : Below w.heap.size w w') : StabS none w w' := fun b cs fr hb _ => by
  have hlt : b < w.heap.size := by
    rcases Nat.lt_or_ge b w.heap.size with h1 | h1
    · exact h1
    · rw [Array.getElem?_eq_none h1] at hb; cases hb
  exact h.block b hlt
theorem StabS.setCell {w : World} {g : Nat} {cs : Array Value} {t : TypeId} (hg : Blk w g t cs) (ht : t ≠ 24) (i : Nat) (u : Value) : StabS none w (w.setCell ⟨g, i, none⟩ u) :=
  fun b cs' fr hb _ => Below.heap_setCell w ⟨g, i, none⟩ u b (fun e => by
    have e' : b = g := e
    subst e'
    unfold Blk at hg
    rw [hg] at hb
    injection hb with hb
    injection hb with _ h2
    exact ht h2)
theorem StabS.grownI {w w' : World} {base : Nat} {v : Value} {L : List Int} (h : OwnI w base v L) (hg : w.grownBy w' v.ownBlock) : StabS none w w' :=
  fun b cs fr hb _ => by
    have hlt : b < w.heap.size := by
      rcases Nat.lt_or_ge b w.heap.size with h1 | h1
      · exact h1
      · rw [Array.getElem?_eq_none h1] at hb; cases hb
    refine hg.block b hlt fun e => ?_
    rcases h.2 with ⟨rfl, _⟩ | ⟨g, cap, cur, rfl, hg', hh, h3⟩
    · cases e
    · have e' : b = g := by simpa [Value.ownBlock] using e
      subst e'
      rw [hh] at hb
      injection hb with hb
      injection hb with _ h2
      exact absurd h2 (by decide)
theorem StabS.grownS {w w' : World} {base : Nat} {v : Value} {L : List Value} (h : OwnS w base v L) (hg : w.grownBy w' v.ownBlock) : StabS v.ownBlock w w' :=
  fun b cs fr hb hne => by
    have hlt : b < w.heap.size := by
      rcases Nat.lt_or_ge b w.heap.size with h1 | h1
      · exact h1
      · rw [Array.getElem?_eq_none h1] at hb; cases hb
    exact hg.block b hlt hne
theorem StabI.grownI {w w' : World} {base : Nat} {v : Value} {L : List Int} (h : OwnI w base v L) (hg : w.grownBy w' v.ownBlock) : StabI v.ownBlock w w' :=
  ⟨hg.size, fun b cs fr hb hne => by
    have hlt : b < w.heap.size := by
      rcases Nat.lt_or_ge b w.heap.size with h1 | h1
      · exact h1
      · rw [Array.getElem?_eq_none h1] at hb; cases hb
    exact hg.block b hlt hne⟩

/-- a caller's marks -/
def markI (f : Int) (j : Nat) : Int := -1000003 * (f + 1) - j
def marksI (f : Int) (n : Nat) : List Int := (List.range n).map (markI f)
theorem marksI_length (f : Int) (n : Nat) : (marksI f n).length = n := by simp [marksI]
theorem marksI_get (f : Int) (n j : Nat) (h : j < n) : (marksI f n)[j]?.getD 0 = markI f j := by simp [marksI, h]
theorem marksI_succ (f : Int) (n : Nat) : marksI f (n + 1) = marksI f n ++ [markI f n] := by simp [marksI, List.range_succ]

/-- blocks that are spared: they lie as they lay in W0, and the ledger owns none of them -/
structure Zs (Z : Nat → Prop) (W0 : World) (G : Nat) (fv wv kv fr : Value) (F K : List (Value × List Int)) (w : World) : Prop where
  keep : ∀ b, Z b → w.heap[b]? = W0.heap[b]?
  old : ∀ b, Z b → b < W0.heap.size
  size : W0.heap.size ≤ w.heap.size
  g : ¬ Z G
  f : ∀ b, fv.ownBlock = some b → ¬ Z b
  wn : ∀ b, wv.ownBlock = some b → ¬ Z b
  k : ∀ b, kv.ownBlock = some b → ¬ Z b
  r : ∀ b, fr.ownBlock = some b → ¬ Z b
  fd : ∀ x ∈ F, ∀ b, x.1.ownBlock = some b → ¬ Z b
  kd : ∀ x ∈ K, ∀ b, x.1.ownBlock = some b → ¬ Z b
section
variable {Z : Nat → Prop} {W0 : World} {G : Nat} {fv wv kv fr : Value} {F K : List (Value × List Int)} {w w' : World}
/-- the same owner, another world that keeps what is spared -/
theorem Zs.to (h : Zs Z W0 G fv wv kv fr F K w) (hs : w.heap.size ≤ w'.heap.size) (hk : ∀ b, Z b → w'.heap[b]? = w.heap[b]?) : Zs Z W0 G fv wv kv fr F K w' :=
  { h with keep := fun b hb => (hk b hb).trans (h.keep b hb), size := Nat.le_trans h.size hs }
theorem Zs.setCell (h : Zs Z W0 G fv wv kv fr F K w) {g : Nat} (hg : ¬ Z g) (i : Nat) (u : Value) : Zs Z W0 G fv wv kv fr F K (w.setCell ⟨g, i, none⟩ u) :=
  h.to (by simp [World.setCell]) fun b hb => Below.heap_setCell w ⟨g, i, none⟩ u b (fun e => hg (by
    have e' : b = g := e
    rw [← e']; exact hb))
theorem Zs.below (h : Zs Z W0 G fv wv kv fr F K w) (hb : Below w.heap.size w w') : Zs Z W0 G fv wv kv fr F K w' :=
  h.to hb.size fun b hz => hb.block b (by have := h.old b hz; have := h.size; omega)
theorem Zs.lt (h : Zs Z W0 G fv wv kv fr F K w) {b : Nat} (hb : w.heap.size ≤ b) : ¬ Z b := fun hz => by have := h.old b hz; have := h.size; omega
/-- a row or list of the owner's grows -/
theorem Zs.grown (h : Zs Z W0 G fv wv kv fr F K w) {v v' : Value} {n m : Nat} (hk : Keep w w' v v' n m) (hv : ∀ b, v.ownBlock = some b → ¬ Z b) : Zs Z W0 G fv wv kv fr F K w' ∧ ∀ b, v'.ownBlock = some b → ¬ Z b := by
  rcases hk with ⟨g, cap, rfl, rfl, hg⟩ | ⟨hob, hg⟩
  · exact ⟨h.to hg.size fun b hb => hg.block b (by have := h.old b hb; have := h.size; omega) (fun e => hv g rfl (by injection e with e; rw [← e]; exact hb)), hv⟩
  · exact ⟨h.to hg.size fun b hb => hg.block b (by have := h.old b hb; have := h.size; omega) (fun e => by cases e), fun b hb => by
      rw [hob] at hb
      injection hb with hb
      exact h.lt (Nat.le_of_eq hb)⟩
end
/-- the ledger at block G: the values that it holds, and what they stand for. F: what lies untouched, with what it holds; K: what was written over or grown, R: with which mark -/
structure Led (Z : Nat → Prop) (W0 : World) (b0 G : Nat) (tot : Int) (fv wv kv fr : Value) (F : List (Value × List Int)) (Ws : List Value) (K : List (Value × List Int)) (R : List Int) (w : World) : Prop where
  below : Below b0 W0 w
  z : Zs Z W0 G fv wv kv fr F K w
  gb : b0 ≤ G
  blk : Blk w G 36 #[.int .i64 tot, fv, wv, kv, fr, .bool false]
  f : OwnS w b0 fv (F.map (·.1))
  wn : OwnS w b0 wv Ws
  k : OwnS w b0 kv (K.map (·.1))
  from_ : OwnI w b0 fr R
  fd : ∀ x ∈ F, OwnI w b0 x.1 x.2
  wl : Ws.length = F.length
  wd : ∀ i, i < F.length → OwnI w b0 (Ws[i]?.getD undef) ((F[i]?.getD (undef, [])).2)
  kl : R.length = K.length
  kd : ∀ x ∈ K, OwnI w b0 x.1 x.2
  km : ∀ i, i < K.length → (K[i]?.getD (undef, [])).2 = marksI (R[i]?.getD 0) (K[i]?.getD (undef, [])).2.length
  tb : 0 ≤ tot ∧ tot ≤ 1099511627776
  nb : F.length ≤ 3 ∧ K.length ≤ 1048576
  rb : ∀ i, i < R.length → 0 ≤ R[i]?.getD 0 ∧ R[i]?.getD 0 ≤ 1048576
  lb : (∀ x ∈ F, x.2.length ≤ 1048576) ∧ (∀ x ∈ K, x.2.length ≤ 2097152)
  -- the three lists of lists are apart
  s1 : ∀ b, fv.ownBlock = some b → wv.ownBlock ≠ some b ∧ kv.ownBlock ≠ some b
  s2 : ∀ b, wv.ownBlock = some b → kv.ownBlock ≠ some b
  -- the marks' numbers are apart from all rows, the untouched rows from each other and from what is kept
  s3 : ∀ b, fr.ownBlock = some b → (∀ x ∈ F, x.1.ownBlock ≠ some b) ∧ (∀ x ∈ K, x.1.ownBlock ≠ some b)
  s4 : ∀ b, ∀ x ∈ F, x.1.ownBlock = some b → ∀ y ∈ K, y.1.ownBlock ≠ some b
  s5 : ∀ i j b, i < j → j < F.length → (F[i]?.getD (undef, [])).1.ownBlock = some b → (F[j]?.getD (undef, [])).1.ownBlock ≠ some b
end Go.Proofs.Ytjjoblomfjfgfaa
