/- Lists that were handed out (warrantlaw00.Ledger, Book): append that keeps what it grows from; what stays where one block turns; blocks that are spared. -/
import Derived.Test.YtkfcfoidaalnlaaHI
import Derived.Test.YtkfcfoidaalnlaaHMath
import Derived.Tactics
import Derived.Tactics2
import Derived.Defers
import Derived.Laws.Pointers
import Derived.RegionTactic
import Derived.RegionCalls
import Derived.ChangeAlike
import Derived.Laws.NewBlocks
import Derived.StillTail
import Derived.StillTailTactics
import Derived.Deep.RegionHeld3
import Derived.Deep.DeepCutAuto
import Derived.Lib.SliceRun
namespace Go.Proofs.Ytkfcfoidaalnlaa
open Go.ChangeShapes Go.WideShapes Go.ChangeAt Go.RowKit
open Bits HM
set_option linter.unusedVariables false
set_option linter.unusedSimpArgs false

section
variable {P : Program} (w : World)
/-- append onto a row of the call's own: it grows in its block, or it moves and leaves all old blocks as they were -/
def Keep (w w' : World) (v v' : Value) (n m : Nat) : Prop :=
  (∃ g cap, v = .slice (some ⟨g, 0, none⟩) n cap ∧ v' = .slice (some ⟨g, 0, none⟩) (n + m) cap ∧ w.grownBy w' (some g)) ∨ (v'.ownBlock = some w.heap.size ∧ w.grownBy w' none)
theorem run_append_keep (base : Nat) (t ty e : TypeId) (i : TypeInfo) (z : Value) (size bytes : Nat) (ht : P.underlying t = some (.slice e)) (hi : P.info? e = some i) (hz : i.zero = some z)
    (hsize : i.size = size) (hby : i.bytes = bytes) (hzs : z.cells.size = size) (hsz : 0 < size)
    (v : Value) (n : Nat) (xs : List Value) (hown : w.ownsRow base e size v n xs)
    (ad : Addr) (m c : Nat) (news : List Value) (hl : news.length = m * size) (hnews : ∀ j u, news[j]? = some u → w.cell? (ad.add j) = some u) (h1 : ∀ u ∈ news, u.oneCell' = true)
    (h63 : n + m ≤ maxLen) (hbytes : (n + m) * bytes ≤ 140737488355328) (hbase : base ≤ w.heap.size) (hm : 0 < m) :
    ∃ v' w', (Builtin.append_ #[t, t] ty #[v, .slice (some ad) m c]).run P w = .ok v' w' ∧ w'.ownsRow base e size v' (n + m) (xs ++ news) ∧ Keep w w' v v' n m := by
  obtain ⟨v', w', hr, h2, h3, h4, h5⟩ := run_append_own_at (P := P) w base t ty e i z size bytes ht hi hz hsize hby hzs hsz v n xs hown ad m c news hl hnews h1 h63 hbytes hbase
  refine ⟨v', w', hr, h2, ?_⟩
  rcases hown.2 with ⟨rfl, rfl⟩ | ⟨g, cap, cur, rfl, hbg, hg, hnc, hcm, hcs, htake⟩
  · refine .inr ⟨?_, h3⟩
    rcases h5 with h5 | h5
    · rcases h2.2 with ⟨_, hn⟩ | ⟨g, cap, cur, rfl, _⟩
      · omega
      · cases h5
    · exact h5
  · subst hsize
    subst hby
    have hsmall : n + m ≤ 9223372036854775807 := by simp only [maxLen] at h63; omega
    by_cases hroom : n + m ≤ cap
    · have hfit : n * i.size + news.length ≤ cur.size := by rw [hl, hcs, ← Nat.add_mul]; exact Nat.mul_le_mul_right _ hroom
      have hr2 := run_append_room (P := P) w t ty e i ht hi g n cap cur hg ad m c news hl hnews h1 hroom hfit
      rw [hr] at hr2
      injection hr2 with e1 e2
      exact .inl ⟨g, cap, rfl, e1, h3⟩
    · have holds : ∀ j u, xs[j]? = some u → w.cell? ((⟨g, 0, none⟩ : Addr).add j) = some u := hown.cells (g := g) rfl
      have hr2 := run_append_grow (P := P) w t ty e i z ht hi hz ⟨g, 0, none⟩ n cap xs hown.1 holds ad m c news hl hnews (by omega) (by omega) (growslice_fits (by omega) hbytes)
      rw [hr] at hr2
      injection hr2 with e1 e2
      refine .inr ⟨by rw [e1]; rfl, ?_⟩
      rw [e2]
      exact ⟨rfl, rfl, rfl, by simp, fun k hk _ => Below.heap_alloc w.drew _ k hk⟩
end

/-- the types of what rows hold, and of lists of rows -/
def rowT (t : TypeId) : Bool := t == 3 || t == 5
def lstT (t : TypeId) : Bool := t == 31 || t == 22
theorem row_lst {t : TypeId} (h : rowT t = true) : lstT t = false := by
  unfold rowT at h
  simp only [Bool.or_eq_true, beq_iff_eq] at h
  rcases h with rfl | rfl <;> rfl
/-- memory of rows is as it was, but for one block -/
def StabI (x : Option Nat) (w w' : World) : Prop := w.heap.size ≤ w'.heap.size ∧ ∀ b cs t fr, rowT t = true → w.heap[b]? = some (.cells cs t fr) → some b ≠ x → w'.heap[b]? = w.heap[b]?
theorem StabI.refl (x : Option Nat) (w : World) : StabI x w w := ⟨Nat.le_refl _, fun _ _ _ _ _ _ _ => rfl⟩
theorem StabI.trans {w w' w'' : World} {x : Option Nat} (h : StabI x w w') (h' : StabI x w' w'') : StabI x w w'' :=
  ⟨Nat.le_trans h.1 h'.1, fun b cs t fr ht hb hx => (h'.2 b cs t fr ht ((h.2 b cs t fr ht hb hx).trans hb) hx).trans (h.2 b cs t fr ht hb hx)⟩
theorem lt_some {w : World} {b : Nat} {o : Obj} (hb : w.heap[b]? = some o) : b < w.heap.size := by
  rcases Nat.lt_or_ge b w.heap.size with h1 | h1
  · exact h1
  · rw [Array.getElem?_eq_none h1] at hb; cases hb
theorem StabI.below {w w' : World} (h : Below w.heap.size w w') : StabI none w w' := ⟨h.size, fun b cs t fr _ hb _ => h.block b (lt_some hb)⟩
theorem StabI.setCell {w : World} {g : Nat} {cs : Array Value} {t : TypeId} (hg : Blk w g t cs) (ht : rowT t = false) (i : Nat) (u : Value) : StabI none w (w.setCell ⟨g, i, none⟩ u) :=
  ⟨by simp [World.setCell], fun b cs' t' fr ht' hb _ => Below.heap_setCell w ⟨g, i, none⟩ u b (fun e => by
    have e' : b = g := e
    subst e'
    unfold Blk at hg
    rw [hg] at hb
    injection hb with hb
    injection hb with _ h2
    subst h2
    rw [ht] at ht'
    cases ht')⟩
theorem StabI.grown {w w' : World} {x : Option Nat} (hg : w.grownBy w' x) : StabI x w w' :=
  ⟨hg.size, fun b cs t fr _ hb hne => hg.block b (lt_some hb) hne⟩
theorem StabI.none_any {w w' : World} (h : StabI none w w') (x : Option Nat) : StabI x w w' := ⟨h.1, fun b cs t fr ht hb _ => h.2 b cs t fr ht hb (by simp)⟩
/-- a row's or list's block -/
theorem own_blk {w : World} {base : Nat} {e : TypeId} {size n : Nat} {v : Value} {xs : List Value} (h : w.ownsRow base e size v n xs) {b : Nat} (hb : v.ownBlock = some b) : ∃ cs, w.heap[b]? = some (.cells cs e (0, 0)) := by
  rcases h.2 with ⟨rfl, _⟩ | ⟨g, cap, cur, rfl, hg, hh, h3⟩
  · cases hb
  · have e' : g = b := by simpa [Value.ownBlock] using hb
    subst e'
    exact ⟨cur, hh⟩
theorem StabI.grownL {w w' : World} {base : Nat} {e : TypeId} {size n : Nat} {v : Value} {xs : List Value} (h : w.ownsRow base e size v n xs) (he : rowT e = false) (hg : w.grownBy w' v.ownBlock) : StabI none w w' :=
  ⟨hg.size, fun b cs t fr ht hb _ => hg.block b (lt_some hb) fun e2 => by
    obtain ⟨cs2, h2⟩ := own_blk h e2.symm
    rw [h2] at hb
    injection hb with hb
    injection hb with _ h3
    subst h3
    rw [he] at ht
    cases ht⟩
/-- memory of lists of lists is as it was, but for one block -/
def StabS (x : Option Nat) (w w' : World) : Prop := ∀ b cs t fr, lstT t = true → w.heap[b]? = some (.cells cs t fr) → some b ≠ x → w'.heap[b]? = w.heap[b]?
theorem StabS.below {w w' : World} (h : Below w.heap.size w w') : StabS none w w' := fun b cs t fr _ hb _ => h.block b (lt_some hb)
theorem StabS.setCell {w : World} {g : Nat} {cs : Array Value} {t : TypeId} (hg : Blk w g t cs) (ht : lstT t = false) (i : Nat) (u : Value) : StabS none w (w.setCell ⟨g, i, none⟩ u) :=
  fun b cs' t' fr ht' hb _ => Below.heap_setCell w ⟨g, i, none⟩ u b (fun e => by
    have e' : b = g := e
    subst e'
    unfold Blk at hg
    rw [hg] at hb
    injection hb with hb
    injection hb with _ h2
    subst h2
    rw [ht] at ht'
    cases ht')
theorem StabS.grownR {w w' : World} {base : Nat} {e : TypeId} {size n : Nat} {v : Value} {xs : List Value} (h : w.ownsRow base e size v n xs) (he : lstT e = false) (hg : w.grownBy w' v.ownBlock) : StabS none w w' :=
  fun b cs t fr ht hb _ => hg.block b (lt_some hb) fun e2 => by
    obtain ⟨cs2, h2⟩ := own_blk h e2.symm
    rw [h2] at hb
    injection hb with hb
    injection hb with _ h3
    subst h3
    rw [he] at ht
    cases ht
theorem StabS.grown {w w' : World} {x : Option Nat} (hg : w.grownBy w' x) : StabS x w w' :=
  fun b cs t fr _ hb hne => hg.block b (lt_some hb) hne
theorem OwnI.stab {w w' : World} {x : Option Nat} {base : Nat} {v : Value} {L : List Int} (h : OwnI w base v L) (hs : StabI x w w') (hne : ∀ b, v.ownBlock = some b → some b ≠ x) : OwnI w' base v L := by
  obtain ⟨h1, h2⟩ := h
  refine ⟨h1, ?_⟩
  rcases h2 with h2 | ⟨g, cap, cur, rfl, hg, hh, h3⟩
  · exact .inl h2
  · exact .inr ⟨g, cap, cur, rfl, hg, (hs.2 g cur _ (0, 0) rfl hh (hne g rfl)).trans hh, h3⟩
theorem StabS.grownI {w w' : World} {base : Nat} {v : Value} {L : List Int} (h : OwnI w base v L) (hg : w.grownBy w' v.ownBlock) : StabS none w w' := StabS.grownR h rfl hg
theorem StabI.grownI {w w' : World} {base : Nat} {v : Value} {L : List Int} (h : OwnI w base v L) (hg : w.grownBy w' v.ownBlock) : StabI v.ownBlock w w' := StabI.grown hg

/-- blocks that are spared: they lie as they lay in W0, and the ledger owns none of them -/
structure Zs (Z : Nat → Prop) (W0 : World) (G : Nat) (fv wv kv fr : Value) (F K : List (Value × List Int)) (w : World) : Prop where
  keep : ∀ b, Z b → w.heap[b]? = W0.heap[b]?
  old : ∀ b, Z b → b < W0.heap.size
  size : W0.heap.size ≤ w.heap.size
  g : ¬ Z G
  f : ∀ b, fv.ownBlock = some b → ¬ Z b
  wn : ∀ b, wv.ownBlock = some b → ¬ Z b
  k : ∀ b, kv.ownBlock = some b → ¬ Z b
  r : ∀ b, fr.ownBlock = some b → ¬ Z b
  fd : ∀ x ∈ F, ∀ b, x.1.ownBlock = some b → ¬ Z b
  kd : ∀ x ∈ K, ∀ b, x.1.ownBlock = some b → ¬ Z b
section
variable {Z : Nat → Prop} {W0 : World} {G : Nat} {fv wv kv fr : Value} {F K : List (Value × List Int)} {w w' : World}
/-- the same owner, another world that keeps what is spared -/
theorem Zs.to (h : Zs Z W0 G fv wv kv fr F K w) (hs : w.heap.size ≤ w'.heap.size) (hk : ∀ b, Z b → w'.heap[b]? = w.heap[b]?) : Zs Z W0 G fv wv kv fr F K w' :=
  { h with keep := fun b hb => (hk b hb).trans (h.keep b hb), size := Nat.le_trans h.size hs }
theorem Zs.setCell (h : Zs Z W0 G fv wv kv fr F K w) {g : Nat} (hg : ¬ Z g) (i : Nat) (u : Value) : Zs Z W0 G fv wv kv fr F K (w.setCell ⟨g, i, none⟩ u) :=
  h.to (by simp [World.setCell]) fun b hb => Below.heap_setCell w ⟨g, i, none⟩ u b (fun e => hg (by
    have e' : b = g := e
    rw [← e']; exact hb))
theorem Zs.below (h : Zs Z W0 G fv wv kv fr F K w) (hb : Below w.heap.size w w') : Zs Z W0 G fv wv kv fr F K w' :=
  h.to hb.size fun b hz => hb.block b (by have := h.old b hz; have := h.size; omega)
theorem Zs.lt (h : Zs Z W0 G fv wv kv fr F K w) {b : Nat} (hb : w.heap.size ≤ b) : ¬ Z b := fun hz => by have := h.old b hz; have := h.size; omega
/-- a row or list of the owner's grows -/
theorem Zs.grown (h : Zs Z W0 G fv wv kv fr F K w) {v v' : Value} {n m : Nat} (hk : Keep w w' v v' n m) (hv : ∀ b, v.ownBlock = some b → ¬ Z b) : Zs Z W0 G fv wv kv fr F K w' ∧ ∀ b, v'.ownBlock = some b → ¬ Z b := by
  rcases hk with ⟨g, cap, rfl, rfl, hg⟩ | ⟨hob, hg⟩
  · exact ⟨h.to hg.size fun b hb => hg.block b (by have := h.old b hb; have := h.size; omega) (fun e => hv g rfl (by injection e with e; rw [← e]; exact hb)), hv⟩
  · exact ⟨h.to hg.size fun b hb => hg.block b (by have := h.old b hb; have := h.size; omega) (fun e => by cases e), fun b hb => by
      rw [hob] at hb
      injection hb with hb
      exact h.lt (Nat.le_of_eq hb)⟩
end
theorem OwnI.lt {w : World} {base : Nat} {v : Value} {L : List Int} (h : OwnI w base v L) {b : Nat} (hb : v.ownBlock = some b) : base ≤ b ∧ b < w.heap.size := World.ownsRow.lt h b hb

section
variable {w : World} {base g N cap : Nat} {L : List Int}
theorem OwnI.cellAt (h : OwnI w base (.slice (some ⟨g, 0, none⟩) N cap) L) (hL : L.length = N) (j : Nat) (hj : j < N) : w.cell? ⟨g, j, none⟩ = some (.int .i64 (L[j]?.getD 0)) := by
  unfold OwnI at h
  rw [hL] at h
  have := World.ownsRow.cellAt h j (by omega)
  rw [this]
  simp [List.getElem?_eq_getElem (show j < L.length by omega)]
theorem OwnI.frozenAt (h : OwnI w base (.slice (some ⟨g, 0, none⟩) N cap) L) (hL : L.length = N) (j : Nat) : w.frozen? ⟨g, j, none⟩ = false := by
  unfold OwnI at h
  rw [hL] at h
  exact World.ownsRow.frozenAt h j
theorem OwnI.put (h : OwnI w base (.slice (some ⟨g, 0, none⟩) N cap) L) (hL : L.length = N) (j : Nat) (hj : j < N) (z : Int) : OwnI (w.setCell ⟨g, j, none⟩ (.int .i64 z)) base (.slice (some ⟨g, 0, none⟩) N cap) (L.set j z) := by
  unfold OwnI at h ⊢
  rw [hL] at h
  rw [List.length_set, hL, List.map_set]
  exact (World.ownsRow.stored h j (.int .i64 z)).1
theorem OwnI.pre (h : OwnI w base (.slice (some ⟨g, 0, none⟩) N cap) L) (n : Nat) (hn : n ≤ N) (hL : L.length = N) : OwnI w base (.slice (some ⟨g, 0, none⟩) n cap) (L.take n) := by
  obtain ⟨h1, h2⟩ := h
  have hlen : (L.take n).length = n := by rw [List.length_take]; omega
  unfold OwnI
  rw [hlen]
  refine ⟨by rw [List.length_map, hlen]; omega, ?_⟩
  rcases h2 with ⟨e, _⟩ | ⟨g2, cap2, cur, e, hg, hh, hnc, hcm, hcs, hx⟩
  · cases e
  · injection e with e1 e2 e3
    injection e1 with e1
    injection e1 with e1 _ _
    subst e1 e3
    refine .inr ⟨g, cap, cur, rfl, hg, hh, by omega, hcm, hcs, ?_⟩
    rw [List.map_take, ← hx, List.take_take]
    congr 1
    omega
end


theorem OwnI.heap_ {w : World} {base g n cap : Nat} {L : List Int} (h : OwnI w base (.slice (some ⟨g, 0, none⟩) n cap) L) : ∃ cur, Blk w g 3 cur ∧ base ≤ g ∧ n ≤ cap ∧ n = L.length := by
  rcases h.2 with ⟨e, _⟩ | ⟨g2, cap2, cur, e, hg, hh, hnc, hcm, hcs, hx⟩
  · cases e
  · injection e with e1 e2 e3
    injection e1 with e1
    injection e1 with e1 _ _
    subst e1 e3
    exact ⟨cur, hh, hg, by omega, e2⟩

theorem Blk.differ {w : World} {g g' : Nat} {t t' : TypeId} {c c' : Array Value} (h : Blk w g t c) (h' : Blk w g' t' c') (ht : t ≠ t') : g ≠ g' := by
  intro e
  subst e
  unfold Blk at h h'
  rw [h] at h'
  injection h' with h'
  injection h' with _ h2
  exact ht h2


/-- append of one int to a row of the call's own, as one step -/
theorem append_int1 {P : Program} (hu : P.underlying 31 = some (.slice 3)) (hinf : (P.info? 3).map (fun i => (i.zero, i.size, i.bytes)) = some (some (.int .i64 0), 1, 8)) (w : World) {ops : Array Oper} {rest : List Oper} {o : Oper} {a : Act} {Q : Exit → Act → World → Prop} (hgd : o.guard = none) (s x : Operand)
    (ho : o.op = .call { callee := .builtin .append, args := #[s, x], argTypes := #[31, 31] })
    (base : Nat) (v : Value) (L : List Int) (hs : a.eval s = v) (hown : OwnI w base v L) (g c : Nat) (z : Int) (hx : a.eval x = .slice (some ⟨g, 0, none⟩) 1 c) (hc : w.cell? ⟨g, 0, none⟩ = some (.int .i64 z))
    (hlen : L.length + 1 ≤ 1099511627776) (hbase : base ≤ w.heap.size)
    (h : ∀ v' w', OwnI w' base v' (L ++ [z]) → Keep w w' v v' L.length 1 → wpList P ops Q rest (a.put o.dst v') w') : wpList P ops Q (o :: rest) a w := by
  obtain ⟨i0, hi, hz0, hz1, hz2⟩ := info_parts hinf
  refine wpList_plain hgd fun K hK => ?_
  obtain ⟨v', w', hr, h2, h3⟩ := run_append_keep (P := P) w base 31 o.type 3 i0 (.int .i64 0) 1 8 hu hi hz0 hz1 hz2 rfl (by decide) v L.length _ hown ⟨g, 0, none⟩ 1 c [.int .i64 z] rfl
    (by intro j u hj
        match j, hj with
        | 0, hj => simp at hj; subst hj; simpa [Addr.add] using hc) (by simp [Value.oneCell']) (by unfold maxLen; omega) (by omega) hbase (by decide)
  unfold Oper.wp execOp
  simp only [ho, resolve, invoke, builtin, Sem.run_bind, Sem.run_pure, Result.andThen_ok, List.map_toArray, List.map_cons, List.map_nil, hs, hx, hr]
  refine hK _ _ (h v' w' ?_ h3)
  unfold OwnI
  rw [List.length_append, List.map_append]
  exact h2

theorem OwnI.any {w : World} {base : Nat} {v : Value} {L : List Int} (h : OwnI w base v L) : ∃ A n c, v = .slice A n c := by
  obtain ⟨A, c, e, -⟩ := h.form
  exact ⟨A, _, c, e⟩

theorem Keep.cell_ {w w' : World} {v v' : Value} {n m : Nat} (h : Keep w w' v v' n m) {p : Addr} (hp : p.block < w.heap.size) (hne : v.ownBlock ≠ some p.block) : w'.cell? p = w.cell? p := by
  rcases h with ⟨g, cap, rfl, rfl, hg⟩ | ⟨hob, hg⟩
  · exact World.cell?_of_block (hg.block p.block hp (fun e => hne e.symm))
  · exact World.cell?_of_block (hg.block p.block hp (fun e => by cases e))

theorem cell_new0 (w : World) (x : Value) (t : TypeId) : (w.alloc (.cells #[x] t)).cell? ⟨w.heap.size, 0, none⟩ = some x := by
  simp
theorem cell_new1 (w : World) (p : Addr) (u x : Value) (t : TypeId) : ((w.setCell p u).alloc (.cells #[x] t)).cell? ⟨w.heap.size, 0, none⟩ = some x := by
  have h := cell_new0 (w.setCell p u) x t
  have e : (w.setCell p u).heap.size = w.heap.size := by simp [World.setCell]
  rw [e] at h
  exact h

end Go.Proofs.Ytkfcfoidaalnlaa
