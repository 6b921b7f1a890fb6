/- The book while it writes: the state, and its steps. -/
import Derived.Test.YtkfcfoidaalnlaaBkC
namespace Go.Proofs.Ytkfcfoidaalnlaa.Bk
open Go.ChangeShapes Go.WideShapes Go.ChangeAt Go.RowKit
open Bits HM
set_option linter.unusedVariables false
set_option linter.unusedSimpArgs false

/-- append of one slice to a list of slices of the call's own, as one step -/
theorem append_list1 {P : Program} (hu : P.underlying 30 = some (.slice 22)) (hinf : (P.info? 22).map (fun i => (i.zero, i.size, i.bytes)) = some (some (.slice none 0 0), 1, 24)) (w : World) {ops : Array Oper} {rest : List Oper} {o : Oper} {a : Act} {Q : Exit → Act → World → Prop} (hgd : o.guard = none) (s x : Operand)
    (ho : o.op = .call { callee := .builtin .append, args := #[s, x], argTypes := #[30, 30] })
    (base : Nat) (v : Value) (L : List Value) (hs : a.eval s = v) (hown : OwnS w base v L) (g c : Nat) (z : Value) (hz : z.oneCell' = true) (hx : a.eval x = .slice (some ⟨g, 0, none⟩) 1 c) (hc : w.cell? ⟨g, 0, none⟩ = some z)
    (hlen : L.length + 1 ≤ 1099511627776) (hbase : base ≤ w.heap.size)
    (h : ∀ v' w', OwnS w' base v' (L ++ [z]) → Keep w w' v v' L.length 1 → wpList P ops Q rest (a.put o.dst v') w') : wpList P ops Q (o :: rest) a w := by
  obtain ⟨i0, hi, hz0, hz1, hz2⟩ := info_parts hinf
  refine wpList_plain hgd fun K hK => ?_
  obtain ⟨v', w', hr, h2, h3⟩ := run_append_keep (P := P) w base 30 o.type 22 i0 (.slice none 0 0) 1 24 hu hi hz0 hz1 hz2 rfl (by decide) v L.length _ hown ⟨g, 0, none⟩ 1 c [z] rfl
    (by intro j u hj
        match j, hj with
        | 0, hj => simp at hj; subst hj; simpa [Addr.add] using hc) (by simpa using hz) (by unfold maxLen; omega) (by omega) hbase (by decide)
  unfold Oper.wp execOp
  simp only [ho, resolve, invoke, builtin, Sem.run_bind, Sem.run_pure, Result.andThen_ok, List.map_toArray, List.map_cons, List.map_nil, hs, hx, hr]
  refine hK _ _ (h v' w' ?_ h3)
  unfold OwnS
  rw [List.length_append]
  exact h2
theorem OwnS.lt {w : World} {base : Nat} {v : Value} {L : List Value} (h : OwnS w base v L) {b : Nat} (hb : v.ownBlock = some b) : base ≤ b ∧ b < w.heap.size := World.ownsRow.lt h b hb

/-- row a -/
def nth (F : List (Value × List Int)) (a : Nat) : Value × List Int := F[a]?.getD (undef, [])
theorem nth_mem {F : List (Value × List Int)} {a : Nat} (h : a < F.length) : nth F a ∈ F := by simp [nth, List.getElem?_eq_getElem h]
theorem nth_set {F : List (Value × List Int)} {a b : Nat} {x : Value × List Int} (h : a < F.length) : nth (F.set a x) b = if b = a then x else nth F b := by
  unfold nth
  by_cases e : b = a
  · subst e
    rw [if_pos rfl, List.getElem?_set, if_pos rfl, if_pos h]
    rfl
  · rw [if_neg e, List.getElem?_set, if_neg (fun x => e x.symm)]
theorem nth_left {F K : List (Value × List Int)} {a : Nat} (h : a < F.length) : nth (F ++ K) a = nth F a := by
  unfold nth; rw [List.getElem?_append_left h]
theorem nth_last {F : List (Value × List Int)} {x : Value × List Int} : nth (F ++ [x]) F.length = x := by
  unfold nth; simp
theorem mem_nth {F : List (Value × List Int)} {x : Value × List Int} (h : x ∈ F) : ∃ a, a < F.length ∧ nth F a = x := by
  obtain ⟨a, ha, e⟩ := List.getElem_of_mem h
  exact ⟨a, ha, by unfold nth; rw [List.getElem?_eq_getElem ha, e]; rfl⟩

/-- the book while it writes -/
structure Wr (Z : Nat → Prop) (W0 : World) (b0 G : Nat) (cnt tot : Int) (fv wv kv fr : Value) (F K : List (Value × List Int)) (R : List Int) (i : Nat) (w : World) : Prop where
  below : Below b0 W0 w
  z : Zs Z W0 G fv wv kv fr F K w
  gb : b0 ≤ G
  blk : Blk w G 33 #[.int .i64 cnt, .int .i64 tot, fv, wv, kv, fr, .bool false]
  f : OwnS w b0 fv (F.map (·.1))
  k : OwnS w b0 kv (K.map (·.1))
  from_ : OwnI w b0 fr R
  fd : ∀ a, a < F.length → OwnB w b0 (nth F a).1 (nth F a).2
  kd : ∀ x ∈ K, OwnB w b0 x.1 x.2
  kl : R.length ≤ K.length
  km : ∀ a, a < R.length → (nth K a).2 = marksB (R[a]?.getD 0) (nth K a).2.length
  tb : 0 ≤ tot ∧ tot ≤ 1099511627776
  cb : 0 ≤ cnt ∧ cnt ≤ 1048576
  nb : F.length ≤ 3 ∧ K.length ≤ 1048576
  rb : ∀ a, a < R.length → 0 ≤ R[a]?.getD 0 ∧ R[a]?.getD 0 ≤ 1048576
  fb : ∀ a, a < F.length → (nth F a).2.length ≤ 1048576
  kb : ∀ x ∈ K, x.2.length ≤ 2097152
  s1 : ∀ b, fv.ownBlock = some b → kv.ownBlock ≠ some b
  s3 : ∀ b, fr.ownBlock = some b → (∀ a, a < F.length → (nth F a).1.ownBlock ≠ some b) ∧ (∀ x ∈ K, x.1.ownBlock ≠ some b)
  s4 : ∀ b a, i ≤ a → a < F.length → (nth F a).1.ownBlock = some b → ∀ y ∈ K, y.1.ownBlock ≠ some b
  s5 : ∀ a c b, a < F.length → c < F.length → a ≠ c → (nth F a).1.ownBlock = some b → (nth F c).1.ownBlock ≠ some b

theorem Led.wr {Z : Nat → Prop} {W0 : World} {b0 G : Nat} {cnt tot : Int} {fv wv kv fr : Value} {F : List (Value × List Int)} {Ws : List Value} {K : List (Value × List Int)} {R : List Int} {w : World}
    (h : Led Z W0 b0 G cnt tot fv wv kv fr F Ws K R w) : Wr Z W0 b0 G cnt tot fv wv kv fr F K R 0 w :=
  ⟨h.below, h.z, h.gb, h.blk, h.f, h.k, h.from_, fun a ha => h.fd _ (nth_mem ha), h.kd, Nat.le_of_eq h.kl, fun a ha => h.km a (by have := h.kl; omega), h.tb, h.cb, h.nb, h.rb, fun a ha => h.lb.1 _ (nth_mem ha), h.lb.2,
    fun b hb => (h.s1 b hb).2, fun b hb => ⟨fun a ha => (h.s3 b hb).1 _ (nth_mem ha), (h.s3 b hb).2⟩, fun b a _ ha hb => h.s4 b _ (nth_mem ha) hb,
    fun a c b ha hc hne hb => by
      rcases Nat.lt_or_gt_of_ne hne with h1 | h1
      · exact h.s5 a c b h1 hc hb
      · intro h2
        exact h.s5 c a b h1 ha h2 hb⟩

section
variable {Z : Nat → Prop} {W0 : World} {b0 G : Nat} {cnt tot : Int} {fv wv kv fr : Value} {F K : List (Value × List Int)} {R : List Int} {i : Nat} {w : World}
theorem OwnS.heap_ {base g n cap : Nat} {L : List Value} (h : OwnS w base (.slice (some ⟨g, 0, none⟩) n cap) L) : ∃ cur, Blk w g 22 cur ∧ base ≤ g ∧ n ≤ cap ∧ n = L.length := by
  rcases h.2 with ⟨e, _⟩ | ⟨g2, cap2, cur, e, hg, hh, hnc, hcm, hcs, hx⟩
  · cases e
  · injection e with e1 e2 e3
    injection e1 with e1
    injection e1 with e1 _ _
    subst e1 e3
    exact ⟨cur, hh, hg, by omega, e2⟩
/-- what is there stays where only new memory is made -/
theorem Wr.past (h : Wr Z W0 b0 G cnt tot fv wv kv fr F K R i w) {w' : World} (hb : Below w.heap.size w w') (hb0 : Below b0 W0 w') : Wr Z W0 b0 G cnt tot fv wv kv fr F K R i w' := by
  have hI := StabI.below hb
  have hS := StabS.below hb
  have hlt : G < w.heap.size := lt_of_block h.blk
  exact { h with
    below := hb0
    z := h.z.below hb
    blk := (hb.block G hlt).trans h.blk
    f := h.f.stab hS (by simp), k := h.k.stab hS (by simp), from_ := h.from_.stab hI (by simp)
    fd := fun a ha => (h.fd a ha).stab hI (by simp), kd := fun x hx => (h.kd x hx).stab hI (by simp) }
theorem Wr.b0lt (h : Wr Z W0 b0 G cnt tot fv wv kv fr F K R i w) : b0 ≤ w.heap.size := Nat.le_of_lt (Nat.lt_of_le_of_lt h.gb (lt_of_block h.blk))
theorem Wr.alloc (h : Wr Z W0 b0 G cnt tot fv wv kv fr F K R i w) (o : Obj) : Wr Z W0 b0 G cnt tot fv wv kv fr F K R i (w.alloc o) :=
  h.past ((Below.refl _ _).alloc (Nat.le_refl _) o) (h.below.alloc h.b0lt o)

/-- one place of a row is written over -/
theorem Wr.over (h : Wr Z W0 b0 G cnt tot fv wv kv fr F K R 0 w) (a : Nat) (ha : a < F.length) (g n cap : Nat) (L : List Int) (hx : nth F a = (.slice (some ⟨g, 0, none⟩) n cap, L)) (j : Nat) (hj : j < n) (x : Int) :
    Wr Z W0 b0 G cnt tot fv wv kv fr (F.set a (.slice (some ⟨g, 0, none⟩) n cap, L.set j x)) K R 0 (w.setCell ⟨g, j, none⟩ (.int .u8 x)) := by
  have hrow := h.fd a ha
  rw [hx] at hrow
  obtain ⟨cur, hbl, hbg, hnc, hnl⟩ := hrow.heap_
  have hI : StabI (some g) w (w.setCell ⟨g, j, none⟩ (.int .u8 x)) := ⟨by simp [World.setCell], fun b cs t fr _ hb hne => Below.heap_setCell w ⟨g, j, none⟩ _ b (fun e => hne (by rw [e]))⟩
  have hS : StabS none w (w.setCell ⟨g, j, none⟩ (.int .u8 x)) := StabS.setCell hbl (by decide) j _
  have hob : (nth F a).1.ownBlock = some g := by rw [hx]; rfl
  have hfst : (F.set a (.slice (some ⟨g, 0, none⟩) n cap, L.set j x)).map (·.1) = F.map (·.1) := by
    rw [List.map_set]
    have e : (F.map (·.1))[a]? = some (.slice (some ⟨g, 0, none⟩) n cap) := by
      have := hx
      unfold nth at this
      rw [List.getElem?_eq_getElem ha] at this
      rw [List.getElem?_map, List.getElem?_eq_getElem ha]
      simp only [Option.getD_some] at this
      simp [this]
    refine List.ext_getElem? fun c => ?_
    rw [List.getElem?_set]
    by_cases ec : a = c
    · subst ec
      rw [if_pos rfl, if_pos (by simpa using ha), e]
    · rw [if_neg ec]
  have hn1 : ∀ c, (nth (F.set a (.slice (some ⟨g, 0, none⟩) n cap, L.set j x)) c).1 = (nth F c).1 := fun c => by
    rw [nth_set ha]
    split
    · subst_vars; rw [hx]
    · rfl
  have hnz : ¬ Z g := h.z.fd _ (nth_mem ha) g hob
  refine ⟨h.below.setCell hbg _, { h.z.setCell hnz j (.int .u8 x) with fd := fun y hy b hb => ?_ }, h.gb, h.blk.far (p := ⟨g, j, none⟩) (h.blk.differ hbl (by decide)) _, ?_, h.k.stab hS (by simp), h.from_.stab hI ?_, ?_, ?_, h.kl, h.km, h.tb, h.cb, ?_, h.rb, ?_, h.kb, h.s1, ?_, ?_, ?_⟩
  · obtain ⟨c, hc, e⟩ := mem_nth hy
    rw [List.length_set] at hc
    rw [← e, hn1] at hb
    exact h.z.fd _ (nth_mem hc) b hb
  · rw [hfst]; exact h.f.stab hS (by simp)
  · intro b hb e
    injection e with e
    subst e
    exact (h.s3 b hb).1 a ha hob
  · intro c hc
    rw [List.length_set] at hc
    rw [nth_set ha]
    by_cases ec : c = a
    · rw [if_pos ec]
      exact hrow.put hnl.symm j hj x
    · rw [if_neg ec]
      refine (h.fd c hc).stab hI fun b hb e => ?_
      injection e with e
      subst e
      exact h.s5 a c b ha hc (fun e => ec e.symm) hob hb
  · intro y hy
    refine (h.kd y hy).stab hI fun b hb e => ?_
    injection e with e
    subst e
    exact h.s4 b a (Nat.zero_le _) ha hob y hy hb
  · rw [List.length_set]; exact h.nb
  · intro c hc
    rw [List.length_set] at hc
    rw [nth_set ha]
    split
    · subst_vars
      have := h.fb _ ha
      rw [hx] at this
      simpa using this
    · exact h.fb c hc
  · intro b hb
    rw [List.length_set]
    exact ⟨fun c hc => by rw [hn1]; exact (h.s3 b hb).1 c hc, (h.s3 b hb).2⟩
  · intro b c h0 hc
    rw [List.length_set] at hc
    rw [hn1]
    exact h.s4 b c h0 hc
  · intro c d b hc hd
    rw [List.length_set] at hc hd
    rw [hn1, hn1]
    exact h.s5 c d b hc hd
end
end Go.Proofs.Ytkfcfoidaalnlaa.Bk
