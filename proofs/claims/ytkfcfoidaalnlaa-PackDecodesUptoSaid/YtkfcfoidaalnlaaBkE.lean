/- The book while it writes: steps. -/
import Derived.Test.YtkfcfoidaalnlaaBkD
namespace Go.Proofs.Ytkfcfoidaalnlaa.Bk
open Go.ChangeShapes Go.WideShapes Go.ChangeAt Go.RowKit
open Bits HM
set_option linter.unusedVariables false
set_option linter.unusedSimpArgs false

/-- a row that grows -/
structure Tm (Z : Nat → Prop) (b0 : Nat) (fr : Value) (F K : List (Value × List Int)) (i : Nat) (t : Value) (m : Nat) (L : List Int) (w : World) : Prop where
  own : OwnB w b0 t L
  len : L.length = m
  z : ∀ b, t.ownBlock = some b → ¬ Z b
  rel : (∃ g n cap, (nth F i).1 = .slice (some ⟨g, 0, none⟩) n cap ∧ t = .slice (some ⟨g, 0, none⟩) m cap ∧ n ≤ m ∧ L.take n = (nth F i).2) ∨
    (∀ b, t.ownBlock = some b → (∀ a, a < F.length → (nth F a).1.ownBlock ≠ some b) ∧ (∀ y ∈ K, y.1.ownBlock ≠ some b) ∧ fr.ownBlock ≠ some b)

section
variable {Z : Nat → Prop} {W0 : World} {b0 G : Nat} {cnt tot : Int} {fv wv kv fr : Value} {F K : List (Value × List Int)} {R : List Int} {i : Nat} {w : World}
theorem Wr.tm (h : Wr Z W0 b0 G cnt tot fv wv kv fr F K R i w) (hi : i < F.length) : Tm Z b0 fr F K i (nth F i).1 (nth F i).2.length (nth F i).2 w := by
  have hrow := h.fd i hi
  refine ⟨hrow, rfl, h.z.fd _ (nth_mem hi), ?_⟩
  rcases hrow.2 with ⟨e, _⟩ | ⟨g, cap, cur, e, hg, hh, hnc, hcm, hcs, hx⟩
  · refine .inr fun b hb => ?_
    rw [e] at hb
    cases hb
  · exact .inl ⟨g, _, cap, e, e, Nat.le_refl _, List.take_length⟩

theorem Tm.alloc {t : Value} {m : Nat} {L : List Int} (ht : Tm Z b0 fr F K i t m L w) (h : Wr Z W0 b0 G cnt tot fv wv kv fr F K R i w) (o : Obj) : Tm Z b0 fr F K i t m L (w.alloc o) :=
  { ht with own := ht.own.stab (StabI.below ((Below.refl _ _).alloc (Nat.le_refl _) o)) (by simp) }
theorem Tm.form {t : Value} {m : Nat} {L : List Int} (ht : Tm Z b0 fr F K i t m L w) : ∃ A c, t = .slice A m c := by
  obtain ⟨A, c, e, -⟩ := ht.own.form
  exact ⟨A, c, by rw [e, ht.len]⟩
/-- a row that grows, by one -/
theorem Wr.grow (h : Wr Z W0 b0 G cnt tot fv wv kv fr F K R i w) (hi : i < F.length) {t : Value} {m : Nat} {L : List Int} (ht : Tm Z b0 fr F K i t m L w) {t' : Value} {z : Int} {w' : World}
    (hk : Keep w w' t t' m 1) (hown : OwnB w' b0 t' (L ++ [z])) : Wr Z W0 b0 G cnt tot fv wv kv fr F K R i w' ∧ Tm Z b0 fr F K i t' (m + 1) (L ++ [z]) w' := by
  have hlt : G < w.heap.size := lt_of_block h.blk
  obtain ⟨hzz, hzt⟩ := h.z.grown hk ht.z
  rcases hk with ⟨g, cap, rfl, rfl, hg⟩ | ⟨hob, hg⟩
  · obtain ⟨cur, hbl, hbg, hmc, hml⟩ := ht.own.heap_
    have hI : StabI (some g) w w' := StabI.grown hg
    have hS : StabS none w w' := StabS.grownR ht.own rfl hg
    have hGg : G ≠ g := h.blk.differ hbl (by decide)
    have hne : ∀ b, some b = some g → b = g := fun b e => by injection e
    have hfr : fr.ownBlock ≠ some g := by
      rcases ht.rel with ⟨g2, n, cap2, e1, e2, hn, hL⟩ | hr
      · injection e2 with e2 _ _
        injection e2 with e2
        injection e2 with e2 _ _
        subst e2
        intro e
        exact (h.s3 _ e).1 i hi (by rw [e1]; rfl)
      · exact (hr g rfl).2.2
    have hK : ∀ y ∈ K, y.1.ownBlock ≠ some g := by
      rcases ht.rel with ⟨g2, n, cap2, e1, e2, hn, hL⟩ | hr
      · injection e2 with e2 _ _
        injection e2 with e2
        injection e2 with e2 _ _
        subst e2
        exact h.s4 _ i (Nat.le_refl _) hi (by rw [e1]; rfl)
      · exact (hr g rfl).2.1
    have hF : ∀ a, a < F.length → a ≠ i → (nth F a).1.ownBlock ≠ some g := by
      rcases ht.rel with ⟨g2, n, cap2, e1, e2, hn, hL⟩ | hr
      · injection e2 with e2 _ _
        injection e2 with e2
        injection e2 with e2 _ _
        subst e2
        intro a ha hai
        exact h.s5 i a _ hi ha (fun e => hai e.symm) (by rw [e1]; rfl)
      · intro a ha _
        exact (hr g rfl).1 a ha
    have hFi : OwnB w' b0 (nth F i).1 (nth F i).2 := by
      rcases ht.rel with ⟨g2, n, cap2, e1, e2, hn, hL⟩ | hr
      · injection e2 with e2 _ e3
        injection e2 with e2
        injection e2 with e2 _ _
        subst e2 e3
        have := hown.pre n (by omega) (by rw [List.length_append, ht.len]; rfl)
        rw [List.take_append_of_le_length (by rw [ht.len]; exact hn), hL] at this
        rw [e1]
        exact this
      · exact (h.fd i hi).stab hI fun b hb e => (hr g rfl).1 i hi (by rw [hb, e])
    refine ⟨{ h with below := h.below.grown hg h.b0lt (fun k hk => by injection hk with hk; omega)
                     z := hzz
                     blk := (hg.block G hlt (fun e => hGg (by injection e))).trans h.blk
                     f := h.f.stab hS (by simp), k := h.k.stab hS (by simp), from_ := h.from_.stab hI fun b hb e => hfr (by rw [hb, e])
                     fd := fun a ha => ?_, kd := fun x hx => (h.kd x hx).stab hI fun b hb e => hK x hx (by rw [hb, e]) }, hown, by rw [List.length_append, ht.len]; rfl, hzt, ?_⟩
    · by_cases ea : a = i
      · subst ea; exact hFi
      · exact (h.fd a ha).stab hI fun b hb e => hF a ha ea (by rw [hb, e])
    · rcases ht.rel with ⟨g2, n, cap2, e1, e2, hn, hL⟩ | hr
      · injection e2 with e2 _ e3
        injection e2 with e2
        injection e2 with e2 _ _
        subst e2 e3
        exact .inl ⟨_, n, _, e1, rfl, by omega, by rw [List.take_append_of_le_length (by rw [ht.len]; exact hn), hL]⟩
      · exact .inr hr
  · have hb : Below w.heap.size w w' := (Below.refl _ _).grown hg (Nat.le_refl _) (fun k hk => by cases hk)
    refine ⟨h.past hb (h.below.grown hg h.b0lt (fun k hk => by cases hk)), hown, by rw [List.length_append, ht.len]; rfl, hzt, .inr fun b hb => ?_⟩
    rw [hob] at hb
    injection hb with hb
    subst hb
    exact ⟨fun a ha e => Nat.lt_irrefl _ ((h.fd a ha).lt e).2, fun y hy e => Nat.lt_irrefl _ ((h.kd y hy).lt e).2, fun e => Nat.lt_irrefl _ (h.from_.lt e).2⟩

/-- a row is kept -/
theorem Wr.keep (h : Wr Z W0 b0 G cnt tot fv wv kv fr F K R i w) {t : Value} {L : List Int} (ht : OwnB w b0 t L) (htz : ∀ b, t.ownBlock = some b → ¬ Z b) (hL : L.length ≤ 2097152) (hK : K.length + 1 ≤ 1048576) {i' : Nat} (hi : i ≤ i')
    (h3 : ∀ b, fr.ownBlock = some b → t.ownBlock ≠ some b) (h4 : ∀ b a, i' ≤ a → a < F.length → (nth F a).1.ownBlock = some b → t.ownBlock ≠ some b) {kv' : Value} {w' : World}
    (hk : Keep w w' kv kv' K.length 1) (hown : OwnS w' b0 kv' (K.map (·.1) ++ [t])) :
    Wr Z W0 b0 G cnt tot fv wv kv' fr F (K ++ [(t, L)]) R i' (w'.setCell ⟨G, 4, none⟩ kv') := by
  have hlt : G < w.heap.size := lt_of_block h.blk
  obtain ⟨hzz, hzk⟩ := h.z.grown hk h.z.k
  have key : ∃ x, StabI none w w' ∧ StabS x w w' ∧ (∀ b, some b = x → fv.ownBlock ≠ some b) ∧ Blk w' G 33 #[.int .i64 cnt, .int .i64 tot, fv, wv, kv, fr, .bool false] ∧ Below b0 W0 w' ∧ (∀ b, fv.ownBlock = some b → kv'.ownBlock ≠ some b) := by
    rcases hk with ⟨g, cap, rfl, rfl, hg⟩ | ⟨hob, hg⟩
    · have hk0 := h.k
      have hl : (K.map (·.1)).length = K.length := List.length_map ..
      obtain ⟨cur, hbl, hbg, hmc, hml⟩ := hk0.heap_
      have hGg : G ≠ g := h.blk.differ hbl (by decide)
      refine ⟨some g, hk0.grownI hg, hk0.grownS hg, fun b e e2 => ?_, (hg.block G hlt (fun e => hGg (by injection e))).trans h.blk, h.below.grown hg h.b0lt (fun k hk => by injection hk with hk; omega), h.s1⟩
      injection e with e
      subst e
      exact h.s1 _ e2 rfl
    · have hb : Below w.heap.size w w' := (Below.refl _ _).grown hg (Nat.le_refl _) (fun k hk => by cases hk)
      refine ⟨none, StabI.below hb, StabS.below hb, fun b e => (by cases e), (hb.block G hlt).trans h.blk, h.below.grown hg h.b0lt (fun k hk => by cases hk), fun b e e2 => ?_⟩
      rw [hob] at e2
      injection e2 with e2
      subst e2
      exact Nat.lt_irrefl _ (h.f.lt e).2
  obtain ⟨x, hI, hS, hx, hB, hbel, hs1⟩ := key
  have hI2 : StabI none w' (w'.setCell ⟨G, 4, none⟩ kv') := StabI.setCell hB (by decide) 4 _
  have hS2 : StabS none w' (w'.setCell ⟨G, 4, none⟩ kv') := StabS.setCell hB (by decide) 4 _
  have hII := hI.trans hI2
  refine ⟨hbel.setCell h.gb _, { hzz.setCell hzz.g 4 kv' with k := hzk, kd := fun y hy b hb => ?_ }, h.gb, hB.set_ 4 kv', ?_, ?_, h.from_.stab hII (by simp), fun a ha => (h.fd a ha).stab hII (by simp), ?_, ?_, ?_, h.tb, h.cb, ?_, h.rb, h.fb, ?_, hs1, ?_, ?_, h.s5⟩
  · rcases List.mem_append.1 hy with hy | hy
    · exact hzz.kd y hy b hb
    · rw [List.mem_singleton] at hy
      subst hy
      exact htz b hb
  · exact (h.f.stab hS fun b hb e => hx b e hb).stab hS2 (by simp)
  · rw [List.map_append]
    exact hown.stab hS2 (by simp)
  · intro y hy
    rcases List.mem_append.1 hy with hy | hy
    · exact (h.kd y hy).stab hII (by simp)
    · rw [List.mem_singleton] at hy
      subst hy
      exact ht.stab hII (by simp)
  · rw [List.length_append]; have := h.kl; omega
  · intro a ha
    rw [nth_left (by have := h.kl; omega)]
    exact h.km a ha
  · rw [List.length_append]; exact ⟨h.nb.1, hK⟩
  · intro y hy
    rcases List.mem_append.1 hy with hy | hy
    · exact h.kb y hy
    · rw [List.mem_singleton] at hy
      subst hy
      exact hL
  · intro b hb
    refine ⟨(h.s3 b hb).1, fun y hy => ?_⟩
    rcases List.mem_append.1 hy with hy | hy
    · exact (h.s3 b hb).2 y hy
    · rw [List.mem_singleton] at hy
      subst hy
      exact h3 b hb
  · intro b a h0 ha hb y hy
    rcases List.mem_append.1 hy with hy | hy
    · exact h.s4 b a (Nat.le_trans hi h0) ha hb y hy
    · rw [List.mem_singleton] at hy
      subst hy
      exact h4 b a h0 ha hb

/-- its number is kept -/
theorem Wr.num (h : Wr Z W0 b0 G cnt tot fv wv kv fr F K R i w) (hl : R.length < K.length) {f : Int} (hm : (nth K R.length).2 = marksB f (nth K R.length).2.length) (hf : 0 ≤ f ∧ f ≤ 1048576) {fr' : Value} {w' : World}
    (hk : Keep w w' fr fr' R.length 1) (hown : OwnI w' b0 fr' (R ++ [f])) : Wr Z W0 b0 G cnt tot fv wv kv fr' F K (R ++ [f]) i (w'.setCell ⟨G, 5, none⟩ fr') := by
  have hlt : G < w.heap.size := lt_of_block h.blk
  obtain ⟨hzz, hzk⟩ := h.z.grown hk h.z.r
  have key : ∃ x, StabI x w w' ∧ StabS none w w' ∧ (∀ b, some b = x → (∀ a, a < F.length → (nth F a).1.ownBlock ≠ some b) ∧ (∀ x ∈ K, x.1.ownBlock ≠ some b)) ∧ Blk w' G 33 #[.int .i64 cnt, .int .i64 tot, fv, wv, kv, fr, .bool false] ∧ Below b0 W0 w' ∧
      (∀ b, fr'.ownBlock = some b → (∀ a, a < F.length → (nth F a).1.ownBlock ≠ some b) ∧ (∀ x ∈ K, x.1.ownBlock ≠ some b)) := by
    rcases hk with ⟨g, cap, rfl, rfl, hg⟩ | ⟨hob, hg⟩
    · have hk0 := h.from_
      obtain ⟨cur, hbl, hbg, hmc, hml⟩ := hk0.heap_
      have hGg : G ≠ g := h.blk.differ hbl (by decide)
      refine ⟨some g, StabI.grownI hk0 hg, StabS.grownI hk0 hg, fun b e => ?_, (hg.block G hlt (fun e => hGg (by injection e))).trans h.blk, h.below.grown hg h.b0lt (fun k hk => by injection hk with hk; omega), h.s3⟩
      injection e with e
      subst e
      exact h.s3 _ rfl
    · have hb : Below w.heap.size w w' := (Below.refl _ _).grown hg (Nat.le_refl _) (fun k hk => by cases hk)
      refine ⟨none, StabI.below hb, StabS.below hb, fun b e => (by cases e), (hb.block G hlt).trans h.blk, h.below.grown hg h.b0lt (fun k hk => by cases hk), fun b e2 => ?_⟩
      rw [hob] at e2
      injection e2 with e2
      subst e2
      exact ⟨fun a ha e => Nat.lt_irrefl _ ((h.fd a ha).lt e).2, fun y hy e => Nat.lt_irrefl _ ((h.kd y hy).lt e).2⟩
  obtain ⟨x, hI, hS, hx, hB, hbel, hs3⟩ := key
  have hI2 : ∀ y, StabI y w' (w'.setCell ⟨G, 5, none⟩ fr') := fun y => (StabI.setCell hB (by decide) 5 _).none_any y
  have hS2 : StabS none w' (w'.setCell ⟨G, 5, none⟩ fr') := StabS.setCell hB (by decide) 5 _
  have hII := hI.trans (hI2 x)
  refine ⟨hbel.setCell h.gb _, { hzz.setCell hzz.g 5 fr' with r := hzk }, h.gb, hB.set_ 5 fr', (h.f.stab hS (by simp)).stab hS2 (by simp), (h.k.stab hS (by simp)).stab hS2 (by simp), hown.stab (hI2 none) (by simp), fun a ha => (h.fd a ha).stab hII fun b hb e => (hx b e).1 a ha hb,
    fun y hy => (h.kd y hy).stab hII fun b hb e => (hx b e).2 y hy hb, ?_, ?_, h.tb, h.cb, h.nb, ?_, h.fb, h.kb, h.s1, hs3, h.s4, h.s5⟩
  · rw [List.length_append]; exact hl
  · intro a ha
    rw [List.length_append, List.length_singleton] at ha
    by_cases ea : a = R.length
    · subst ea
      rw [List.getElem?_append_right (Nat.le_refl _), Nat.sub_self]
      exact hm
    · rw [List.getElem?_append_left (by omega)]
      exact h.km a (by omega)
  · intro a ha
    rw [List.length_append, List.length_singleton] at ha
    by_cases ea : a = R.length
    · subst ea
      rw [List.getElem?_append_right (Nat.le_refl _), Nat.sub_self]
      exact hf
    · rw [List.getElem?_append_left (by omega)]
      exact h.rb a (by omega)
theorem Wr.blkS (h : Wr Z W0 b0 G cnt tot fv wv kv fr F K R i w) {kv' : Value} {w' : World} {n : Nat} (hk : Keep w w' kv kv' n 1) : Blk w' G 33 #[.int .i64 cnt, .int .i64 tot, fv, wv, kv, fr, .bool false] := by
  have hlt : G < w.heap.size := lt_of_block h.blk
  rcases hk with ⟨g, cap, rfl, rfl, hg⟩ | ⟨hob, hg⟩
  · have hk0 := h.k
    rcases hk0.2 with ⟨e, _⟩ | ⟨g2, cap2, cur, e, _, hh, _, _, _, _⟩
    · cases e
    · injection e with e1 e2 e3
      injection e1 with e1
      injection e1 with e1 _ _
      subst e1
      have hGg : G ≠ g := h.blk.differ (show Blk w g 22 cur from hh) (by decide)
      exact (hg.block G hlt (fun e => hGg (by injection e))).trans h.blk
  · exact (hg.block G hlt (by simp)).trans h.blk
theorem Wr.blkI (h : Wr Z W0 b0 G cnt tot fv wv kv fr F K R i w) {fr' : Value} {w' : World} {n : Nat} (hk : Keep w w' fr fr' n 1) : Blk w' G 33 #[.int .i64 cnt, .int .i64 tot, fv, wv, kv, fr, .bool false] := by
  have hlt : G < w.heap.size := lt_of_block h.blk
  rcases hk with ⟨g, cap, rfl, rfl, hg⟩ | ⟨hob, hg⟩
  · have hk0 := h.from_
    rcases hk0.2 with ⟨e, _⟩ | ⟨g2, cap2, cur, e, _, hh, _, _, _, _⟩
    · cases e
    · injection e with e1 e2 e3
      injection e1 with e1
      injection e1 with e1 _ _
      subst e1
      have hGg : G ≠ g := h.blk.differ (show Blk w g 3 cur from hh) (by decide)
      exact (hg.block G hlt (fun e => hGg (by injection e))).trans h.blk
  · exact (hg.block G hlt (by simp)).trans h.blk
/-- what a row that grew may be kept by -/
theorem Tm.apart (h : Wr Z W0 b0 G cnt tot fv wv kv fr F K R i w) (hi : i < F.length) {t : Value} {m : Nat} {L : List Int} (ht : Tm Z b0 fr F K i t m L w) :
    (∀ b, fr.ownBlock = some b → t.ownBlock ≠ some b) ∧ (∀ b a, i + 1 ≤ a → a < F.length → (nth F a).1.ownBlock = some b → t.ownBlock ≠ some b) := by
  rcases ht.rel with ⟨g, n, cap, e1, e2, hn, hL⟩ | hr
  · have ho : (nth F i).1.ownBlock = some g := by rw [e1]; rfl
    refine ⟨fun b hb e => ?_, fun b a h0 ha hb e => ?_⟩
    · rw [e2] at e
      injection e with e
      subst e
      exact (h.s3 _ hb).1 i hi ho
    · rw [e2] at e
      injection e with e
      subst e
      exact h.s5 i a _ hi ha (by omega) ho hb
  · exact ⟨fun b hb e => (hr b e).2.2 hb, fun b a h0 ha hb e => (hr b e).1 a ha hb⟩
end
end Go.Proofs.Ytkfcfoidaalnlaa.Bk
