/- The book: Own, Done. -/
import Derived.Test.YtkfcfoidaalnlaaBkF
namespace Go.Proofs.Ytkfcfoidaalnlaa.Bk
open Go.ChangeShapes Go.WideShapes Go.ChangeAt Go.RowKit
open Bits HM
set_option linter.unusedVariables false
set_option linter.unusedSimpArgs false

/-- the book between two of Own's steps: what is remembered may lag behind -/
structure Lo (Z : Nat → Prop) (W0 : World) (b0 G : Nat) (cnt tot : Int) (fv wv kv fr : Value) (F : List (Value × List Int)) (Ws : List Value) (K : List (Value × List Int)) (R : List Int) (w : World) : Prop where
  below : Below b0 W0 w
  z : Zs Z W0 G fv wv kv fr F K w
  gb : b0 ≤ G
  blk : Blk w G 33 #[.int .i64 cnt, .int .i64 tot, fv, wv, kv, fr, .bool false]
  f : OwnS w b0 fv (F.map (·.1))
  wn : OwnS w b0 wv Ws
  k : OwnS w b0 kv (K.map (·.1))
  from_ : OwnI w b0 fr R
  fd : ∀ x ∈ F, OwnB w b0 x.1 x.2
  wl : Ws.length ≤ F.length
  wd : ∀ i, i < Ws.length → OwnB w b0 (Ws[i]?.getD undef) ((F[i]?.getD (undef, [])).2)
  kl : R.length = K.length
  kd : ∀ x ∈ K, OwnB w b0 x.1 x.2
  km : ∀ i, i < K.length → (K[i]?.getD (undef, [])).2 = marksB (R[i]?.getD 0) (K[i]?.getD (undef, [])).2.length
  tb : 0 ≤ tot ∧ tot ≤ 1099511627776
  cb : 0 ≤ cnt ∧ cnt ≤ 1048576
  nb : F.length ≤ 3 ∧ K.length ≤ 1048576
  rb : ∀ i, i < R.length → 0 ≤ R[i]?.getD 0 ∧ R[i]?.getD 0 ≤ 1048576
  lb : (∀ x ∈ F, x.2.length ≤ 1048576) ∧ (∀ x ∈ K, x.2.length ≤ 2097152)
  s1 : ∀ b, fv.ownBlock = some b → wv.ownBlock ≠ some b ∧ kv.ownBlock ≠ some b
  s2 : ∀ b, wv.ownBlock = some b → kv.ownBlock ≠ some b
  s3 : ∀ b, fr.ownBlock = some b → (∀ x ∈ F, x.1.ownBlock ≠ some b) ∧ (∀ x ∈ K, x.1.ownBlock ≠ some b)
  s4 : ∀ b, ∀ x ∈ F, x.1.ownBlock = some b → ∀ y ∈ K, y.1.ownBlock ≠ some b
  s5 : ∀ i j b, i < j → j < F.length → (F[i]?.getD (undef, [])).1.ownBlock = some b → (F[j]?.getD (undef, [])).1.ownBlock ≠ some b
  wz : ∀ u ∈ Ws, ∀ b, u.ownBlock = some b → ¬ Z b

section
variable {Z : Nat → Prop} {W0 : World} {b0 G : Nat} {cnt tot : Int} {fv wv kv fr : Value} {F : List (Value × List Int)} {Ws : List Value} {K : List (Value × List Int)} {R : List Int} {w : World}
theorem Led.lo (h : Led Z W0 b0 G cnt tot fv wv kv fr F Ws K R w) : Lo Z W0 b0 G cnt tot fv wv kv fr F Ws K R w :=
  ⟨h.below, h.z, h.gb, h.blk, h.f, h.wn, h.k, h.from_, h.fd, Nat.le_of_eq h.wl, fun i hi => h.wd i (by have := h.wl; omega), h.kl, h.kd, h.km, h.tb, h.cb, h.nb, h.rb, h.lb, h.s1, h.s2, h.s3, h.s4, h.s5, h.wz⟩
theorem Lo.led (h : Lo Z W0 b0 G cnt tot fv wv kv fr F Ws K R w) (hl : Ws.length = F.length) : Led Z W0 b0 G cnt tot fv wv kv fr F Ws K R w :=
  ⟨h.below, h.z, h.gb, h.blk, h.f, h.wn, h.k, h.from_, h.fd, hl, fun i hi => h.wd i (by omega), h.kl, h.kd, h.km, h.tb, h.cb, h.nb, h.rb, h.lb, h.s1, h.s2, h.s3, h.s4, h.s5, h.wz⟩
theorem Lo.b0lt (h : Lo Z W0 b0 G cnt tot fv wv kv fr F Ws K R w) : b0 ≤ w.heap.size := Nat.le_of_lt (Nat.lt_of_le_of_lt h.gb (lt_of_block h.blk))
/-- what is there stays where only new memory is made -/
theorem Lo.past (h : Lo Z W0 b0 G cnt tot fv wv kv fr F Ws K R w) {w' : World} (hb : Below w.heap.size w w') : Lo Z W0 b0 G cnt tot fv wv kv fr F Ws K R w' := by
  have hI := StabI.below hb
  have hS := StabS.below hb
  have hlt : G < w.heap.size := lt_of_block h.blk
  exact { h with
    below := h.below.trans (hb.mono h.b0lt)
    z := h.z.below hb
    blk := (hb.block G hlt).trans h.blk
    f := h.f.stab hS (by simp), wn := h.wn.stab hS (by simp), k := h.k.stab hS (by simp), from_ := h.from_.stab hI (by simp)
    fd := fun a ha => (h.fd a ha).stab hI (by simp), wd := fun i hi => (h.wd i hi).stab hI (by simp), kd := fun x hx => (h.kd x hx).stab hI (by simp) }
theorem Led.past (h : Led Z W0 b0 G cnt tot fv wv kv fr F Ws K R w) {w' : World} (hb : Below w.heap.size w w') : Led Z W0 b0 G cnt tot fv wv kv fr F Ws K R w' := (h.lo.past hb).led h.wl
/-- the sum of lengths -/
theorem Lo.sum (h : Lo Z W0 b0 G cnt tot fv wv kv fr F Ws K R w) {t : Int} (ht : 0 ≤ t ∧ t ≤ 1099511627776) : Lo Z W0 b0 G cnt t fv wv kv fr F Ws K R (w.setCell ⟨G, 1, none⟩ (.int .i64 t)) := by
  have hI : StabI none w (w.setCell ⟨G, 1, none⟩ (.int .i64 t)) := StabI.setCell h.blk (by decide) 1 _
  have hS : StabS none w (w.setCell ⟨G, 1, none⟩ (.int .i64 t)) := StabS.setCell h.blk (by decide) 1 _
  exact { h with
    below := h.below.setCell h.gb _
    z := h.z.setCell h.z.g 1 _
    blk := h.blk.set_ 1 (.int .i64 t)
    tb := ht
    f := h.f.stab hS (by simp), wn := h.wn.stab hS (by simp), k := h.k.stab hS (by simp), from_ := h.from_.stab hI (by simp)
    fd := fun a ha => (h.fd a ha).stab hI (by simp), wd := fun i hi => (h.wd i hi).stab hI (by simp), kd := fun x hx => (h.kd x hx).stab hI (by simp) }
/-- what is remembered was made -/
theorem Led.wlt (h : Led Z W0 b0 G cnt tot fv wv kv fr F Ws K R w) : ∀ u ∈ Ws, ∀ b, u.ownBlock = some b → b < w.heap.size := by
  intro u hu b hb
  obtain ⟨i, hi, e⟩ := List.getElem_of_mem hu
  have h1 := h.wd i (by have := h.wl; omega)
  rw [List.getElem?_eq_getElem hi, Option.getD_some, e] at h1
  exact (h1.lt hb).2
/-- less is spared -/
theorem Led.less (h : Led Z W0 b0 G cnt tot fv wv kv fr F Ws K R w) {Z' : Nat → Prop} (hs : ∀ b, Z' b → Z b) : Led Z' W0 b0 G cnt tot fv wv kv fr F Ws K R w :=
  { h with z := ⟨fun b hb => h.z.keep b (hs b hb), fun b hb => h.z.old b (hs b hb), h.z.size, fun x => h.z.g (hs _ x), fun b hb x => h.z.f b hb (hs b x), fun b hb x => h.z.wn b hb (hs b x), fun b hb x => h.z.k b hb (hs b x), fun b hb x => h.z.r b hb (hs b x), fun y hy b hb x => h.z.fd y hy b hb (hs b x), fun y hy b hb x => h.z.kd y hy b hb (hs b x)⟩, wz := fun u hu b hb x => h.wz u hu b hb (hs b x) }
/-- what was made since is spared too -/
theorem Led.more (h : Led Z W0 0 G cnt tot fv wv kv fr F Ws K R w) {w' : World} (hB : Below w.heap.size w w') : Led (fun b => Z b ∨ (w.heap.size ≤ b ∧ b < w'.heap.size)) w' 0 G cnt tot fv wv kv fr F Ws K R w' := by
  have hp := h.past hB
  have hs := hB.size
  have old : ∀ b, b < w.heap.size → ¬ Z b → ¬ (Z b ∨ (w.heap.size ≤ b ∧ b < w'.heap.size)) := fun b hb hz x => by
    rcases x with x | x
    · exact hz x
    · omega
  exact { hp with
    below := Below.refl _ _
    z := ⟨fun _ _ => rfl, fun b hb => by
      rcases hb with hb | hb
      · have := h.z.old b hb; have := h.z.size; omega
      · exact hb.2, Nat.le_refl _, old G (lt_of_block h.blk) h.z.g, fun b hb => old b (h.f.lt hb).2 (h.z.f b hb), fun b hb => old b (h.wn.lt hb).2 (h.z.wn b hb), fun b hb => old b (h.k.lt hb).2 (h.z.k b hb), fun b hb => old b (h.from_.lt hb).2 (h.z.r b hb),
      fun y hy b hb => old b ((h.fd y hy).lt hb).2 (h.z.fd y hy b hb), fun y hy b hb => old b ((h.kd y hy).lt hb).2 (h.z.kd y hy b hb)⟩, wz := fun u hu b hb => old b (h.wlt u hu b hb) (h.wz u hu b hb) }
/-- the count -/
theorem Lo.one_ (h : Lo Z W0 b0 G cnt tot fv wv kv fr F Ws K R w) {t : Int} (ht : 0 ≤ t ∧ t ≤ 1048576) : Lo Z W0 b0 G t tot fv wv kv fr F Ws K R (w.setCell ⟨G, 0, none⟩ (.int .i64 t)) := by
  have hI : StabI none w (w.setCell ⟨G, 0, none⟩ (.int .i64 t)) := StabI.setCell h.blk (by decide) 0 _
  have hS : StabS none w (w.setCell ⟨G, 0, none⟩ (.int .i64 t)) := StabS.setCell h.blk (by decide) 0 _
  exact { h with
    below := h.below.setCell h.gb _
    z := h.z.setCell h.z.g 0 _
    blk := h.blk.set_ 0 (.int .i64 t)
    cb := ht
    f := h.f.stab hS (by simp), wn := h.wn.stab hS (by simp), k := h.k.stab hS (by simp), from_ := h.from_.stab hI (by simp)
    fd := fun a ha => (h.fd a ha).stab hI (by simp), wd := fun i hi => (h.wd i hi).stab hI (by simp), kd := fun x hx => (h.kd x hx).stab hI (by simp) }
/-- a list of lists grows by one: what stays -/
theorem keepS {lv lv' : Value} {n : Nat} {L : List Value} {w' : World} (hk : Keep w w' lv lv' n 1) (hown : OwnS w b0 lv L) (hb : Below b0 W0 w) (h0 : b0 ≤ w.heap.size) :
    StabI none w w' ∧ StabS lv.ownBlock w w' ∧ Below b0 W0 w' ∧ (∀ g t cs, t ≠ 22 → Blk w g t cs → Blk w' g t cs) ∧ (∀ b, b < w.heap.size → lv.ownBlock ≠ some b → lv'.ownBlock ≠ some b) := by
  rcases hk with ⟨g, cap, rfl, rfl, hg⟩ | ⟨hob, hg⟩
  · have hlt := hown.lt (b := g) rfl
    refine ⟨hown.grownI hg, hown.grownS hg, hb.grown hg h0 (fun k hk => by injection hk with hk; omega), fun g2 t cs ht hB => ?_, fun b hb h => h⟩
    refine (hg.block g2 hB.lt fun e => ?_).trans hB
    injection e with e
    subst e
    rcases hown.2 with ⟨e, _⟩ | ⟨g3, cap2, cur, e, _, hh, _⟩
    · cases e
    · injection e with e _ _
      injection e with e
      injection e with e _ _
      subst e
      exact hB.ne_ (show Blk w g2 22 cur from hh) ht rfl
  · have hbb : Below w.heap.size w w' := (Below.refl _ _).grown hg (Nat.le_refl _) (fun k hk => by cases hk)
    refine ⟨StabI.below hbb, fun b cs t fr ht h1 h2 => StabS.below hbb b cs t fr ht h1 (by simp), hb.grown hg h0 (fun k hk => by cases hk), fun g2 t cs ht hB => (hbb.block g2 hB.lt).trans hB, fun b hb _ e => ?_⟩
    rw [hob] at e
    injection e with e
    omega
theorem F_left {F : List (Value × List Int)} {x : Value × List Int} {i : Nat} (h : i < F.length) : (F ++ [x])[i]?.getD (undef, []) = F[i]?.getD (undef, []) := nth_left h
theorem F_last {F : List (Value × List Int)} {x : Value × List Int} : (F ++ [x])[F.length]?.getD (undef, []) = x := nth_last
/-- what is handed in is kept, untouched -/
theorem Lo.fresh (h : Lo Z W0 b0 G cnt tot fv wv kv fr F Ws K R w) {v : Value} {L : List Int} (hv : OwnB w b0 v L) (hvz : ∀ b, v.ownBlock = some b → ¬ Z b) (hL : L.length ≤ 1048576) (hF : F.length + 1 ≤ 3)
    (hfr : ∀ b, v.ownBlock = some b → (∀ x ∈ F, x.1.ownBlock ≠ some b) ∧ (∀ y ∈ K, y.1.ownBlock ≠ some b) ∧ fr.ownBlock ≠ some b) {fv' : Value} {w' : World} {n : Nat}
    (hk : Keep w w' fv fv' n 1) (hown : OwnS w' b0 fv' (F.map (·.1) ++ [v])) :
    Lo Z W0 b0 G cnt tot fv' wv kv fr (F ++ [(v, L)]) Ws K R (w'.setCell ⟨G, 2, none⟩ fv') := by
  obtain ⟨hI, hS, hbel, hblk, hnew⟩ := keepS hk h.f h.below h.b0lt
  obtain ⟨hzz, hzk⟩ := h.z.grown hk h.z.f
  have hB := hblk G _ _ (by decide) h.blk
  have hI2 := hI.trans (StabI.setCell hB (by decide) 2 fv')
  have hS2 : StabS none w' (w'.setCell ⟨G, 2, none⟩ fv') := StabS.setCell hB (by decide) 2 _
  have hwl := h.wl
  refine ⟨hbel.setCell h.gb _, { hzz.setCell hzz.g 2 fv' with f := hzk, fd := fun y hy b hb => ?_ }, h.gb, hB.set_ 2 fv', ?_, ?_, ?_, h.from_.stab hI2 (by simp), ?_, ?_, ?_, h.kl, fun y hy => (h.kd y hy).stab hI2 (by simp), h.km, h.tb, h.cb, ?_, h.rb, ?_, ?_, h.s2, ?_, ?_, ?_, h.wz⟩
  · rcases List.mem_append.1 hy with hy | hy
    · exact hzz.fd y hy b hb
    · rw [List.mem_singleton] at hy
      subst hy
      exact hvz b hb
  · rw [List.map_append]; exact hown.stab hS2 (by simp)
  · exact (h.wn.stab hS fun b hb e => (h.s1 b e.symm).1 hb).stab hS2 (by simp)
  · exact (h.k.stab hS fun b hb e => (h.s1 b e.symm).2 hb).stab hS2 (by simp)
  · intro y hy
    rcases List.mem_append.1 hy with hy | hy
    · exact (h.fd y hy).stab hI2 (by simp)
    · rw [List.mem_singleton] at hy
      subst hy
      exact hv.stab hI2 (by simp)
  · rw [List.length_append]; omega
  · intro i hi
    rw [F_left (by omega)]
    exact (h.wd i hi).stab hI2 (by simp)
  · rw [List.length_append]; exact ⟨hF, h.nb.2⟩
  · refine ⟨fun y hy => ?_, h.lb.2⟩
    rcases List.mem_append.1 hy with hy | hy
    · exact h.lb.1 y hy
    · rw [List.mem_singleton] at hy
      subst hy
      exact hL
  · intro b hb
    refine ⟨fun e => ?_, fun e => ?_⟩
    · exact hnew b (h.wn.lt e).2 (fun e2 => (h.s1 b e2).1 e) hb
    · exact hnew b (h.k.lt e).2 (fun e2 => (h.s1 b e2).2 e) hb
  · intro b hb
    refine ⟨fun y hy => ?_, (h.s3 b hb).2⟩
    rcases List.mem_append.1 hy with hy | hy
    · exact (h.s3 b hb).1 y hy
    · rw [List.mem_singleton] at hy
      subst hy
      exact fun e => (hfr b e).2.2 hb
  · intro b y hy hb
    rcases List.mem_append.1 hy with hy | hy
    · exact h.s4 b y hy hb
    · rw [List.mem_singleton] at hy
      subst hy
      exact (hfr b hb).2.1
  · intro i j b hij hj hb
    rw [List.length_append, List.length_singleton] at hj
    rw [F_left (by omega)] at hb
    rcases Nat.lt_or_ge j F.length with h1 | h1
    · rw [F_left h1]
      exact h.s5 i j b hij h1 hb
    · have : j = F.length := by omega
      subst this
      rw [F_last]
      exact fun e => (hfr b e).1 _ (nth_mem (F := F) hij) hb
/-- what it held is remembered -/
theorem Lo.was (h : Lo Z W0 b0 G cnt tot fv wv kv fr F Ws K R w) {u : Value} {L : List Int} (hu : OwnB w b0 u L) (huz : ∀ b, u.ownBlock = some b → ¬ Z b) (hF : Ws.length < F.length) (hL : (F[Ws.length]?.getD (undef, [])).2 = L) {wv' : Value} {w' : World} {n : Nat}
    (hk : Keep w w' wv wv' n 1) (hown : OwnS w' b0 wv' (Ws ++ [u])) :
    Lo Z W0 b0 G cnt tot fv wv' kv fr F (Ws ++ [u]) K R (w'.setCell ⟨G, 3, none⟩ wv') := by
  obtain ⟨hI, hS, hbel, hblk, hnew⟩ := keepS hk h.wn h.below h.b0lt
  obtain ⟨hzz, hzk⟩ := h.z.grown hk h.z.wn
  have hB := hblk G _ _ (by decide) h.blk
  have hI2 := hI.trans (StabI.setCell hB (by decide) 3 wv')
  have hS2 : StabS none w' (w'.setCell ⟨G, 3, none⟩ wv') := StabS.setCell hB (by decide) 3 _
  refine ⟨hbel.setCell h.gb _, { hzz.setCell hzz.g 3 wv' with wn := hzk }, h.gb, hB.set_ 3 wv', ?_, hown.stab hS2 (by simp), ?_, h.from_.stab hI2 (by simp), fun y hy => (h.fd y hy).stab hI2 (by simp), ?_, ?_, h.kl, fun y hy => (h.kd y hy).stab hI2 (by simp), h.km, h.tb, h.cb, h.nb, h.rb, h.lb, ?_, ?_, h.s3, h.s4, h.s5, fun y hy => (List.mem_append.1 hy).elim (h.wz y) fun hy => by
    rw [List.mem_singleton] at hy
    subst hy
    exact huz⟩
  · exact (h.f.stab hS fun b hb e => (h.s1 b hb).1 e.symm).stab hS2 (by simp)
  · exact (h.k.stab hS fun b hb e => h.s2 b e.symm hb).stab hS2 (by simp)
  · rw [List.length_append, List.length_singleton]; omega
  · intro i hi
    rw [List.length_append, List.length_singleton] at hi
    rcases Nat.lt_or_ge i Ws.length with h1 | h1
    · rw [List.getElem?_append_left h1]
      exact (h.wd i h1).stab hI2 (by simp)
    · have : i = Ws.length := by omega
      subst this
      rw [List.getElem?_append_right (Nat.le_refl _), Nat.sub_self, hL]
      exact hu.stab hI2 (by simp)
  · intro b hb
    refine ⟨fun e => ?_, (h.s1 b hb).2⟩
    exact hnew b (h.f.lt hb).2 (fun e2 => (h.s1 b hb).1 e2) e
  · intro b hb e
    exact hnew b (h.k.lt e).2 (fun e2 => h.s2 b e2 e) hb
end

/-- a book in use: at most two lists lie untouched -/
def Use (Z : Nat → Prop) (W0 : World) (G : Nat) (T m : Nat) (w : World) : Prop :=
  ∃ cnt tot fv wv kv fr F Ws K R, Led Z W0 0 G cnt tot fv wv kv fr F Ws K R w ∧ F.length ≤ 2 ∧ tot ≤ (T : Int) ∧ cnt ≤ (m : Int) ∧ K.length + 2 * F.length ≤ m
theorem Use.past {Z : Nat → Prop} {W0 : World} {G T m : Nat} {w w' : World} (h : Use Z W0 G T m w) (hb : Below w.heap.size w w') : Use Z W0 G T m w' := by
  obtain ⟨cnt, tot, fv, wv, kv, fr, F, Ws, K, R, h1, h2⟩ := h
  exact ⟨cnt, tot, fv, wv, kv, fr, F, Ws, K, R, h1.past hb, h2⟩
theorem Use.below {Z : Nat → Prop} {W0 : World} {G T m : Nat} {w : World} (h : Use Z W0 G T m w) : Below 0 W0 w ∧ ∀ b, Z b → w.heap[b]? = W0.heap[b]? := by
  obtain ⟨cnt, tot, fv, wv, kv, fr, F, Ws, K, R, h1, h2⟩ := h
  exact ⟨h1.below, h1.z.keep⟩
theorem Use.lt {Z : Nat → Prop} {W0 : World} {G T m : Nat} {w : World} (h : Use Z W0 G T m w) : G < w.heap.size := by
  obtain ⟨cnt, tot, fv, wv, kv, fr, F, Ws, K, R, h1, h2⟩ := h
  exact h1.blk.lt
theorem Use.less {Z Z' : Nat → Prop} {W0 : World} {G T m : Nat} {w : World} (h : Use Z W0 G T m w) (hs : ∀ b, Z' b → Z b) : Use Z' W0 G T m w := by
  obtain ⟨cnt, tot, fv, wv, kv, fr, F, Ws, K, R, h1, h2⟩ := h
  exact ⟨cnt, tot, fv, wv, kv, fr, F, Ws, K, R, h1.less hs, h2⟩
/-- what is spared turns: the book stays -/
theorem Led.far {Z : Nat → Prop} {W0 : World} {G : Nat} {cnt tot : Int} {fv wv kv fr : Value} {F : List (Value × List Int)} {Ws : List Value} {K : List (Value × List Int)} {R : List Int} {w : World} (h : Led Z W0 0 G cnt tot fv wv kv fr F Ws K R w) {w' : World} (hg : w.heap.size ≤ w'.heap.size) (hs : ∀ b, b < w.heap.size → ¬ Z b → w'.heap[b]? = w.heap[b]?) : Led Z w' 0 G cnt tot fv wv kv fr F Ws K R w' := by
  have hB : ∀ {base : Nat} {v : Value} {L : List Int}, OwnB w base v L → (∀ b, v.ownBlock = some b → ¬ Z b) → OwnB w' base v L := by
    intro base v L ho hz
    obtain ⟨h1, h2⟩ := ho
    refine ⟨h1, h2.imp id fun ⟨g, cap, cur, e, hg2, hh, h3⟩ => ⟨g, cap, cur, e, hg2, (hs g (Blk.lt (show Blk w g _ cur from hh)) (hz g (by rw [e]; rfl))).trans hh, h3⟩⟩
  have hS : ∀ {base : Nat} {v : Value} {L : List Value}, OwnS w base v L → (∀ b, v.ownBlock = some b → ¬ Z b) → OwnS w' base v L := by
    intro base v L ho hz
    obtain ⟨h1, h2⟩ := ho
    refine ⟨h1, h2.imp id fun ⟨g, cap, cur, e, hg2, hh, h3⟩ => ⟨g, cap, cur, e, hg2, (hs g (Blk.lt (show Blk w g _ cur from hh)) (hz g (by rw [e]; rfl))).trans hh, h3⟩⟩
  have hI : OwnI w' 0 fr R := by
    obtain ⟨h1, h2⟩ := h.from_
    refine ⟨h1, h2.imp id fun ⟨g, cap, cur, e, hg2, hh, h3⟩ => ⟨g, cap, cur, e, hg2, (hs g (Blk.lt (show Blk w g _ cur from hh)) (h.z.r g (by rw [e]; rfl))).trans hh, h3⟩⟩
  exact { h with
    below := Below.refl _ _
    z := ⟨fun _ _ => rfl, fun b hb => Nat.lt_of_lt_of_le (Nat.lt_of_lt_of_le (h.z.old b hb) h.z.size) hg, Nat.le_refl _, h.z.g, h.z.f, h.z.wn, h.z.k, h.z.r, h.z.fd, h.z.kd⟩
    blk := (hs G (lt_of_block h.blk) h.z.g).trans h.blk
    f := hS h.f h.z.f, wn := hS h.wn h.z.wn, k := hS h.k h.z.k, from_ := hI
    fd := fun x hx => hB (h.fd x hx) (h.z.fd x hx)
    wd := fun i hi => hB (h.wd i hi) (fun b hb => by
      have hi2 : i < Ws.length := by have := h.wl; omega
      rw [List.getElem?_eq_getElem hi2, Option.getD_some] at hb
      exact h.wz _ (List.getElem_mem hi2) b hb)
    kd := fun x hx => hB (h.kd x hx) (h.z.kd x hx) }
theorem Use.far {Z : Nat → Prop} {W0 : World} {G T m : Nat} {w w' : World} (h : Use Z W0 G T m w) (hg : w.heap.size ≤ w'.heap.size) (hs : ∀ b, b < w.heap.size → ¬ Z b → w'.heap[b]? = w.heap[b]?) : Use Z w' G T m w' := by
  obtain ⟨cnt, tot, fv, wv, kv, fr, F, Ws, K, R, h1, h2⟩ := h
  exact ⟨cnt, tot, fv, wv, kv, fr, F, Ws, K, R, h1.far hg hs, h2⟩
/-- a block that was made since is spared too -/
theorem Use.more {Z : Nat → Prop} {W0 : World} {G T m : Nat} {w w' : World} (h : Use Z W0 G T m w) (hB : Below w.heap.size w w') : Use (fun b => Z b ∨ (w.heap.size ≤ b ∧ b < w'.heap.size)) w' G T m w' := by
  obtain ⟨cnt, tot, fv, wv, kv, fr, F, Ws, K, R, h1, h2⟩ := h
  exact ⟨cnt, tot, fv, wv, kv, fr, F, Ws, K, R, h1.more hB, h2⟩
/-- a book as it is made -/
theorem Use.new {w : World} {G : Nat} (h : Blk w G 33 #[.int .i64 0, .int .i64 0, .slice none 0 0, .slice none 0 0, .slice none 0 0, .slice none 0 0, .bool false]) : Use (fun b => b < w.heap.size ∧ b ≠ G) w G 0 0 w := by
  refine ⟨0, 0, .slice none 0 0, .slice none 0 0, .slice none 0 0, .slice none 0 0, [], [], [], [], ⟨Below.refl _ _, ⟨fun _ _ => rfl, fun b hb => hb.1, Nat.le_refl _, fun hb => hb.2 rfl, (fun b hb => by cases hb), (fun b hb => by cases hb), (fun b hb => by cases hb), (fun b hb => by cases hb), (fun x hx => by cases hx), (fun x hx => by cases hx)⟩, Nat.zero_le _, h, World.ownsRow_nil _ _ _ 1, World.ownsRow_nil _ _ _ 1, World.ownsRow_nil _ _ _ 1, World.ownsRow_nil _ _ _ 1, ?_, rfl, ?_, rfl, ?_, ?_, ⟨by decide, by decide⟩, ⟨by decide, by decide⟩, ⟨by decide, by decide⟩, ?_, ⟨?_, ?_⟩, ?_, ?_, ?_, ?_, ?_, fun u hu => by cases hu⟩, by decide, by decide, by decide, by decide⟩
  · intro x hx; cases hx
  · intro i hi; simp at hi
  · intro x hx; cases hx
  · intro i hi; simp at hi
  · intro i hi; simp at hi
  · intro x hx; cases hx
  · intro x hx; cases hx
  · intro b hb; cases hb
  · intro b hb; cases hb
  · intro b hb; cases hb
  · intro b x hx; cases hx
  · intro i j b hij hj; simp at hj

set_option maxRecDepth 100000 in
set_option maxHeartbeats 4000000 in
/-- Own: of a list whose memory was made since -/
theorem own_core (Z : Nat → Prop) (W0 : World) (G T m : Nat) (w : World) (cnt tot : Int) (fv wv kv fr : Value) (F : List (Value × List Int)) (Ws : List Value) (K : List (Value × List Int)) (R : List Int)
    (h1 : Led Z W0 0 G cnt tot fv wv kv fr F Ws K R w) (hF2 : F.length ≤ 2) (htT : tot ≤ (T : Int)) (hcm : cnt ≤ (m : Int)) (hKm : K.length + 2 * F.length ≤ m) (v : Value) (L : List Int) (n : Nat) (hv' : OwnB w 0 v L) (hvz : ∀ b, v.ownBlock = some b → ¬ Z b)
    (hfresh : ∀ b, v.ownBlock = some b → (∀ x ∈ F, x.1.ownBlock ≠ some b) ∧ (∀ y ∈ K, y.1.ownBlock ≠ some b) ∧ fr.ownBlock ≠ some b) (hn : L.length = n) (hL : n ≤ 1048576) (hT : T + n ≤ 1099511627776) (hm : m + 2 ≤ 1048576) :
    Calls Try.prog 15 #[.pointer (some ⟨G, 0, none⟩), v] w fun e w' => e = .returned (.bool true) ∧ Use Z W0 G (T + n) (m + 2) w' := by
  have hl0 := h1.lo
  have htb := hl0.tb
  have hwl := h1.wl
  obtain ⟨Av, cv, rfl, hat⟩ := hv'.form
  rw [hn] at hv' hfresh hvz
  rw [hn]
  clear h1
  have hcb := hl0.cb
  have k0 : w.cell? ⟨G, 0, none⟩ = some (.int .i64 cnt) := hl0.blk.cell 0
  have k0f : w.frozen? ⟨G, 0, none⟩ = false := hl0.blk.frozen 0
  have ec : IntKind.i64.wrap (cnt + 1) = cnt + 1 := IntWalk.i64_in _ (by omega)
  have hl00 := hl0.one_ (t := cnt + 1) ⟨by omega, by omega⟩
  have c0 : (w.setCell ⟨G, 0, none⟩ (.int .i64 (cnt + 1))).cell? ⟨G, 1, none⟩ = some (.int .i64 tot) := hl00.blk.cell 1
  have c0f : (w.setCell ⟨G, 0, none⟩ (.int .i64 (cnt + 1))).frozen? ⟨G, 1, none⟩ = false := hl00.blk.frozen 1
  have e0 : IntKind.i64.wrap (tot + (n : Int)) = tot + (n : Int) := IntWalk.i64_in _ (by omega)
  have hl1 := hl00.sum (t := tot + (n : Int)) ⟨by omega, by omega⟩
  have hI1 : StabI none w ((w.setCell ⟨G, 0, none⟩ (.int .i64 (cnt + 1))).setCell ⟨G, 1, none⟩ (.int .i64 (tot + (n : Int)))) := (StabI.setCell hl0.blk (by decide) 0 _).trans (StabI.setCell hl00.blk (by decide) 1 _)
  have HV1 := Lib.hid (hv'.stab hI1 (by simp))
  have HL1 := Lib.hid hl1
  have HFR := Lib.hid hfresh
  have HVZ := Lib.hid hvz
  have HAT := Lib.hid hat
  have HN := Lib.hid hn
  have HTB := Lib.hid htb
  have HTT := Lib.hid htT
  have HCM := Lib.hid hcm
  have HWL := Lib.hid hwl
  have HKM := Lib.hid hKm
  have HX := Lib.hid (show n ≤ 1048576 ∧ T + n ≤ 1099511627776 ∧ m + 2 ≤ 1048576 ∧ F.length ≤ 2 from ⟨hL, hT, hm, hF2⟩)
  clear hcm hcb hl00 hv' hl0 hl1 hI1 hvz hfresh hat hn htb htT hwl hKm hL hT hm hF2
  go_enter Try.func15, Try.ntmps15
  go_upto_region 3 with (fail)
  clear c0 c0f e0 ec k0 k0f
  generalize (w.setCell ⟨G, 0, none⟩ (.int .i64 (cnt + 1))).setCell ⟨G, 1, none⟩ (.int .i64 (tot + (n : Int))) = w1 at *
  have c1 : w1.cell? ⟨G, 2, none⟩ = some fv := HL1.out.blk.cell 2
  have hlenF := Lib.hid (show (F.map (·.1)).length + 1 ≤ 1099511627776 by rw [List.length_map]; have := HX.out; omega)
  have HLA := Lib.hid (fun o => HL1.out.past ((Below.refl w1.heap.size w1).alloc (Nat.le_refl _) o))
  have HVA := Lib.hid (fun o => HV1.out.stab (StabI.below ((Below.refl w1.heap.size w1).alloc (Nat.le_refl _) o)) (by simp))
  have hp := Lib.hid (@append_list1 Try.prog Try.underlying30 slice_info)
  go_upto_region 4 with (at_builtin; apply hp.out; (case hgd => rfl); (case ho => rfl); (case hs => rfl); (case hown => exact (HLA.out _).f); (case hx => rfl); (case hc => exact cell_new0 _ _ _); (case hz => rfl); (case hlen => exact hlenF.out); (case hbase => exact (HLA.out _).b0lt); intro fv2 w2 hown2 hkeep2;
                              (obtain ⟨A2, n2, cf2, rfl⟩ := hown2.any); (have HK2 := keepS hkeep2 (HLA.out _).f (HLA.out _).below (HLA.out _).b0lt); (have HB2 := HK2.2.2.2.1 G _ _ (by decide) (HLA.out _).blk); (have x1 : w2.cell? ⟨G, 2, none⟩ = some fv := HB2.cell 2); (have x1f : w2.frozen? ⟨G, 2, none⟩ = false := HB2.frozen 2);
                              (have HL2 := Lib.hid ((HLA.out _).fresh (HVA.out _) HVZ.out (by rw [HN.out]; exact HX.out.1) (by have := HX.out; omega) HFR.out hkeep2 hown2)); (have HV2 := Lib.hid (((HVA.out _).stab HK2.1 (by simp)).stab (StabI.setCell HB2 (by decide) 2 (.slice A2 n2 cf2)) (by simp))); clear hkeep2 hown2 HK2 HB2)
  clear x1 x1f c1 HLA HVA HL1 HV1 hp hlenF
  generalize w2.setCell ⟨G, 2, none⟩ (.slice A2 n2 cf2) = w3 at *
  obtain ⟨Aw, nw, cw, rfl⟩ := HL2.out.wn.any
  have c2 : w3.cell? ⟨G, 3, none⟩ = some (.slice Aw nw cw) := HL2.out.blk.cell 3
  have HG := HL2.out.blk.lt
  have hLd := HL2.out.past (below_drewN (Below.refl _ _) 1)
  have hIat : BytesAt w3.drew Av L := ownB_bytes (HV2.out.stab (w := w3) (w' := w3.drew) (StabI.below (below_drewN (Below.refl _ _) 1)) (by simp))
  have hcp := Lib.hid (copyBytes_own w3.drew Av n cv L HN.out (by have := HX.out; omega) hIat)
  have HLD := Lib.hid hLd
  clear hLd hIat
  refine wp_region_last (n := 11) (S := fun W => W.cell? ⟨G, 3, none⟩ = some (.slice Aw nw cw)) (by kernel_rfl) (by kernel_rfl) (by kernel_rfl) (by kernel_rfl) rfl c2 (fun hHeld => ?_)
  refine wpAnyH_take (i := 0) (oi := _) (v := .pointer (some ⟨G, 0, none⟩)) rfl (by kernel_rfl) (by kernel_rfl) (by kernel_rfl) (fun _ _ _ h => h) (Or.inl ⟨by rfl, ?_⟩) (by assumption) ?_
  · (intro w hSw; (try dsimp only at hSw); go_simp)
  try simp only [Act.put, List.setIfInBounds_toArray, List.set_cons_zero, List.set_cons_succ]
  refine wpAnyH_take (i := 1) (oi := _) (v := .pointer (some ⟨G, 0, none⟩)) rfl (by kernel_rfl) (by kernel_rfl) (by kernel_rfl) (fun _ _ _ h => h) (Or.inl ⟨by rfl, ?_⟩) (by assumption) ?_
  · (intro w hSw; (try dsimp only at hSw); go_simp)
  try simp only [Act.put, List.setIfInBounds_toArray, List.set_cons_zero, List.set_cons_succ]
  refine wpAnyH_take (i := 2) (oi := _) (v := .pointer (some ⟨G, 0, none⟩)) rfl (by kernel_rfl) (by kernel_rfl) (by kernel_rfl) (fun _ _ _ h => h) (Or.inl ⟨by rfl, ?_⟩) (by assumption) ?_
  · (intro w hSw; (try dsimp only at hSw); go_simp)
  try simp only [Act.put, List.setIfInBounds_toArray, List.set_cons_zero, List.set_cons_succ]
  refine wpAnyH_take (i := 3) (oi := _) (v := .pointer (some ⟨G, 3, none⟩)) rfl (by kernel_rfl) (by kernel_rfl) (by kernel_rfl) (fun _ _ _ h => h) (Or.inl ⟨by rfl, ?_⟩) (by assumption) ?_
  · (intro w hSw; (try dsimp only at hSw); go_simp)
  try simp only [Act.put, List.setIfInBounds_toArray, List.set_cons_zero, List.set_cons_succ]
  refine wpAnyH_take (i := 4) (oi := _) (v := .slice Aw nw cw) rfl (by kernel_rfl) (by kernel_rfl) (by kernel_rfl) (fun _ _ _ h => h) (Or.inl ⟨by rfl, ?_⟩) (by assumption) ?_
  · (intro w hSw; (try dsimp only at hSw); go_simp)
  try simp only [Act.put, List.setIfInBounds_toArray, List.set_cons_zero, List.set_cons_succ]
  refine wpAnyH_take (i := 5) (oi := _) (v := .slice Av n cv) rfl (by kernel_rfl) (by kernel_rfl) (by kernel_rfl) (fun _ _ _ h => h) (Or.inl ⟨by rfl, ?_⟩) (by assumption) ?_
  · (intro w hSw; (try dsimp only at hSw); go_simp)
  try simp only [Act.put, List.setIfInBounds_toArray, List.set_cons_zero, List.set_cons_succ]
  clear hHeld
  refine wpAnyH_ready (rs := [6]) (by kernel_rfl) (by simp) ?_
  refine AllReadyH.cons rfl (fun K hK => ?_) AllReadyH.nil
  go_simp
  go_at_call 17
  refine hcp.out.mono ?_
  rintro e w4 ⟨u, rfl, hu, hB4⟩
  have hL4 := HLD.out.past hB4
  have hu4 : OwnB w4 0 u L := hu.mono (Nat.zero_le _)
  go_wp2_with fail
  refine hK.out _ _ (hL4.blk.cell 3) (fun hHeld => ?_)
  have HUZ := Lib.hid (show ∀ b, u.ownBlock = some b → ¬ Z b from fun b hb => HLD.out.z.lt (hu.lt hb).1)
  clear hK K hHeld hu hB4 hcp
  obtain ⟨Au, cu, rfl, -⟩ := hu4.form
  try simp only [Act.put, List.setIfInBounds_toArray, List.set_cons_zero, List.set_cons_succ]
  have HLA := Lib.hid (fun o => hL4.past ((Below.refl w4.heap.size w4).alloc (Nat.le_refl _) o))
  have HUA := Lib.hid (fun o => hu4.stab (StabI.below ((Below.refl w4.heap.size w4).alloc (Nat.le_refl _) o)) (by simp))
  have hlenW := Lib.hid (show Ws.length + 1 ≤ 1099511627776 by have := HWL.out; have := HX.out; omega)
  refine wpAnyH_ready (rs := [7]) (by kernel_rfl) (by simp) ?_
  refine AllReadyH.cons rfl (fun K hK => ?_) AllReadyH.nil
  go_simp
  refine hK.out _ _ ((HLA.out _).blk.cell 3) (fun hHeld => ?_)
  clear hK K hHeld
  try simp only [Act.put, List.setIfInBounds_toArray, List.set_cons_zero, List.set_cons_succ]
  refine wpAnyH_ready (rs := [8]) (by kernel_rfl) (by simp) ?_
  refine AllReadyH.cons rfl (fun K hK => ?_) AllReadyH.nil
  refine step_list1 Try.underlying30 slice_info _ rfl (.tmp 36) (.tmp 39) rfl 0 _ _ rfl (HLA.out _).wn _ _ _ rfl rfl (cell_new0 _ _ _) hlenW.out (HLA.out _).b0lt ?_
  intro wv2 w5 hown5 hkeep5
  obtain ⟨A5, n5, c5, rfl⟩ := hown5.any
  have HK5 := keepS hkeep5 (HLA.out _).wn (HLA.out _).below (HLA.out _).b0lt
  have HB5 := HK5.2.2.2.1 G _ _ (by decide) (HLA.out _).blk
  have x2 : w5.cell? ⟨G, 3, none⟩ = some (.slice Aw nw cw) := HB5.cell 3
  have x2f : w5.frozen? ⟨G, 3, none⟩ = false := HB5.frozen 3
  have HL5 := Lib.hid ((HLA.out _).was (HUA.out _) (HUZ.out) (by rw [List.length_append, List.length_singleton]; have := HWL.out; omega) (by rw [HWL.out, F_last]) hkeep5 hown5)
  refine hK.out _ _ x2 (fun hHeld => ?_)
  clear hK K hkeep5 hown5 HK5 HB5
  try simp only [Act.put, List.setIfInBounds_toArray, List.set_cons_zero, List.set_cons_succ]
  refine wpAnyH_take (i := 9) (oi := _) (v := .pointer (some ⟨G, 0, none⟩)) rfl (by kernel_rfl) (by kernel_rfl) (by kernel_rfl) (fun _ _ _ h => h) (Or.inl ⟨by rfl, ?_⟩) (by assumption) ?_
  · (intro w hSw; (try dsimp only at hSw); go_simp)
  try simp only [Act.put, List.setIfInBounds_toArray, List.set_cons_zero, List.set_cons_succ]
  refine wpAnyH_take (i := 10) (oi := _) (v := .pointer (some ⟨G, 3, none⟩)) rfl (by kernel_rfl) (by kernel_rfl) (by kernel_rfl) (fun _ _ _ h => h) (Or.inl ⟨by rfl, ?_⟩) (by assumption) ?_
  · (intro w hSw; (try dsimp only at hSw); go_simp)
  try simp only [Act.put, List.setIfInBounds_toArray, List.set_cons_zero, List.set_cons_succ]
  refine wpAnyH_done (by kernel_rfl) ?_ _
  clear hHeld c2 HLA HUA HLD HL2 HV2 hL4 hu4 hlenW
  unfold Ahead
  refine wpOp_step rfl fun K' hK' => ?_
  go_simp
  refine hK' _ _ ?_
  clear hK' K'
  have HL6 := Lib.hid (HL5.out.led (by rw [List.length_append, List.length_append, List.length_singleton, List.length_singleton, HWL.out]))
  clear HL5 x2 x2f
  generalize w5.setCell ⟨G, 3, none⟩ (.slice A5 n5 c5) = w6 at *
  have c1 : w6.cell? ⟨G, 2, none⟩ = some (.slice A2 n2 cf2) := HL6.out.blk.cell 2
  obtain ⟨Ay, cy, hy⟩ := HL6.out.f.slice
  injection hy with hy1 hy2 hy3
  rw [List.length_map, List.length_append, List.length_singleton] at hy2
  clear hy1 hy3
  have htt := HTT.out
  have hcm := HCM.out
  have hkm := HKM.out
  have hx := HX.out
  have HY := Lib.hid hy2
  by_cases h3 : F.length = 2
  · have e3 : n2 = 3 := by omega
    subst e3
    have hwr := Lib.hid (write_any Z W0 0 G _ _ _ _ _ _ _ _ _ _ w6 HL6.out (by rw [List.length_append, List.length_singleton]; omega))
    clear hy2
    go_wp2_with fail
    go_at_call 30
    refine hwr.out.mono ?_
    rintro e w7 ⟨rfl, kv7, fr7, K7, R7, hK7, hL7⟩
    have hho := Lib.hid (Holds_any Z W0 0 G _ _ _ _ _ _ _ _ _ _ w7 hL7)
    rw [List.length_append, List.length_singleton] at hK7
    have HK7 := Lib.hid hK7
    clear hL7 hwr hK7
    go_wp2_with fail
    go_at_call 31
    refine hho.out.mono ?_
    rintro e w8 ⟨rfl, hL8⟩
    have HL8 := Lib.hid hL8
    clear hL8 hho
    go_wp2_with fail
    go_ret
    have hK7 := HK7.out
    exact ⟨rfl, _, _, _, _, _, _, _, _, _, _, HL8.out, by simp, by push_cast; omega, by push_cast; omega, by simp; omega⟩
  · have e3 : decide ((3 : Int) ≤ (n2 : Int)) = false := by simp; omega
    have e3' : decide ((n2 : Int) ≥ 3) = false := by simp; omega
    have hho := Lib.hid (Holds_any Z W0 0 G _ _ _ _ _ _ _ _ _ _ w6 HL6.out)
    clear hy2
    go_wp2_with fail
    go_at_call 31
    refine hho.out.mono ?_
    rintro e w8 ⟨rfl, hL8⟩
    have HL8 := Lib.hid hL8
    clear hL8 hho
    go_wp2_with fail
    go_ret
    exact ⟨rfl, _, _, _, _, _, _, _, _, _, _, HL8.out, by rw [List.length_append, List.length_singleton]; omega, by push_cast; omega, by push_cast; omega, by rw [List.length_append, List.length_singleton]; omega⟩

/-- Own: of a list that is spared till now -/
theorem own_at_ (Z : Nat → Prop) (W0 : World) (G T m : Nat) (w : World) (h : Use Z W0 G T m w) (v : Value) (L : List Int) (n : Nat) (hv : OwnB w 0 v L) (hvZ : ∀ b, v.ownBlock = some b → Z b) (hn : L.length = n) (hL : n ≤ 1048576) (hT : T + n ≤ 1099511627776) (hm : m + 2 ≤ 1048576) :
    Calls Try.prog 15 #[.pointer (some ⟨G, 0, none⟩), v] w fun e w' => e = .returned (.bool true) ∧ Use (fun b => Z b ∧ v.ownBlock ≠ some b) W0 G (T + n) (m + 2) w' := by
  obtain ⟨cnt, tot, fv, wv, kv, fr, F, Ws, K, R, h1, hF2, htT, hcm, hKm⟩ := h
  exact own_core _ W0 G T m w _ _ _ _ _ _ F Ws K R (h1.less fun b hb => hb.1) hF2 htT hcm hKm v L n hv (fun b hb h => h.2 hb)
    (fun b hb => ⟨fun x hx e => h1.z.fd x hx b e (hvZ b hb), fun x hx e => h1.z.kd x hx b e (hvZ b hb), fun e => h1.z.r b e (hvZ b hb)⟩) hn hL hT hm
/-- Own: of a list whose memory was made since -/
theorem own_any (Z : Nat → Prop) (W0 : World) (G T m : Nat) (w0 w : World) (h : Use Z W0 G T m w0) (hB : Below w0.heap.size w0 w) (v : Value) (L : List Int) (n : Nat) (hv : OwnB w w0.heap.size v L) (hn : L.length = n) (hL : n ≤ 1048576) (hT : T + n ≤ 1099511627776) (hm : m + 2 ≤ 1048576) :
    Calls Try.prog 15 #[.pointer (some ⟨G, 0, none⟩), v] w fun e w' => e = .returned (.bool true) ∧ Use Z W0 G (T + n) (m + 2) w' := by
  obtain ⟨cnt, tot, fv, wv, kv, fr, F, Ws, K, R, h1, hF2, htT, hcm, hKm⟩ := h
  refine own_core Z W0 G T m w _ _ _ _ _ _ F Ws K R (h1.past hB) hF2 htT hcm hKm v L n (hv.mono (Nat.zero_le _)) (fun b hb => h1.z.lt (hv.lt hb).1) (fun b hb => ?_) hn hL hT hm
  have hge := (hv.lt hb).1
  exact ⟨fun x hx e => by have := ((h1.fd x hx).lt e).2; omega, fun x hx e => by have := ((h1.kd x hx).lt e).2; omega, fun e => by have := (h1.from_.lt e).2; omega⟩

set_option maxRecDepth 100000 in
set_option maxHeartbeats 4000000 in
theorem done_any (Z : Nat → Prop) (W0 : World) (G T m : Nat) (w0 w : World) (h : Use Z W0 G T m w0) (hB : Below w0.heap.size w0 w) (hm : m ≤ 1048576) :
    Calls Try.prog 16 #[.pointer (some ⟨G, 0, none⟩)] w fun e w' => e = .returned (.bool true) ∧ Below 0 W0 w' ∧ ∀ b, Z b → w'.heap[b]? = W0.heap[b]? := by
  obtain ⟨cnt, tot, fv, wv, kv, fr, F, Ws, K, R, h1, hF2, htT, hcm, hKm⟩ := h
  have hwr := Lib.hid (write_any Z W0 0 G _ _ _ _ _ _ _ _ _ _ w (h1.past hB) (by omega))
  clear h1 hB htT hKm hm hcm
  go_enter Try.func16, Try.ntmps16
  go_wp2_with fail
  go_at_call 30
  refine hwr.out.mono ?_
  rintro e w7 ⟨rfl, kv7, fr7, K7, R7, hK7, hL7⟩
  have hho := Lib.hid (Holds_any Z W0 0 G _ _ _ _ _ _ _ _ _ _ w7 hL7)
  clear hL7 hwr hK7
  go_wp2_with fail
  go_at_call 31
  refine hho.out.mono ?_
  rintro e w8 ⟨rfl, hL8⟩
  have HL8 := Lib.hid (show Below 0 W0 w8 ∧ ∀ b, Z b → w8.heap[b]? = W0.heap[b]? from ⟨hL8.below, hL8.z.keep⟩)
  clear hL8 hho
  go_wp2_with fail
  go_ret
  exact ⟨rfl, HL8.out⟩
end Go.Proofs.Ytkfcfoidaalnlaa.Bk
