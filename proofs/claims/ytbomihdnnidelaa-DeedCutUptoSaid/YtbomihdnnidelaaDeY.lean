/- Package deed, plain mathematics: what is wrong with a deed, and what is written of it. -/
import Derived.Test.YtbomihdnnidelaaDeX
namespace Go.Proofs.Ytbomihdnnidelaa
open Go.ChangeShapes Go.WideShapes Go.ChangeAt Go.RowKit
open Dee
set_option linter.unusedVariables false
set_option linter.unusedSimpArgs false
/-! tags -/
theorem zero_told (s : Bool) : plainB Tag.zero = true := by decide
theorem plain_reg {t : Tag} (hm : t.m = 0) (h : plainB t = true) : toldB false t = true := by
  obtain ⟨k, x, m⟩ := t
  simp only at hm
  subst hm
  unfold plainB at h
  unfold toldB
  dsimp only at h ⊢
  by_cases ht : tabledB k = true
  · rw [if_pos ht] at h ⊢
    have hk : kindB k = true := by rw [kindB_iff]; have := (tabledB_iff k).1 ht; omega
    rw [hk, h]; rfl
  · rw [if_neg ht] at h ⊢
    rw [if_neg (by simp)]
    by_cases hk : k = 0
    · subst hk
      rw [if_pos rfl] at h
      rw [Bool.and_eq_true] at h
      rw [h.1]; rfl
    · rw [if_neg hk] at h
      rw [Bool.and_assoc] at h
      exact h
theorem plain_slot {t : Tag} (h : plainB t = true) : t = Tag.zero ∨ toldB true t = true := by
  obtain ⟨k, x, m⟩ := t
  unfold plainB at h
  unfold toldB
  dsimp only at h ⊢
  by_cases ht : tabledB k = true
  · rw [if_pos ht] at h ⊢
    have hk : kindB k = true := by rw [kindB_iff]; have := (tabledB_iff k).1 ht; omega
    right
    rw [hk, h]; rfl
  · rw [if_neg ht] at h ⊢
    by_cases hk : k = 0
    · subst hk
      rw [if_pos rfl] at h
      rw [Bool.and_eq_true, Bool.or_eq_true] at h
      obtain ⟨h1, h2⟩ := h
      have hx := of_decide_eq_true h1
      subst hx
      rcases h2 with h2 | h2
      · left
        have hm := of_decide_eq_true h2
        subst hm
        rfl
      · right
        rw [if_pos (by rfl), h2]; rfl
    · rw [if_neg hk] at h
      right
      rw [if_neg (by simp [hk])]
      rw [Bool.and_assoc] at h
      exact h
theorem told_reg {t : Tag} (h : toldB false t = true) : t.m = 0 ∧ plainB t = true := by
  obtain ⟨k, x, m⟩ := t
  unfold toldB at h
  unfold plainB
  dsimp only at h ⊢
  rw [Bool.and_eq_true] at h
  obtain ⟨h1, h2⟩ := h
  by_cases ht : tabledB k = true
  · rw [if_pos ht] at h2 ⊢
    exact ⟨of_decide_eq_true (Bool.and_eq_true _ _ ▸ h2).2, h2⟩
  · rw [if_neg ht, if_neg (by simp)] at h2
    rw [if_neg ht]
    have hm := of_decide_eq_true (Bool.and_eq_true _ _ ▸ h2).2
    subst hm
    refine ⟨rfl, ?_⟩
    have hx := (Bool.and_eq_true _ _ ▸ h2).1
    by_cases hk : k = 0
    · subst hk
      rw [if_pos rfl, hx]; rfl
    · rw [if_neg hk, h1, hx]; rfl
theorem told_slot {t : Tag} (h : toldB true t = true) : t ≠ Tag.zero ∧ plainB t = true := by
  obtain ⟨k, x, m⟩ := t
  unfold toldB at h
  unfold plainB
  dsimp only at h ⊢
  rw [Bool.and_eq_true] at h
  obtain ⟨h1, h2⟩ := h
  by_cases ht : tabledB k = true
  · rw [if_pos ht] at h2 ⊢
    refine ⟨fun e => ?_, h2⟩
    injection e with e1
    rw [e1] at ht
    exact absurd ht (by decide)
  · rw [if_neg ht] at h2 ⊢
    by_cases hk : k = 0
    · subst hk
      rw [if_pos (by rfl), Bool.and_eq_true] at h2
      rw [if_pos rfl, h2.1, h2.2]
      refine ⟨fun e => ?_, by simp⟩
      injection e with _ _ e3
      have := (writB_iff m).1 h2.2
      omega
    · rw [if_neg (by simp [hk])] at h2
      rw [if_neg hk, Bool.and_assoc, h1, h2]
      exact ⟨fun e => by injection e with e1; exact hk e1, rfl⟩
/-! slots that are told -/
theorem aheadN_lt {S : Nat → Tag} (n : Nat) : aheadN (entsF S n) < n := by
  induction n with
  | zero => show (-1 : Int) < _; decide
  | succ n ih =>
    rw [entsF_succ]
    split
    · rw [List.append_nil]; omega
    · rw [aheadN_app]; simp; omega
theorem entsF_good (S : Nat → Tag) (h : ∀ s, s < 32 → S s = Tag.zero ∨ toldB true (S s) = true) : ∀ n, n ≤ 32 → ∀ k a, (entsF S n)[k]? = some a → entG ((entsF S n).take k) a := by
  intro n
  induction n with
  | zero => intro _ k a hk; simp [entsF] at hk
  | succ n ih =>
    intro hn k a hk
    rw [entsF_succ] at hk ⊢
    by_cases hz : S n = Tag.zero
    · rw [if_pos hz, List.append_nil] at hk ⊢
      exact ih (by omega) k a hk
    · rw [if_neg hz] at hk ⊢
      rcases Nat.lt_or_ge k (entsF S n).length with h1 | h1
      · rw [List.getElem?_append_left h1] at hk
        rw [List.take_append_of_le_length (by omega)]
        exact ih (by omega) k a hk
      · rw [List.getElem?_append_right h1] at hk
        have hk0 : k - (entsF S n).length = 0 := by
          rcases Nat.eq_zero_or_pos (k - (entsF S n).length) with h2 | h2
          · exact h2
          · rw [List.getElem?_eq_none (by simp; omega)] at hk; cases hk
        rw [hk0] at hk
        injection hk with hk
        subst hk
        rw [show k = (entsF S n).length by omega, List.take_left]
        refine ⟨(slotB_iff _).2 (by simp; omega), ?_, (h n (by omega)).resolve_left hz⟩
        have := aheadN_lt (S := S) n
        simpa using this
theorem stack_ents (S : Nat → Tag) (n s : Nat) : stackOf (entsF S n) s = if s < n then S s else Tag.zero := by
  induction n with
  | zero => rfl
  | succ n ih =>
    rw [entsF_succ]
    by_cases hz : S n = Tag.zero
    · rw [if_pos hz, List.append_nil, ih]
      by_cases h : s < n
      · rw [if_pos h, if_pos (by omega)]
      · rw [if_neg h]
        by_cases h2 : s = n
        · subst h2; rw [if_pos (by omega), hz]
        · rw [if_neg (by omega)]
    · rw [if_neg hz, stackOf_app]
      unfold setS
      by_cases h2 : s = n
      · subst h2; rw [if_pos (by simp), if_pos (by omega)]
      · rw [if_neg (by simp; omega), ih]
        by_cases h : s < n
        · rw [if_pos h, if_pos (by omega)]
        · rw [if_neg h, if_neg (by omega)]
theorem entsF_congr {S U : Nat → Tag} (n : Nat) (h : ∀ s, s < n → S s = U s) : entsF S n = entsF U n := by
  induction n with
  | zero => rfl
  | succ n ih => rw [entsF_succ, entsF_succ, ih (fun s hs => h s (by omega)), h n (by omega)]
theorem entsF_more {S : Nat → Tag} {n : Nat} (h : ∀ s, n ≤ s → S s = Tag.zero) (m : Nat) (hm : n ≤ m) : entsF S m = entsF S n := by
  induction m with
  | zero => rw [show n = 0 by omega]
  | succ m ih =>
    rcases Nat.lt_or_ge m n with h1 | h1
    · rw [show n = m + 1 by omega]
    · rw [entsF_succ, if_pos (h m h1), List.append_nil, ih h1]
/-- the entries of a list that is in order are those of what it makes -/
theorem ents_back (l : List Ent) : (∀ (k : Nat) a, l[k]? = some a → entG (l.take k) a) → entsF (stackOf l) 32 = l ∧ ∀ s : Nat, aheadN l < (s : Int) → stackOf l s = Tag.zero := by
  generalize hn : l.length = n
  induction n generalizing l with
  | zero =>
    intro _
    rw [List.eq_nil_of_length_eq_zero hn]
    exact ⟨by decide, fun s _ => rfl⟩
  | succ n ih =>
    obtain ⟨l, e, rfl⟩ : ∃ l' e, l = l' ++ [e] := by
      rcases List.eq_nil_or_concat l with h | ⟨l', e, h⟩
      · rw [h] at hn; cases hn
      · exact ⟨l', e, by rw [h, List.concat_eq_append]⟩
    intro h
    have hp : ∀ (k : Nat) a, l[k]? = some a → entG (l.take k) a := fun k a hk => by
      have hlt : k < l.length := by
        rcases Nat.lt_or_ge k l.length with h1 | h1
        · exact h1
        · rw [List.getElem?_eq_none h1] at hk; cases hk
      have := h k a (by rw [List.getElem?_append_left hlt]; exact hk)
      rw [List.take_append_of_le_length (by omega)] at this
      exact this
    obtain ⟨h1, h2⟩ := ih l (by simpa using hn) hp
    have he := h l.length e (by simp)
    rw [List.take_left] at he
    obtain ⟨g1, g2, g3⟩ := he
    have g4 := (slotB_iff _).1 g1
    obtain ⟨n, t⟩ := e
    simp only at g1 g2 g3 g4
    obtain ⟨s, rfl⟩ := Int.eq_ofNat_of_zero_le g4.1
    have hz : ∀ q, s ≤ q → stackOf l q = Tag.zero := fun q hq => h2 q (by omega)
    rw [stackOf_app]
    simp only [Int.toNat_natCast]
    constructor
    · have a1 : entsF (setS (stackOf l) s t) 32 = entsF (setS (stackOf l) s t) (s + 1) := by
        refine entsF_more (fun q hq => ?_) 32 (by omega)
        unfold setS
        rw [if_neg (by omega)]
        exact hz q (by omega)
      rw [a1, entsF_succ]
      have a2 : setS (stackOf l) s t s = t := by unfold setS; rw [if_pos rfl]
      rw [a2, if_neg (told_slot g3).1]
      congr 1
      rw [entsF_congr (U := stackOf l) s (fun q hq => by unfold setS; rw [if_neg (by omega)])]
      rw [← entsF_more hz 32 (by omega)]
      exact h1
    · intro q hq
      rw [aheadN_app] at hq
      unfold setS
      rw [if_neg (by simp at hq; omega)]
      exact hz q (by simp at hq; omega)
/-! constraints that rise -/
def rankC (x : Con) : Int := 59 * x.i + (if x.i < x.j then x.j - 1 else x.j)
theorem rank_up {a b : Con} (ha : conB a = true) (hb : conB b = true) (h : b.i > a.i ∨ (b.i = a.i ∧ b.j > a.j)) : rankC a < rankC b := by
  rw [con_split] at ha hb
  simp only [Bool.and_eq_true, Bool.not_eq_true', decide_eq_false_iff_not] at ha hb
  have a1 := (varB_iff _).1 ha.1
  have a2 := (varB_iff _).1 ha.2.1
  have b1 := (varB_iff _).1 hb.1
  have b2 := (varB_iff _).1 hb.2.1
  have a3 := ha.2.2.1
  have b3 := hb.2.2.1
  unfold rankC
  split <;> split <;> omega
theorem rank_rng {a : Con} (ha : conB a = true) : 0 ≤ rankC a ∧ rankC a < 3540 := by
  rw [con_split] at ha
  simp only [Bool.and_eq_true, Bool.not_eq_true', decide_eq_false_iff_not] at ha
  have a1 := (varB_iff _).1 ha.1
  have a2 := (varB_iff _).1 ha.2.1
  have a3 := ha.2.2.1
  unfold rankC
  split <;> omega
theorem rises_last {l : List Con} {a x : Con} (h : risesB (l ++ [a]) x = true) : x.i > a.i ∨ (x.i = a.i ∧ x.j > a.j) := by
  unfold risesB at h
  simp at h
  omega
theorem cons_rank (l : List Con) : (∀ (k : Nat) a, l[k]? = some a → conG (l.take k) a) → ∀ (k : Nat) a, l[k]? = some a → (k : Int) ≤ rankC a := by
  intro h k
  induction k with
  | zero => intro a ha; exact (rank_rng (h 0 a ha).1).1
  | succ k ih =>
    intro a ha
    have hlt : k + 1 < l.length := by
      rcases Nat.lt_or_ge (k + 1) l.length with h1 | h1
      · exact h1
      · rw [List.getElem?_eq_none h1] at ha; cases ha
    have hb : l[k]? = some l[k] := List.getElem?_eq_getElem (by omega)
    have h1 := ih _ hb
    have h2 := (h (k + 1) a ha).2
    rw [List.take_add_one, hb] at h2
    have h3 := rank_up (h k _ hb).1 (h (k + 1) a ha).1 (rises_last h2)
    omega
theorem cons_short (l : List Con) (h : ∀ (k : Nat) a, l[k]? = some a → conG (l.take k) a) : l.length ≤ 3540 := by
  rcases Nat.eq_zero_or_pos l.length with h0 | h0
  · omega
  · have hb : l[l.length - 1]? = some l[l.length - 1] := List.getElem?_eq_getElem (by omega)
    have h1 := cons_rank l h _ _ hb
    have h2 := (rank_rng (h _ _ hb).1).2
    omega
theorem consE_good (t : List Con) : ∀ l : List Con, consE l t = 0 → ∀ (k : Nat) a, t[k]? = some a → conG (l ++ t.take k) a := by
  induction t with
  | nil => intro l _ k a hk; simp at hk
  | cons c t ih =>
    intro l h k a hk
    unfold consE at h
    cases h1 : conB c
    · rw [h1, if_pos rfl] at h; exact absurd h (by decide)
    · rw [h1, if_neg (by decide)] at h
      cases h2 : risesB l c
      · rw [h2, if_pos rfl] at h; exact absurd h (by decide)
      · rw [h2, if_neg (by decide)] at h
        cases k with
        | zero =>
          simp at hk
          subst hk
          simp
          exact ⟨h1, h2⟩
        | succ k =>
          have h3 := ih (l ++ [c]) h k a (by simpa using hk)
          rw [List.take_succ_cons]
          rw [List.append_assoc] at h3
          exact h3
theorem consE_zero (t : List Con) : ∀ l : List Con, (∀ (k : Nat) a, t[k]? = some a → conG (l ++ t.take k) a) → consE l t = 0 := by
  induction t with
  | nil => intro l _; rfl
  | cons c t ih =>
    intro l h
    obtain ⟨h1, h2⟩ := h 0 c rfl
    simp at h1 h2
    unfold consE
    rw [if_neg (by rw [h1]; decide), if_neg (by rw [h2]; decide)]
    refine ih (l ++ [c]) fun k a hk => ?_
    have := h (k + 1) a (by simpa using hk)
    rw [List.take_succ_cons] at this
    rw [List.append_assoc]
    exact this
/-! claims -/
theorem all_get {p : Nat → Bool} {n : Nat} (h : (List.range n).all p = true) (j : Nat) (hj : j < n) : p j = true := List.all_eq_true.1 h j (List.mem_range.2 hj)
theorem claim_good {x : Mc} (h : wrongCl x = 0) : McG x ∧ clG (toCl x) := by
  unfold wrongCl at h
  cases hd : x.dead
  · rw [hd, if_neg (by decide)] at h
    cases hp : plainsB x.G
    · rw [hp, if_pos rfl] at h; exact absurd h (by decide)
    · rw [hp, if_neg (by decide)] at h
      unfold plainsB at hp
      rw [Bool.and_eq_true] at hp
      have hr : ∀ n, n < 10 → toldB false (x.G n) = true := fun n hn => by
        have := all_get hp.1 n hn
        rw [Bool.and_eq_true] at this
        exact plain_reg (of_decide_eq_true this.1) this.2
      have hs : ∀ s, s < 32 → x.G (10 + s) = Tag.zero ∨ toldB true (x.G (10 + s)) = true := fun s hs => plain_slot (all_get hp.2 s hs)
      have hc : ∀ (k : Nat) a, x.cons[k]? = some a → conG (x.cons.take k) a := fun k a hk => by
        have := consE_good x.cons [] h k a hk
        rw [List.nil_append] at this
        exact this
      have hl := cons_short x.cons hc
      refine ⟨⟨fun _ => hr, fun _ => hs, fun _ => ⟨fun c hcm => ?_, hl⟩⟩, .inr ?_⟩
      · obtain ⟨k, hk⟩ := List.mem_iff_getElem?.1 hcm
        exact (hc k c hk).1
      · unfold toCl
        rw [if_neg (by rw [hd]; decide)]
        refine ⟨rfl, ⟨by simp, fun k a hk => ?_⟩, ⟨?_, entsF_good _ hs 32 (by omega)⟩, hl, hc⟩
        · simp only [List.getElem?_map] at hk
          rcases Nat.lt_or_ge k 10 with h1 | h1
          · rw [List.getElem?_range h1] at hk
            injection hk with hk
            rw [← hk]
            exact hr k h1
          · rw [List.getElem?_eq_none (by simpa using h1)] at hk; cases hk
        · show (entsF (fun s => x.G (10 + s)) 32).length ≤ 32
          exact entsF_len (fun s => x.G (10 + s)) 32
  · refine ⟨⟨(fun e => by rw [hd] at e; cases e), (fun e => by rw [hd] at e; cases e), (fun e => by rw [hd] at e; cases e)⟩, .inl ?_⟩
    unfold toCl
    rw [if_pos hd]
/-- a claim that was read, in memory -/
def mcOf (x : Cl) : Mc := ⟨x.dead, tagsOf x, x.cons⟩
theorem mcOf_good {x : Cl} (h : clG x) : wrongCl (mcOf x) = 0 ∧ toCl (mcOf x) = x := by
  rcases h with rfl | ⟨hd, ⟨hr1, hr2⟩, ⟨he1, he2⟩, ⟨hc1, hc2⟩⟩
  · constructor
    · unfold wrongCl mcOf
      rw [dead_tags]
      decide
    · rfl
  · obtain ⟨d, r, es, cs⟩ := x
    simp only at hd hr1 hr2 he1 he2 hc1 hc2
    subst hd
    have hreg : ∀ n, n < 10 → ∃ a, r[n]? = some a ∧ tagsOf ⟨false, r, es, cs⟩ n = a ∧ toldB false a = true := fun n hn => by
      have h1 : r[n]? = some r[n] := List.getElem?_eq_getElem (by omega)
      refine ⟨_, h1, ?_, hr2 n _ h1⟩
      unfold tagsOf regG
      rw [if_pos hn, h1]; rfl
    have hst : ∀ s, tagsOf ⟨false, r, es, cs⟩ (10 + s) = stackOf es s := fun s => by
      unfold tagsOf
      rw [if_neg (by omega)]
      simp
    obtain ⟨hb1, hb2⟩ := ents_back es he2
    have hsl : ∀ s, s < 32 → plainB (stackOf es s) = true := fun s hs => by
      by_cases hz : stackOf es s = Tag.zero
      · rw [hz]; decide
      · have hm : ((s : Int), stackOf es s) ∈ entsF (stackOf es) 32 := by
          unfold entsF
          rw [List.mem_filterMap]
          exact ⟨s, List.mem_range.2 hs, by rw [if_neg hz]⟩
        rw [hb1] at hm
        obtain ⟨k, hk⟩ := List.mem_iff_getElem?.1 hm
        exact (told_slot (he2 k _ hk).2.2).2
    constructor
    · unfold wrongCl mcOf
      simp only
      rw [if_neg (by decide)]
      have hp : plainsB (tagsOf ⟨false, r, es, cs⟩) = true := by
        unfold plainsB
        rw [Bool.and_eq_true]
        refine ⟨all_yes fun n hn => ?_, all_yes fun s hs => ?_⟩
        · obtain ⟨a, _, h2, h3⟩ := hreg n hn
          rw [h2]
          have := told_reg h3
          rw [decide_eq_true this.1, this.2]; rfl
        · rw [hst]; exact hsl s hs
      rw [hp, if_neg (by decide)]
      exact consE_zero cs [] fun k a hk => by rw [List.nil_append]; exact hc2 k a hk
    · unfold toCl mcOf
      simp only
      rw [if_neg (by decide)]
      have e1 : (List.range 10).map (tagsOf ⟨false, r, es, cs⟩) = r := by
        apply List.ext_getElem?
        intro k
        rw [List.getElem?_map]
        rcases Nat.lt_or_ge k 10 with h1 | h1
        · obtain ⟨a, h2, h3, _⟩ := hreg k h1
          rw [List.getElem?_range h1, h2]
          simp [h3]
        · rw [List.getElem?_eq_none (by simpa using h1), List.getElem?_eq_none (by omega)]; rfl
      have e2 : entsF (fun s => tagsOf ⟨false, r, es, cs⟩ (10 + s)) 32 = es := by
        rw [entsF_congr (U := stackOf es) 32 (fun s _ => hst s)]
        exact hb1
      rw [e1, e2]
/-- two claims in memory that are held to be the same -/
def Mc.same (x y : Mc) : Prop := x.dead = y.dead ∧ (∀ k, k < 42 → x.G k = y.G k) ∧ x.cons = y.cons
theorem back_same {x : Mc} (h : wrongCl x = 0) : Mc.same (mcOf (toCl x)) x := by
  unfold wrongCl at h
  cases hd : x.dead
  · unfold toCl
    rw [if_neg (by rw [hd]; decide)]
    refine ⟨hd.symm, fun k hk => ?_, rfl⟩
    show tagsOf _ k = _
    unfold tagsOf
    by_cases h1 : k < 10
    · rw [if_pos h1]
      unfold regG
      simp [h1]
    · rw [if_neg h1, stack_ents, if_pos (by omega), show 10 + (k - 10) = k by omega]
  · rw [hd, if_pos rfl] at h
    have hb : bareB x = true := by
      cases hb : bareB x
      · rw [hb, if_neg (by decide)] at h; exact absurd h (by decide)
      · rfl
    unfold bareB at hb
    rw [Bool.and_eq_true, Bool.and_eq_true] at hb
    unfold toCl
    rw [if_pos hd]
    refine ⟨hd.symm, fun k hk => ?_, (List.eq_nil_of_length_eq_zero (of_decide_eq_true hb.2)).symm⟩
    show tagsOf deadCl k = _
    rw [dead_tags]
    by_cases h1 : k < 10
    · exact (of_decide_eq_true (all_get hb.1.1 k h1)).symm
    · have := of_decide_eq_true (all_get hb.1.2 (k - 10) (by omega))
      rw [show 10 + (k - 10) = k by omega] at this
      exact this.symm
/-! deeds -/
def clsE : List Mc → Int
  | [] => 0
  | x :: t => if wrongCl x = 0 then clsE t else wrongCl x
/-- what is wrong with a deed -/
def wrongMd (d : Md) : Int := if 8 < d.loops.length ∨ 512 < d.claims.length then 112 else if (∀ l ∈ d.loops, loopB l = true) then clsE d.claims else 113
theorem clsE_zero : ∀ {l : List Mc}, clsE l = 0 ↔ ∀ x ∈ l, wrongCl x = 0
  | [] => by simp [clsE]
  | x :: t => by
    unfold clsE
    by_cases h : wrongCl x = 0
    · rw [if_pos h, clsE_zero]; simp [h]
    · rw [if_neg h]; simp [h]
theorem deed_good {d : Md} (h : wrongMd d = 0) : MdG d ∧ deG (toDe d) := by
  unfold wrongMd at h
  by_cases h1 : 8 < d.loops.length ∨ 512 < d.claims.length
  · rw [if_pos h1] at h; exact absurd h (by decide)
  · rw [if_neg h1] at h
    by_cases h2 : ∀ l ∈ d.loops, loopB l = true
    · rw [if_pos h2] at h
      have h3 := clsE_zero.1 h
      refine ⟨⟨⟨h2, by omega⟩, ⟨fun c hc => (claim_good (h3 c hc)).1, by omega⟩⟩, ⟨by show d.loops.length ≤ 8; omega, fun k a hk => h2 a (List.mem_of_getElem? hk)⟩, by unfold toDe; simp; omega, fun k a hk => ?_⟩
      unfold toDe at hk
      simp only [List.getElem?_map, Option.map_eq_some_iff] at hk
      obtain ⟨c, hc, rfl⟩ := hk
      exact (claim_good (h3 c (List.mem_of_getElem? hc))).2
    · rw [if_neg h2] at h; exact absurd h (by decide)
def mdOf (d : De) : Md := ⟨d.loops, d.claims.map mcOf⟩
theorem mdOf_good {d : De} (h : deG d) : wrongMd (mdOf d) = 0 ∧ toDe (mdOf d) = d := by
  obtain ⟨⟨h1, h2⟩, h3, h4⟩ := h
  have hc : ∀ x ∈ d.claims, clG x := fun x hx => by
    obtain ⟨k, hk⟩ := List.mem_iff_getElem?.1 hx
    exact h4 k x hk
  constructor
  · unfold wrongMd mdOf
    rw [if_neg (by simp only [List.length_map]; omega), if_pos (fun l hl => by
      obtain ⟨k, hk⟩ := List.mem_iff_getElem?.1 hl
      exact h2 k l hk)]
    rw [clsE_zero]
    intro x hx
    obtain ⟨y, hy, rfl⟩ := List.mem_map.1 hx
    exact (mcOf_good (hc y hy)).1
  · unfold toDe mdOf
    obtain ⟨l, c⟩ := d
    simp only [List.map_map]
    congr 1
    refine (List.map_congr_left fun x hx => ?_).trans (List.map_id c)
    exact (mcOf_good (hc x hx)).2
/-- two deeds in memory that are held to be the same -/
def Md.same (d x : Md) : Prop := d.loops = x.loops ∧ d.claims.length = x.claims.length ∧ ∀ (k : Nat) a b, d.claims[k]? = some a → x.claims[k]? = some b → Mc.same a b
theorem deed_back {d : Md} (h : wrongMd d = 0) : Md.same (mdOf (toDe d)) d := by
  unfold wrongMd at h
  by_cases h1 : 8 < d.loops.length ∨ 512 < d.claims.length
  · rw [if_pos h1] at h; exact absurd h (by decide)
  · rw [if_neg h1] at h
    by_cases h2 : ∀ l ∈ d.loops, loopB l = true
    · rw [if_pos h2] at h
      have h3 := clsE_zero.1 h
      refine ⟨rfl, by unfold mdOf toDe; simp, fun k a b ha hb => ?_⟩
      unfold mdOf toDe at ha
      simp only [List.map_map, List.getElem?_map, hb, Option.map_some, Option.some.injEq, Function.comp] at ha
      rw [← ha]
      exact back_same (h3 b (List.mem_of_getElem? hb))
    · rw [if_neg h2] at h; exact absurd h (by decide)
end Go.Proofs.Ytbomihdnnidelaa
