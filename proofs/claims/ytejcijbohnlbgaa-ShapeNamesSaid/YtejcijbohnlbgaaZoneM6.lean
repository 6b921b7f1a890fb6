/- Mathematics of ZoneTight: the assignment that reaches a bound. -/
import Derived.Test.YtejcijbohnlbgaaZoneM5
import Derived.Test.YtejcijbohnlbgaaZU
import Derived.Test.YtejcijbohnlbgaaZV
namespace Go.Proofs.Ytejcijbohnlbgaa
open Zon
set_option linter.unusedVariables false
set_option maxRecDepth 100000
def valR (M : Tab) (q j k : Nat) : Int := if k = j then M q k else M q k + 1125899906842624
theorem rk_le {M : Tab} {q j : Nat} : ∀ (n k : Nat), k < n → M q k ≠ 3458764513820540928 → rk M q j n ≤ valR M q j k
  | n + 1, k, hk, hne => by
    have e : rk M q j (n + 1) = if M q n = 3458764513820540928 then rk M q j n else if valR M q j n < rk M q j n then valR M q j n else rk M q j n := rfl
    rw [e]
    by_cases hkn : k = n
    · subst hkn
      rw [if_neg hne]
      split <;> omega
    · have ih := rk_le (j := j) n k (by omega) hne
      split
      · exact ih
      · split <;> omega
theorem rk_at {M : Tab} {q j : Nat} : ∀ (n : Nat), rk M q j n = 36028797018963968 ∨ ∃ k, k < n ∧ M q k ≠ 3458764513820540928 ∧ rk M q j n = valR M q j k
  | 0 => .inl rfl
  | n + 1 => by
    have e : rk M q j (n + 1) = if M q n = 3458764513820540928 then rk M q j n else if valR M q j n < rk M q j n then valR M q j n else rk M q j n := rfl
    rw [e]
    have ih := rk_at (M := M) (q := q) (j := j) n
    have up : (rk M q j n = 36028797018963968 ∨ ∃ k, k < n ∧ M q k ≠ 3458764513820540928 ∧ rk M q j n = valR M q j k) → (rk M q j n = 36028797018963968 ∨ ∃ k, k < n + 1 ∧ M q k ≠ 3458764513820540928 ∧ rk M q j n = valR M q j k) := fun h => by
      rcases h with h | ⟨k, h1, h2, h3⟩
      · exact .inl h
      · exact .inr ⟨k, by omega, h2, h3⟩
    split
    · exact up ih
    · rename_i hne
      split
      · exact .inr ⟨n, by omega, hne, rfl⟩
      · exact up ih
/-- a closed table whose bounds are small -/
structure Tight (M : Tab) : Prop where
  ok : OkT M
  diag : ∀ p, p < 60 → M p p = 0
  tri : ∀ p r q, p < 60 → r < 60 → q < 60 → M p r ≠ 3458764513820540928 → M r q ≠ 3458764513820540928 → M p q ≤ M p r + M r q
  bd : ∀ p q, p < 60 → q < 60 → M p q ≠ 3458764513820540928 → -200000000000000 ≤ M p q ∧ M p q ≤ 200000000000000
theorem Cl.tight {L : List Con} {M : Tab} (h : Cl (· ∈ smallL L) M) : Tight M := ⟨h.ok, h.diag, h.tri, fun p q hp hq hne => by have := cl_bound40 h hp hq hne; omega⟩
theorem Tight.att {M : Tab} (h : Tight M) {q j : Nat} (hq : q < 60) : ∃ k, k < 60 ∧ M q k ≠ 3458764513820540928 ∧ rF M j q = valR M q j k := by
  have hd := h.diag q hq
  have hle := rk_le (M := M) (q := q) (j := j) 60 q hq (by omega)
  rcases rk_at (M := M) (q := q) (j := j) 60 with e | ⟨k, h1, h2, h3⟩
  · exfalso
    unfold valR at hle
    split at hle <;> omega
  · exact ⟨k, h1, h2, h3⟩
theorem Tight.rng {M : Tab} (h : Tight M) {q j : Nat} (hq : q < 60) : -200000000000000 ≤ rF M j q ∧ rF M j q ≤ 1125899906842624 := by
  obtain ⟨k, hk, hne, e⟩ := h.att (j := j) hq
  have hb := h.bd q k hq hk hne
  have hle := rk_le (M := M) (q := q) (j := j) 60 q hq (by rw [h.diag q hq]; omega)
  have hle : rF M j q ≤ valR M q j q := hle
  have hd := h.diag q hq
  unfold valR at e hle
  constructor
  · split at e <;> omega
  · split at hle <;> omega
theorem Tight.i64 {M : Tab} (h : Tight M) {j : Nat} (q : Nat) (hq : q < 60) : I64 (reachV M j q) := by
  have h1 := h.rng (j := j) hq
  have h2 := h.rng (j := j) (q := 0) (by omega)
  unfold I64 reachV
  omega
/-- the differences keep the table's bounds -/
theorem Tight.meets {M : Tab} (h : Tight M) (j : Nat) : Meets M (reachV M j) := fun p q hp hq hne => by
  obtain ⟨k, hk, hk2, e⟩ := h.att (j := j) hq
  have ht := h.tri p q k hp hq hk hne hk2
  have b1 := h.bd p q hp hq hne
  have b2 := h.bd q k hq hk hk2
  have hf : M p k ≠ 3458764513820540928 := by omega
  have hle : rF M j p ≤ valR M p j k := rk_le (M := M) (q := p) (j := j) 60 k hk hf
  show rF M j p - rF M j 0 - (rF M j q - rF M j 0) ≤ M p q
  unfold valR at e hle
  split at e
  · rw [if_pos ‹_›] at hle; omega
  · rw [if_neg ‹_›] at hle; omega
theorem Tight.own {M : Tab} (h : Tight M) {j : Nat} (hj : j < 60) : rF M j j = 0 := by
  obtain ⟨k, hk, hk2, e⟩ := h.att (j := j) hj
  have hd := h.diag j hj
  have hle : rF M j j ≤ valR M j j j := rk_le (M := M) (q := j) (j := j) 60 j hj (by omega)
  have b2 := h.bd j k hj hk hk2
  unfold valR at e hle
  rw [if_pos rfl] at hle
  by_cases hkj : k = j
  · subst hkj; rw [if_pos rfl] at e; omega
  · rw [if_neg hkj] at e; omega
theorem Tight.reach {M : Tab} (h : Tight M) {p j : Nat} (hp : p < 60) (hj : j < 60) (hne : M p j ≠ 3458764513820540928) : reachV M j p - reachV M j j = M p j := by
  obtain ⟨k, hk, hk2, e⟩ := h.att (j := j) hp
  have hle : rF M j p ≤ valR M p j j := rk_le (M := M) (q := p) (j := j) 60 j hj hne
  have b1 := h.bd p j hp hj hne
  have b2 := h.bd p k hp hk hk2
  have ho := h.own hj
  unfold reachV
  unfold valR at e hle
  rw [if_pos rfl] at hle
  by_cases hkj : k = j
  · subst hkj; rw [if_pos rfl] at e; omega
  · rw [if_neg hkj] at e; omega
theorem Tight.beyond {M : Tab} (h : Tight M) {p j : Nat} (hp : p < 60) (hj : j < 60) (hno : M p j = 3458764513820540928) : 281474976710656 < reachV M j p - reachV M j j := by
  obtain ⟨k, hk, hk2, e⟩ := h.att (j := j) hp
  have b2 := h.bd p k hp hk hk2
  have ho := h.own hj
  unfold reachV
  unfold valR at e
  by_cases hkj : k = j
  · subst hkj; exact absurd hno hk2
  · rw [if_neg hkj] at e; omega
theorem metB_of {a : Nat → Int} {x : Con} (h : wrong1 x = 0) (g : a x.i.toNat - a x.j.toNat ≤ x.c) : metB a x = true := by
  unfold metB
  rw [h, decide_eq_false (by omega)]
  rfl
theorem met_all {L : List Con} {a : Nat → Int} (h : ∀ x ∈ L, metB a x = true) : metL L a = L := List.filter_eq_self.mpr h
/-- an assignment of the closed table's meets what was handed in -/
theorem Cl.met {L : List Con} {M : Tab} (h : Cl (· ∈ smallL L) M) {a : Nat → Int} (ha : Meets M a) : metL (smallL L) a = smallL L := met_all fun x hx => by
  have hr := (small_right L x hx).1
  obtain ⟨⟨g1, g2⟩, ⟨g3, g4⟩, g5⟩ := wrong1_zero hr
  have hle := h.le x.i.toNat x.j.toNat x.c (by rw [← con_eq hr]; exact hx) (by omega) (by omega)
  have hne : M x.i.toNat x.j.toNat ≠ 3458764513820540928 := by omega
  have := ha x.i.toNat x.j.toNat (by omega) (by omega) hne
  exact metB_of hr (by omega)
/-- bounds that leave nothing are not met -/
theorem met_less {L : List Con} (h : withZ (some topT) (smallL L) = none) (a : Nat → Int) : (metL (smallL L) a).length < (smallL L).length := by
  have hle : (metL (smallL L) a).length ≤ (smallL L).length := List.length_filter_le _ _
  rcases Nat.lt_or_ge (metL (smallL L) a).length (smallL L).length with h1 | h1
  · exact h1
  · exfalso
    have heq : metL (smallL L) a = smallL L := List.filter_eq_self.mpr (List.length_filter_eq_length_iff.mp (by unfold metL at *; omega))
    have hall : ∀ x ∈ smallL L, MetBy a x := fun x hx => by
      have := List.filter_eq_self.mp heq x hx
      unfold metB at this
      simp only [Bool.and_eq_true, beq_iff_eq, Bool.not_eq_true', decide_eq_false_iff_not] at this
      exact ⟨this.1, by omega⟩
    obtain ⟨N, e, _⟩ := withZ_meets okT_top (meets_top a) (smallL L) hall
    rw [h] at e
    cases e
theorem small_cl {L : List Con} {M : Tab} (h : withZ (some topT) (smallL L) = some M) : Cl (· ∈ smallL L) M := by
  rcases with_cl _ (small_right L) with ⟨N, h1, h2⟩ | ⟨h1, _⟩
  · rw [h] at h1; injection h1 with e; exact e ▸ h2
  · rw [h] at h1; cases h1
end Go.Proofs.Ytejcijbohnlbgaa
