/- What a closed zone tells makes it again: mathematics of ZoneBack. -/
import Derived.Test.YtejcijbohnlbgaaZoneM4
import Derived.Test.YtejcijbohnlbgaaZR
import Derived.Test.YtejcijbohnlbgaaZQ
namespace Go.Proofs.Ytejcijbohnlbgaa
open Zon
set_option linter.unusedVariables false
set_option maxRecDepth 100000
theorem smallB_of {x : Con} (h : smallB x = true) : wrong1 x = 0 ∧ -1099511627776 ≤ x.c ∧ x.c ≤ 1099511627776 := by
  unfold smallB at h
  simp only [Bool.and_eq_true, beq_iff_eq, decide_eq_true_eq] at h
  exact ⟨h.1.1, h.1.2, h.2⟩
theorem small_right (L : List Con) : SmallR (smallL L) := fun x hx => by
  have := smallB_of (List.mem_filter.mp hx).2
  exact ⟨this.1, by omega, by omega⟩
theorem wrongL_all {L : List Con} (h : ∀ x ∈ L, wrong1 x = 0) : wrongL L = 0 := by
  induction L with
  | nil => rfl
  | cons x L ih =>
    show (if wrong1 x = 0 then wrongL L else wrong1 x) = 0
    rw [if_pos (h x (by simp))]
    exact ih fun y hy => h y (by simp [hy])
theorem wrongL_small (L : List Con) : wrongL (smallL L) = 0 := wrongL_all (small_right L).right
theorem cl_bound40 {L : List Con} {M : Tab} (h : Cl (· ∈ smallL L) M) {p q : Nat} (hp : p < 60) (hq : q < 60) (hne : M p q ≠ 3458764513820540928) : -64871186038784 ≤ M p q ∧ M p q ≤ 64871186038784 := by
  obtain ⟨l, hn, h1, h2, hw⟩ := h.way p q hp hq hne
  have hb := hw.bound (B := 1099511627776) (fun x hx => (smallB_of (List.mem_filter.mp hx).2).2)
  have hl := nodup_length 60 l hn hw.lt
  have h0 : 0 < l.length := List.length_pos_iff.mpr hw.ne
  omega
theorem mem_consT {M : Tab} {x : Con} : x ∈ consT M ↔ ∃ p q : Nat, p < 60 ∧ q < 60 ∧ p ≠ q ∧ M p q ≠ 3458764513820540928 ∧ x = ⟨p, q, M p q⟩ := by
  unfold consT consN rowN
  simp only [List.mem_flatMap, List.mem_range, List.mem_filterMap]
  constructor
  · rintro ⟨p, hp, q, hq, h⟩
    unfold cellC at h
    split at h
    · rename_i hc
      injection h with h
      exact ⟨p, q, hp, hq, hc.1, hc.2, h.symm⟩
    · cases h
  · rintro ⟨p, q, hp, hq, h1, h2, rfl⟩
    exact ⟨p, hp, q, hq, if_pos ⟨h1, h2⟩⟩
theorem cons_right {L : List Con} {M : Tab} (h : Cl (· ∈ smallL L) M) : SmallR (consT M) := fun x hx => by
  obtain ⟨p, q, hp, hq, h1, h2, rfl⟩ := mem_consT.mp hx
  have hb := cl_bound40 h hp hq h2
  refine ⟨?_, by show _ ≤ M p q; omega, by show M p q ≤ _; omega⟩
  unfold wrong1 varB rngB
  have a1 : (decide ((0 : Int) ≤ (p : Int)) && decide ((p : Int) < 60)) = true := by simp; omega
  have a2 : (decide ((0 : Int) ≤ (q : Int)) && decide ((q : Int) < 60)) = true := by simp; omega
  have a3 : (decide (-1152921504606846976 ≤ M p q) && decide (M p q ≤ 1152921504606846976)) = true := by simp; omega
  simp only [a1, a2, a3]
  rfl
theorem cl_again {L : List Con} {M : Tab} (h : Cl (· ∈ smallL L) M) : Cl (· ∈ consT M) M := by
  refine ⟨h.ok, h.diag, h.tri, fun p q c hc hp hq => ?_, fun p q hp hq hne => ?_⟩
  · obtain ⟨p', q', _, _, _, _, e⟩ := mem_consT.mp hc
    injection e with e1 e2 e3
    have : p = p' := by omega
    have : q = q' := by omega
    subst_vars
    exact Int.le_refl _
  · by_cases e : p = q
    · subst e
      exact ⟨[p], by simp, rfl, rfl, by rw [h.diag p hp]; exact .one p hp⟩
    · refine ⟨[p, q], by simp [e], rfl, rfl, ?_⟩
      have := Way.more (E := (· ∈ consT M)) p q (M p q) [] 0 hp (mem_consT.mpr ⟨p, q, hp, hq, e, hne, rfl⟩) (.one q hq)
      rwa [Int.add_zero] at this
/-- the zone of small bounds, told and made again -/
theorem back_math (L : List Con) {M : Tab} (h : withZ (some topT) (smallL L) = some M) :
    wrongL (consT M) = 0 ∧ (∃ N, withZ (some topT) (consT M) = some N ∧ sameZB (some N) (some M) = true) ∧ (∃ N, closeZ (consT M) = some N ∧ sameZB (some N) (some M) = true) := by
  have hM : Cl (· ∈ smallL L) M := by
    rcases with_cl _ (small_right L) with ⟨N, h1, h2⟩ | ⟨h1, _⟩
    · rw [h] at h1; injection h1 with e; exact e ▸ h2
    · rw [h] at h1; cases h1
  have hK := cons_right hM
  have hC := cl_again hM
  have hw : ∃ N, withZ (some topT) (consT M) = some N ∧ sameZB (some N) (some M) = true := by
    rcases with_cl _ hK with ⟨N, h1, h2⟩ | ⟨_, h2⟩
    · exact ⟨N, h1, sameTB_true.mpr (h2.uniq hC hK.small hK.right (fun _ => Iff.rfl))⟩
    · exact absurd h2 (hC.noRound hK.small hK.right)
  refine ⟨wrongL_all hK.right, hw, ?_⟩
  obtain ⟨N, h1, h2⟩ := hw
  have h3 := close_cl _ hK
  rw [h1] at h3
  cases hc : closeZ (consT M) with
  | none => rw [hc] at h3; exact h3.elim
  | some N' =>
    rw [hc] at h3
    have h4 := sameTB_true.mp h2
    exact ⟨N', rfl, sameTB_true.mpr fun p q hp hq => (h3 p q hp hq).trans (h4 p q hp hq)⟩
theorem in_of_same {z o : Zn} (h : sameZB z o = true) : inZB z o = true ∧ inZB o z = true := by
  cases z <;> cases o
  · exact ⟨rfl, rfl⟩
  · cases h
  · cases h
  · have h := sameTB_true.mp h
    exact ⟨inTB_true.mpr fun p q hp hq => by rw [h p q hp hq]; exact Int.le_refl _, inTB_true.mpr fun p q hp hq => by rw [h p q hp hq]; exact Int.le_refl _⟩
end Go.Proofs.Ytejcijbohnlbgaa
