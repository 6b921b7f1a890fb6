/- Package pack: the document's own look at one section: its mathematics. -/
import Derived.Test.YtkfcfoidaalnlaaPkRc
namespace Go.Proofs.Ytkfcfoidaalnlaa.Pak
open Go.ChangeShapes Go.WideShapes Go.ChangeAt Go.RowKit
set_option linter.unusedVariables false
set_option linter.unusedSimpArgs false
/-- what the document's fault answers of what is left of e bytes: where, what, and where the section ends -/
def faultR (last : Int) (r : List Int) (e : Nat) : Nat × Int × Nat := match secR last r with
  | .error x => (e - x.1, x.2, e)
  | .ok ((kind, c), t) => match into Pk.none kind c (c.length + t.length) with
    | .error x => (e - x.1, x.2, e)
    | .ok _ => (0, 0, e - t.length)
theorem into_err_free (k k' : Pk) (kind : Int) (c : List Int) (left : Nat) (x : Fl) : into k kind c left = .error x ↔ into k' kind c left = .error x := by
  unfold into
  by_cases h1 : kind = 1
  · rw [if_pos h1, if_pos h1]
    by_cases h2 : num (c.drop 2) < num (c.take 2)
    · rw [if_pos h2, if_pos h2]
    · rw [if_neg h2, if_neg h2]; constructor <;> intro h <;> cases h
  · rw [if_neg h1, if_neg h1]
    by_cases h2 : kind = 2
    · rw [if_pos h2, if_pos h2]
      cases tabsR [] left c with
      | ok t => constructor <;> intro h <;> cases h
      | error e => exact Iff.rfl
    · rw [if_neg h2, if_neg h2]
      by_cases h3 : kind = 3
      · rw [if_pos h3, if_pos h3]; constructor <;> intro h <;> cases h
      · rw [if_neg h3, if_neg h3]; constructor <;> intro h <;> cases h
section
variable {last kind : Int} {T : List Int} {e : Nat}
theorem fr1 (h : follows last kind = false) : faultR last (kind :: T) e = (e - (T.length + 1), 120, e) := by
  unfold faultR
  rw [show secR last (kind :: T) = secC last kind T from rfl]
  unfold secC
  rw [if_pos h]
theorem fr2 (h : follows last kind = true) (h2 : T.length < 3) : faultR last (kind :: T) e = (e, 120, e) := by
  unfold faultR
  rw [show secR last (kind :: T) = secC last kind T from rfl]
  unfold secC
  rw [if_neg (by rw [h]; simp), if_pos h2]
  rfl
theorem fr3 (h : follows last kind = true) (h2 : ¬ T.length < 3) (h3 : uncounted kind (num (T.take 3)) ≠ 0) : faultR last (kind :: T) e = (e - T.length, uncounted kind (num (T.take 3)), e) := by
  unfold faultR
  rw [show secR last (kind :: T) = secC last kind T from rfl]
  unfold secC
  rw [if_neg (by rw [h]; simp), if_neg h2, if_pos h3]
theorem fr4 (h : follows last kind = true) (h2 : ¬ T.length < 3) (h3 : uncounted kind (num (T.take 3)) = 0) (h4 : (T.drop 3).length < (num (T.take 3)).toNat) : faultR last (kind :: T) e = (e, 120, e) := by
  unfold faultR
  rw [show secR last (kind :: T) = secC last kind T from rfl]
  unfold secC
  rw [if_neg (by rw [h]; simp), if_neg h2, if_neg (by rw [h3]; simp), if_pos h4]
  rfl
theorem sec_of {z : Nat} (h : follows last kind = true) (h2 : ¬ T.length < 3) (h3 : uncounted kind (num (T.take 3)) = 0) (hz : (num (T.take 3)).toNat = z) (h4 : z ≤ (T.drop 3).length) : secR last (kind :: T) = .ok ((kind, (T.drop 3).take z), (T.drop 3).drop z) := by
  rw [show secR last (kind :: T) = secC last kind T from rfl]
  unfold secC
  rw [if_neg (by rw [h]; simp), if_neg h2, if_neg (by rw [h3]; simp), if_neg (by omega), hz]
theorem fr5 {z : Nat} (h : follows last kind = true) (h2 : ¬ T.length < 3) (h3 : uncounted kind (num (T.take 3)) = 0) (hz : (num (T.take 3)).toNat = z) (h4 : z ≤ (T.drop 3).length) {x : Fl} (hi : into Pk.none kind ((T.drop 3).take z) ((T.drop 3).length) = .error x) : faultR last (kind :: T) e = (e - x.1, x.2, e) := by
  unfold faultR
  rw [sec_of h h2 h3 hz h4]
  have : ((T.drop 3).take z).length + ((T.drop 3).drop z).length = (T.drop 3).length := by rw [List.length_take, List.length_drop (i := z)]; omega
  simp only [this, hi]
theorem fr6 {z : Nat} (h : follows last kind = true) (h2 : ¬ T.length < 3) (h3 : uncounted kind (num (T.take 3)) = 0) (hz : (num (T.take 3)).toNat = z) (h4 : z ≤ (T.drop 3).length) {k : Pk} (hi : into Pk.none kind ((T.drop 3).take z) ((T.drop 3).length) = .ok k) : faultR last (kind :: T) e = (0, 0, e - ((T.drop 3).length - z)) := by
  unfold faultR
  rw [sec_of h h2 h3 hz h4]
  have : ((T.drop 3).take z).length + ((T.drop 3).drop z).length = (T.drop 3).length := by rw [List.length_take, List.length_drop (i := z)]; omega
  simp only [this, hi]
  rw [List.length_drop (i := z)]
end
/-- tables, byte by byte -/
def okb (x : Int) : Bool := decide (1 ≤ x) && decide (x ≤ 64)
theorem tabs_bad : ∀ (c : List Int) (acc : List (Int × Int)) (left i : Nat), c.length % 2 = 0 → i < c.length → (∀ j, j < i → okb (c[j]?.getD 0) = true) → okb (c[i]?.getD 0) = false → tabsR acc left c = .error (left - i, 122)
  | [], _, _, i, _, hi, _, _ => by simp at hi
  | [_], _, _, _, h, _, _, _ => by simp at h
  | a :: b :: s, acc, left, i, h, hi, hj, hb => by
    unfold tabsR
    match i, hi, hj, hb with
    | 0, _, _, hb =>
      have h1 : okb a = false := by simpa using hb
      unfold okb at h1
      rw [if_pos h1, Nat.sub_zero]
    | 1, _, hj, hb =>
      have h0 : okb a = true := by simpa using hj 0 (by omega)
      have h1 : okb b = false := by simpa using hb
      unfold okb at h0 h1
      rw [if_neg (by rw [h0]; simp), if_pos h1]
    | i + 2, hi, hj, hb =>
      have h0 : okb a = true := by simpa using hj 0 (by omega)
      have h1 : okb b = true := by simpa using hj 1 (by omega)
      unfold okb at h0 h1
      rw [if_neg (by rw [h0]; simp), if_neg (by rw [h1]; simp)]
      have := tabs_bad s (acc ++ [(a, b)]) (left - 2) i (by simp at h; omega) (by simp at hi; omega) (fun j hjl => by have := hj (j + 2) (by omega); simpa using this) (by simpa using hb)
      rw [this, show left - 2 - i = left - (i + 2) by omega]
theorem tabs_good : ∀ (c : List Int) (acc : List (Int × Int)) (left : Nat), (∀ j, j < c.length → okb (c[j]?.getD 0) = true) → ∃ t, tabsR acc left c = .ok t
  | [], acc, _, _ => ⟨acc, rfl⟩
  | [_], acc, _, _ => ⟨acc, rfl⟩
  | a :: b :: s, acc, left, hj => by
    have h0 : okb a = true := by simpa using hj 0 (by simp)
    have h1 : okb b = true := by simpa using hj 1 (by simp)
    unfold okb at h0 h1
    unfold tabsR
    rw [if_neg (by rw [h0]; simp), if_neg (by rw [h1]; simp)]
    exact tabs_good s _ _ fun j hjl => by have := hj (j + 2) (by simp; omega); simpa using this
/-- the pairs -/
def pairs : List Int → List (Int × Int)
  | a :: b :: t => (a, b) :: pairs t
  | _ => []
theorem pairs_len : ∀ (c : List Int), (pairs c).length = c.length / 2
  | [] => rfl
  | [_] => by simp [pairs]
  | a :: b :: t => by show (pairs t).length + 1 = _; rw [pairs_len t]; simp; omega
theorem tabs_pairs : ∀ (c : List Int) (acc t : List (Int × Int)) (left : Nat), tabsR acc left c = .ok t → t = acc ++ pairs c
  | [], acc, t, left, h => by injection h with h; rw [← h]; exact (List.append_nil _).symm
  | [_], acc, t, left, h => by injection h with h; rw [← h]; exact (List.append_nil _).symm
  | a :: b :: s, acc, t, left, h => by
    unfold tabsR at h
    by_cases h1 : (decide (1 ≤ a) && decide (a ≤ 64)) = false
    · rw [if_pos h1] at h; cases h
    rw [if_neg h1] at h
    by_cases h2 : (decide (1 ≤ b) && decide (b ≤ 64)) = false
    · rw [if_pos h2] at h; cases h
    rw [if_neg h2] at h
    rw [tabs_pairs s _ t _ h, List.append_assoc]
    rfl
theorem pairs_step : ∀ (c : List Int) (j : Nat), 2 * j + 1 < c.length → (pairs c).take (j + 1) = (pairs c).take j ++ [(c[2 * j]?.getD 0, c[2 * j + 1]?.getD 0)]
  | [], _, h => by simp at h
  | [_], _, h => by simp at h
  | a :: b :: t, 0, _ => rfl
  | a :: b :: t, j + 1, h => by
    have := pairs_step t j (by simp at h; omega)
    show (a, b) :: (pairs t).take (j + 1) = (a, b) :: ((pairs t).take j ++ _)
    rw [this]
    simp [show 2 * (j + 1) = 2 * j + 2 by omega]
theorem uncounted_rng {kind n : Int} (h : uncounted kind n = 0) : n ≠ 0 ∧ (kind = 1 → n = 4) ∧ (kind = 2 → n % 2 = 0 ∧ n ≤ 16) ∧ (kind = 3 → n ≤ 4096) := by
  unfold uncounted at h
  by_cases h1 : n = 0 ∨ (kind = 1 ∧ n ≠ 4) ∨ (kind = 2 ∧ n % 2 ≠ 0)
  · rw [if_pos h1] at h; exact absurd h (by decide)
  rw [if_neg h1] at h
  by_cases h2 : kind = 2 ∧ 16 < n
  · rw [if_pos h2] at h; exact absurd h (by decide)
  rw [if_neg h2] at h
  by_cases h3 : kind = 3 ∧ 4096 < n
  · rw [if_pos h3] at h; exact absurd h (by decide)
  refine ⟨fun e => h1 (.inl e), fun e => ?_, fun e => ⟨?_, ?_⟩, fun e => ?_⟩
  · exact Classical.byContradiction fun h4 => h1 (.inr (.inl ⟨e, h4⟩))
  · exact Classical.byContradiction fun h4 => h1 (.inr (.inr ⟨e, h4⟩))
  · exact Int.not_lt.1 fun h4 => h2 ⟨e, h4⟩
  · exact Int.not_lt.1 fun h4 => h3 ⟨e, h4⟩
end Go.Proofs.Ytkfcfoidaalnlaa.Pak
