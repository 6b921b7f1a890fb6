/- The plain mathematics of zones: what the other calls make. No program is named. -/
import Derived.Test.YtejcijbohnlbgaaZoneMath
namespace Go.Proofs.Ytejcijbohnlbgaa.Zon
set_option linter.unusedVariables false
def freeT (M : Tab) (v : Nat) : Tab := fun p q => if p = q then (if p = v then 0 else M p q) else if p = v ∨ q = v then 3458764513820540928 else M p q
theorem okT_free {M : Tab} (h : OkT M) (v : Nat) : OkT (freeT M v) := fun p q hp hq => by
  unfold freeT; split
  · split
    · exact ok_zero
    · exact h p q hp hq
  · split
    · exact ok_no
    · exact h p q hp hq
def renewB (v : Int) : Bool := decide (1 ≤ v) && decide (v < 60)
def forgetT (M : Tab) (vs : List Int) : Tab := vs.foldl (fun M v => if renewB v then freeT M v.toNat else M) M
def forgetZ (z : Zn) (vs : List Int) : Zn := z.map fun M => forgetT M vs
def assignT (M : Tab) (x y : Nat) (c : Int) : Tab := fun p q => if p = q then M p q else if p = x then psum (M y q) c else if q = x then psum (M p y) (-c) else M p q
theorem okT_assign {M : Tab} (h : OkT M) (x y : Nat) (c : Int) : OkT (assignT M x y c) := fun p q hp hq => by
  unfold assignT; split
  · exact h p q hp hq
  · split
    · exact psum_ok _ _
    · split
      · exact psum_ok _ _
      · exact h p q hp hq
def joinT (M O : Tab) : Tab := fun p q => max (M p q) (O p q)
def keepT (M O : Tab) : Tab := fun p q => if O p q ≤ M p q then M p q else 3458764513820540928
theorem okT_join {M O : Tab} (h : OkT M) (g : OkT O) : OkT (joinT M O) := fun p q hp hq => (h p q hp hq).max (g p q hp hq)
theorem okT_keep {M O : Tab} (h : OkT M) : OkT (keepT M O) := fun p q hp hq => by unfold keepT; split; exact h p q hp hq; exact ok_no
def mergeZ (f : Tab → Tab → Tab) (z o : Zn) : Zn := match z, o with | none, o => o | z, none => z | some M, some O => some (f M O)
/-- no bound is greater -/
def inT (M O : Tab) : Prop := ∀ p q, p < 60 → q < 60 → M p q ≤ O p q
def inZ (z o : Zn) : Prop := match z, o with | none, _ => True | some _, none => False | some M, some O => inT M O
/-- the bounds, row by row -/
def cellC (M : Tab) (p q : Nat) : Option Con := if p ≠ q ∧ M p q ≠ 3458764513820540928 then some ⟨p, q, M p q⟩ else none
def rowN (M : Tab) (p k : Nat) : List Con := (List.range k).filterMap (cellC M p)
def consN (M : Tab) (k : Nat) : List Con := (List.range k).flatMap fun p => rowN M p 60
def consT (M : Tab) : List Con := consN M 60
theorem rowN_yes {M : Tab} {p k : Nat} (h1 : p ≠ k) (h2 : M p k ≠ 3458764513820540928) : rowN M p (k + 1) = rowN M p k ++ [⟨p, k, M p k⟩] := by
  unfold rowN
  rw [List.range_succ, List.filterMap_append]
  have : cellC M p k = some ⟨p, k, M p k⟩ := if_pos ⟨h1, h2⟩
  simp [this]
theorem rowN_no {M : Tab} {p k : Nat} (h : p = k ∨ M p k = 3458764513820540928) : rowN M p (k + 1) = rowN M p k := by
  unfold rowN
  rw [List.range_succ, List.filterMap_append]
  have : cellC M p k = none := if_neg (by omega)
  simp [this]
theorem consN_succ (M : Tab) (k : Nat) : consN M (k + 1) = consN M k ++ rowN M k 60 := by
  unfold consN
  rw [List.range_succ, List.flatMap_append]
  simp
theorem rowN_len (M : Tab) (p k : Nat) : (rowN M p k).length ≤ k := by
  unfold rowN
  have := List.length_filterMap_le (cellC M p) (List.range k)
  simpa using this
theorem consN_len (M : Tab) (k : Nat) : (consN M k).length ≤ k * 60 := by
  induction k with
  | zero => simp [consN]
  | succ k ih => rw [consN_succ, List.length_append]; have := rowN_len M k 60; omega
def consZ : Zn → List Con | none => [] | some M => consT M

/-- closing by all triples -/
def minT (M : Tab) (x : Con) : Tab := fun p q => if p = x.i.toNat ∧ q = x.j.toNat then min (M p q) x.c else M p q
def stepF (M : Tab) (k : Nat) : Tab := fun p q => min (M p q) (psum (M p k) (M k q))
def floydT (M : Tab) (k : Nat) : Tab := (List.range k).foldl stepF M
def closeM (M : Tab) (L : List Con) : Zn := if negT (floydT (L.foldl minT M) 60) then none else some (floydT (L.foldl minT M) 60)
def closeZ (L : List Con) : Zn := closeM topT L
theorem floydT_succ (M : Tab) (k : Nat) : floydT M (k + 1) = stepF (floydT M k) k := by
  unfold floydT
  rw [List.range_succ, List.foldl_append]
  rfl
theorem okT_min {M : Tab} (h : OkT M) {x : Con} (hx : rngB x.c = true) : OkT (minT M x) := fun p q hp hq => by
  unfold minT; split
  · refine (h p q hp hq).min ?_
    unfold rngB at hx; simp at hx; exact .inr hx
  · exact h p q hp hq
theorem okT_step {M : Tab} (h : OkT M) (k : Nat) : OkT (stepF M k) := fun p q hp hq => (h p q hp hq).min (psum_ok _ _)
theorem okT_floyd {M : Tab} (h : OkT M) (k : Nat) : OkT (floydT M k) := by
  induction k with
  | zero => exact h
  | succ k ih => rw [floydT_succ]; exact okT_step ih k
/-- an assignment meets all bounds -/
def Meets (M : Tab) (a : Nat → Int) : Prop := ∀ p q, p < 60 → q < 60 → M p q ≠ 3458764513820540928 → a p - a q ≤ M p q
theorem psum_meets {x y u v : Int} (hx : x ≠ 3458764513820540928 → u ≤ x) (hy : y ≠ 3458764513820540928 → v ≤ y) (rx : Ok x) (ry : Ok y) (h : psum x y ≠ 3458764513820540928) : u + v ≤ psum x y := by
  have hx' := rx.rng
  have hy' := ry.rng
  by_cases e : x = 3458764513820540928
  · exact absurd (psum_no x y e hy'.1) h
  · by_cases e' : y = 3458764513820540928
    · exact absurd (psum_no' x y e' hx'.1) h
    · have := hx e; have := hy e'
      unfold psum at *
      split
      · rename_i g; rw [if_pos g] at h; exact absurd rfl h
      · omega
theorem ok_of_rng {c : Int} (h : rngB c = true) : Ok c := by
  unfold rngB at h
  simp at h
  exact .inr h
theorem meets_add {M : Tab} {a : Nat → Int} (hM : OkT M) (h : Meets M a) {i j : Nat} {c : Int} (hi : i < 60) (hj : j < 60) (hc : Ok c) (hc' : a i - a j ≤ c) : Meets (addT M i j c) a := by
  intro p q hp hq hne
  have h1 := hM p i hp hi
  have h2 := hM j q hj hq
  by_cases e : psum (psum (M p i) c) (M j q) = 3458764513820540928
  · have : addT M i j c p q = M p q := by
      unfold addT; rw [e]; have := (hM p q hp hq).rng; omega
    rw [this] at hne ⊢
    exact h p q hp hq hne
  · have g := psum_meets (u := (a p - a i) + (a i - a j)) (v := a j - a q) (fun g => psum_meets (fun g => h p i hp hi g) (fun _ => hc') h1 hc g) (fun g => h j q hj hq g) (psum_ok _ _) h2 e
    have g2 : addT M i j c p q = min (M p q) (psum (psum (M p i) c) (M j q)) := rfl
    by_cases e2 : M p q = 3458764513820540928
    · rw [g2]; have := (psum_ok (psum (M p i) c) (M j q)).rng; omega
    · have := h p q hp hq e2; rw [g2]; omega
theorem meets_diag {M : Tab} {a : Nat → Int} (hM : OkT M) (h : Meets M a) {p : Nat} (hp : p < 60) : 0 ≤ M p p := by
  by_cases e : M p p = 3458764513820540928
  · omega
  · have := h p p hp hp e; omega
/-- nothing that meets the bounds is lost -/
theorem addZ_meets {M : Tab} {a : Nat → Int} (hM : OkT M) (h : Meets M a) {i j : Nat} {c : Int} (hi : i < 60) (hj : j < 60) (hc : Ok c) (hc' : a i - a j ≤ c) : ∃ N, addZ M i j c = some N ∧ OkT N ∧ Meets N a ∧ inT N M := by
  unfold addZ
  by_cases e : i = j
  · subst e
    rw [if_pos rfl, if_pos (by omega)]
    exact ⟨M, rfl, hM, h, fun _ _ _ _ => Int.le_refl _⟩
  · rw [if_neg e]
    by_cases e1 : M i j ≤ c
    · rw [if_pos e1]
      exact ⟨M, rfl, hM, h, fun _ _ _ _ => Int.le_refl _⟩
    · rw [if_neg e1]
      have hj' := hM j i hj hi
      have hneg : ¬ psum (M j i) c < 0 := by
        by_cases e2 : psum (M j i) c = 3458764513820540928
        · omega
        · have := psum_meets (u := a j - a i) (v := a i - a j) (fun g => h j i hj hi g) (fun _ => hc') hj' hc e2; omega
      rw [if_neg hneg]
      have ha := meets_add hM h hi hj hc hc'
      have hok := okT_add hM i j c
      have hn : negT (addT M i j c) = false := negT_false.mpr fun p hp => meets_diag hok ha hp
      rw [hn]
      exact ⟨_, rfl, hok, ha, fun p q _ _ => by unfold addT; omega⟩
def MetBy (a : Nat → Int) (x : Con) : Prop := wrong1 x = 0 ∧ a x.i.toNat - a x.j.toNat ≤ x.c
theorem wrong1_zero {x : Con} (h : wrong1 x = 0) : (0 ≤ x.i ∧ x.i < 60) ∧ (0 ≤ x.j ∧ x.j < 60) ∧ (-1152921504606846976 ≤ x.c ∧ x.c ≤ 1152921504606846976) := by
  unfold wrong1 at h
  split at h
  · omega
  · rename_i g1
    split at h
    · omega
    · rename_i g2
      simp [varB, rngB] at g1 g2
      exact ⟨g1.1, g1.2, g2⟩
theorem withZ_meets {M : Tab} {a : Nat → Int} (hM : OkT M) (h : Meets M a) (l : List Con) (hl : ∀ x ∈ l, MetBy a x) : ∃ N, withZ (some M) l = some N ∧ OkT N ∧ Meets N a ∧ inT N M := by
  unfold withZ
  induction l generalizing M with
  | nil => exact ⟨M, rfl, hM, h, fun _ _ _ _ => Int.le_refl _⟩
  | cons x l ih =>
    have hx := hl x (by simp)
    obtain ⟨h1, h2, h3⟩ := wrong1_zero hx.1
    obtain ⟨N, e, hN, hm, hi⟩ := addZ_meets hM h (i := x.i.toNat) (j := x.j.toNat) (c := x.c) (by omega) (by omega) (.inr h3) hx.2
    obtain ⟨N', e', hN', hm', hi'⟩ := ih hN hm (fun y hy => hl y (by simp [hy]))
    have ec : conZ (some M) x = some N := e
    refine ⟨N', ?_, hN', hm', fun p q hp hq => Int.le_trans (hi' p q hp hq) (hi p q hp hq)⟩
    rw [List.foldl_cons, ec]
    exact e'
theorem addZ_in {M N : Tab} {i j : Nat} {c : Int} (h : addZ M i j c = some N) : inT N M := by
  unfold addZ at h
  intro p q _ _
  split at h
  · split at h
    · injection h with e; subst e; exact Int.le_refl _
    · cases h
  · split at h
    · injection h with e; subst e; exact Int.le_refl _
    · split at h
      · cases h
      · split at h
        · cases h
        · injection h with e; subst e; unfold addT; omega
theorem withZ_in (z : Zn) (l : List Con) : inZ (withZ z l) z := by
  unfold withZ
  induction l generalizing z with
  | nil => cases z with
    | none => trivial
    | some M => exact fun _ _ _ _ => Int.le_refl _
  | cons x l ih =>
    have h := ih (conZ z x)
    rw [List.foldl_cons]
    cases z with
    | none =>
      have e : conZ none x = none := rfl
      rw [e] at h ⊢
      cases e2 : List.foldl conZ none l with
      | none => trivial
      | some N => rw [e2] at h; exact h.elim
    | some M =>
      cases e : conZ (some M) x with
      | none =>
        rw [e] at h
        cases e2 : List.foldl conZ none l with
        | none => trivial
        | some N => rw [e2] at h; exact h.elim
      | some N =>
        rw [e] at h
        cases e2 : List.foldl conZ (some N) l with
        | none => trivial
        | some N' => rw [e2] at h; exact fun p q hp hq => Int.le_trans (h p q hp hq) (addZ_in e p q hp hq)
theorem meets_top (a : Nat → Int) : Meets topT a := fun p q _ _ h => by
  unfold topT at *; split
  · rename_i e; subst e; omega
  · rename_i e; rw [if_neg e] at h; exact absurd rfl h
end Go.Proofs.Ytejcijbohnlbgaa.Zon
