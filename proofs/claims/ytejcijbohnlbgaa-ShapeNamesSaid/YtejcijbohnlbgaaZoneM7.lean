/- Mathematics of ZoneHolds: no call loses an assignment. -/
import Derived.Test.YtejcijbohnlbgaaZoneM6
namespace Go.Proofs.Ytejcijbohnlbgaa
open Zon
set_option linter.unusedVariables false
set_option maxRecDepth 100000
theorem meets_join {M O : Tab} {a : Nat → Int} (h : Meets M a) (hM : OkT M) (hO : OkT O) : Meets (joinT M O) a := fun p q hp hq hne => by
  have h1 := (hM p q hp hq).rng
  have h2 := (hO p q hp hq).rng
  unfold joinT at *
  have h3 : M p q ≠ 3458764513820540928 := by omega
  have := h p q hp hq h3
  omega
theorem meets_keep {M O : Tab} {a : Nat → Int} (h : Meets M a) : Meets (keepT M O) a := fun p q hp hq hne => by
  unfold keepT at *
  split
  · rename_i g; rw [if_pos g] at hne; exact h p q hp hq hne
  · rename_i g; rw [if_neg g] at hne; exact absurd rfl hne
theorem meets_same {M : Tab} {a : Nat → Int} (hM : OkT M) (h : Meets M a) {p : Nat} (hp : p < 60) (x : Int) : x - x ≤ M p p := by
  have := meets_diag hM h hp; omega
theorem meets_free {M : Tab} {a : Nat → Int} (hM : OkT M) (h : Meets M a) (v : Nat) (x : Int) : Meets (freeT M v) (updI a v x) := fun p q hp hq hne => by
  unfold freeT at *
  by_cases e : p = q
  · subst e
    rw [if_pos rfl]
    split
    · omega
    · exact meets_same hM h hp _
  · rw [if_neg e] at hne ⊢
    by_cases g : p = v ∨ q = v
    · rw [if_pos g] at hne; exact absurd rfl hne
    · rw [if_neg g] at hne ⊢
      unfold updI
      rw [if_neg (by omega), if_neg (by omega)]
      exact h p q hp hq hne
/-- the assignment, the forgotten ones made anew -/
def forgetV (a : Nat → Int) (vs : List Int) (c : Int) : Nat → Int := vs.foldl (fun a v => if renewB v then updI a v.toNat c else a) a
theorem forgetV_snoc (a : Nat → Int) (vs : List Int) (v c : Int) : forgetV a (vs ++ [v]) c = if renewB v then updI (forgetV a vs c) v.toNat c else forgetV a vs c := by
  unfold forgetV; rw [List.foldl_append]; rfl
theorem forgetV_i64 {a : Nat → Int} {c : Int} (ha : ∀ q, q < 60 → I64 (a q)) (hc : I64 c) (vs : List Int) : ∀ q, q < 60 → I64 (forgetV a vs c q) := by
  unfold forgetV
  induction vs generalizing a with
  | nil => exact ha
  | cons v vs ih =>
    rw [List.foldl_cons]
    split
    · refine ih fun q hq => ?_
      unfold updI; split
      · exact hc
      · exact ha q hq
    · exact ih ha
theorem meets_forget {M : Tab} {a : Nat → Int} (hM : OkT M) (h : Meets M a) (vs : List Int) (c : Int) : OkT (forgetT M vs) ∧ Meets (forgetT M vs) (forgetV a vs c) := by
  unfold forgetT forgetV
  induction vs generalizing M a with
  | nil => exact ⟨hM, h⟩
  | cons v vs ih =>
    rw [List.foldl_cons, List.foldl_cons]
    split
    · exact ih (okT_free hM _) (meets_free hM h _ _)
    · exact ih hM h
theorem meets_assign {M : Tab} {a : Nat → Int} (hM : OkT M) (h : Meets M a) {x y : Nat} {c : Int} (hx : x < 60) (hy : y < 60) (hc : rngB c = true) : Meets (assignT M x y c) (updI a x (a y + c)) := fun p q hp hq hne => by
  have hc1 := ok_of_rng hc
  have hc2 : Ok (-c) := by unfold rngB at hc; simp at hc; exact .inr ⟨by omega, by omega⟩
  unfold assignT at *
  by_cases e : p = q
  · subst e
    rw [if_pos rfl]
    exact meets_same hM h hp _
  · rw [if_neg e] at hne ⊢
    by_cases e1 : p = x
    · rw [if_pos e1] at hne ⊢
      have := psum_meets (u := a y - a q) (v := c) (fun g => h y q hy hq g) (fun _ => Int.le_refl _) (hM y q hy hq) hc1 hne
      unfold updI
      rw [if_pos e1, if_neg (by omega)]
      omega
    · rw [if_neg e1] at hne ⊢
      by_cases e2 : q = x
      · rw [if_pos e2] at hne ⊢
        have := psum_meets (u := a p - a y) (v := -c) (fun g => h p y hp hy g) (fun _ => Int.le_refl _) (hM p y hp hy) hc2 hne
        unfold updI
        rw [if_neg e1, if_pos e2]
        omega
      · rw [if_neg e2] at hne ⊢
        unfold updI
        rw [if_neg e1, if_neg e2]
        exact h p q hp hq hne
theorem meets_min {M : Tab} {a : Nat → Int} (hM : OkT M) (h : Meets M a) {x : Con} (hx : MetBy a x) : OkT (minT M x) ∧ Meets (minT M x) a := by
  obtain ⟨h1, h2, h3⟩ := wrong1_zero hx.1
  refine ⟨okT_min hM (by unfold rngB; simp; omega), fun p q hp hq hne => ?_⟩
  have hr := hM p q hp hq
  unfold minT at *
  split
  · rename_i e
    have hm := hx.2
    rw [← e.1, ← e.2] at hm
    by_cases g : M p q = 3458764513820540928
    · omega
    · have := h p q hp hq g; omega
  · rename_i e
    rw [if_neg e] at hne
    exact h p q hp hq hne
theorem meets_mins {M : Tab} {a : Nat → Int} (hM : OkT M) (h : Meets M a) (L : List Con) (hL : ∀ x ∈ L, MetBy a x) : OkT (L.foldl minT M) ∧ Meets (L.foldl minT M) a := by
  induction L generalizing M with
  | nil => exact ⟨hM, h⟩
  | cons x L ih =>
    have := meets_min hM h (hL x (by simp))
    exact ih this.1 this.2 fun y hy => hL y (by simp [hy])
theorem meets_step {M : Tab} {a : Nat → Int} (hM : OkT M) (h : Meets M a) {k : Nat} (hk : k < 60) : Meets (stepF M k) a := fun p q hp hq hne => by
  have h1 := hM p q hp hq
  unfold stepF at *
  have hs := psum_ok (M p k) (M k q)
  by_cases e : psum (M p k) (M k q) = 3458764513820540928
  · have := h1.rng
    have g : M p q ≠ 3458764513820540928 := by omega
    have := h p q hp hq g
    omega
  · have := psum_meets (u := a p - a k) (v := a k - a q) (fun g => h p k hp hk g) (fun g => h k q hk hq g) (hM p k hp hk) (hM k q hk hq) e
    by_cases g : M p q = 3458764513820540928
    · omega
    · have := h p q hp hq g; omega
theorem meets_floyd {M : Tab} {a : Nat → Int} (hM : OkT M) (h : Meets M a) : ∀ k, k ≤ 60 → Meets (floydT M k) a
  | 0, _ => h
  | k + 1, hk => by rw [floydT_succ]; exact meets_step (okT_floyd hM k) (meets_floyd hM h k (by omega)) (by omega)
theorem closeZ_meets {a : Nat → Int} (L : List Con) (hL : ∀ x ∈ L, MetBy a x) : ∃ N, closeZ L = some N ∧ OkT N ∧ Meets N a := by
  have h1 := meets_mins okT_top (meets_top a) L hL
  have h2 := meets_floyd h1.1 h1.2 60 (by omega)
  have h3 := okT_floyd h1.1 60
  refine ⟨_, ?_, h3, h2⟩
  unfold closeZ closeM
  rw [negT_false.mpr fun p hp => meets_diag h3 h2 hp]
  rfl
theorem metL_met (L : List Con) (a : Nat → Int) : ∀ x ∈ metL L a, MetBy a x := fun x hx => by
  have := (List.mem_filter.mp hx).2
  unfold metB at this
  simp only [Bool.and_eq_true, beq_iff_eq, Bool.not_eq_true', decide_eq_false_iff_not] at this
  exact ⟨this.1, by omega⟩
end Go.Proofs.Ytejcijbohnlbgaa
