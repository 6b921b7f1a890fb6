/- Mathematics of Put: a variable renewed by its bounds to all others and from them. -/
import Derived.Test.YtejcijbohnlbgaaZoneM8
namespace Go.Proofs.Ytejcijbohnlbgaa
open Zon
set_option linter.unusedVariables false
set_option maxRecDepth 100000
def aboveK (u : Nat → Int) (N : Tab) : Nat → Nat → Int
  | 0, _ => 3458764513820540928
  | k + 1, q => min (aboveK u N k q) (psum (u k) (N k q))
def belowK (d : Nat → Int) (N : Tab) : Nat → Nat → Int
  | 0, _ => 3458764513820540928
  | k + 1, q => min (belowK d N k q) (psum (N q k) (d k))
theorem aboveK_ok (u : Nat → Int) (N : Tab) : ∀ n q, Ok (aboveK u N n q)
  | 0, _ => ok_no
  | n + 1, q => (aboveK_ok u N n q).min (psum_ok _ _)
theorem belowK_ok (d : Nat → Int) (N : Tab) : ∀ n q, Ok (belowK d N n q)
  | 0, _ => ok_no
  | n + 1, q => (belowK_ok d N n q).min (psum_ok _ _)
theorem aboveK_le {u : Nat → Int} {N : Tab} : ∀ (n k q : Nat), k < n → aboveK u N n q ≤ psum (u k) (N k q)
  | n + 1, k, q, hk => by
    have e : aboveK u N (n + 1) q = min (aboveK u N n q) (psum (u n) (N n q)) := rfl
    by_cases h : k = n
    · subst h; omega
    · have := aboveK_le (u := u) (N := N) n k q (by omega); omega
theorem belowK_le {d : Nat → Int} {N : Tab} : ∀ (n k q : Nat), k < n → belowK d N n q ≤ psum (N q k) (d k)
  | n + 1, k, q, hk => by
    have e : belowK d N (n + 1) q = min (belowK d N n q) (psum (N q n) (d n)) := rfl
    by_cases h : k = n
    · subst h; omega
    · have := belowK_le (d := d) (N := N) n k q (by omega); omega
theorem aboveK_at {u : Nat → Int} {N : Tab} : ∀ (n q : Nat), aboveK u N n q = 3458764513820540928 ∨ ∃ k, k < n ∧ aboveK u N n q = psum (u k) (N k q)
  | 0, _ => .inl rfl
  | n + 1, q => by
    have e : aboveK u N (n + 1) q = min (aboveK u N n q) (psum (u n) (N n q)) := rfl
    rcases Int.le_total (aboveK u N n q) (psum (u n) (N n q)) with h | h
    · rw [Int.min_eq_left h] at e
      rcases aboveK_at (u := u) (N := N) n q with g | ⟨k, h1, h2⟩
      · exact .inl (e.trans g)
      · exact .inr ⟨k, by omega, e.trans h2⟩
    · rw [Int.min_eq_right h] at e
      exact .inr ⟨n, by omega, e⟩
theorem belowK_at {d : Nat → Int} {N : Tab} : ∀ (n q : Nat), belowK d N n q = 3458764513820540928 ∨ ∃ k, k < n ∧ belowK d N n q = psum (N q k) (d k)
  | 0, _ => .inl rfl
  | n + 1, q => by
    have e : belowK d N (n + 1) q = min (belowK d N n q) (psum (N q n) (d n)) := rfl
    rcases Int.le_total (belowK d N n q) (psum (N q n) (d n)) with h | h
    · rw [Int.min_eq_left h] at e
      rcases belowK_at (d := d) (N := N) n q with g | ⟨k, h1, h2⟩
      · exact .inl (e.trans g)
      · exact .inr ⟨k, by omega, e.trans h2⟩
    · rw [Int.min_eq_right h] at e
      exact .inr ⟨n, by omega, e⟩
def putT (M : Tab) (x : Nat) (u d : Nat → Int) : Tab := fun p q =>
  if p = x then (if q = x then 0 else aboveK u (freeT M x) 60 q) else if q = x then belowK d (freeT M x) 60 p else min (M p q) (psum (belowK d (freeT M x) 60 p) (aboveK u (freeT M x) 60 q))
def putZ (z : Zn) (x : Nat) (u d : Nat → Int) : Zn := z.bind fun M => if negT (putT M x u d) then none else some (putT M x u d)
theorem okT_put {M : Tab} (h : OkT M) (x : Nat) (u d : Nat → Int) : OkT (putT M x u d) := fun p q hp hq => by
  unfold putT
  split
  · split
    · exact ok_zero
    · exact aboveK_ok _ _ _ _
  · split
    · exact belowK_ok _ _ _ _
    · exact (h p q hp hq).min (psum_ok _ _)
theorem free_off {M : Tab} {x p q : Nat} (hp : p ≠ x) (hq : q ≠ x) : freeT M x p q = M p q := by
  unfold freeT
  by_cases e : p = q
  · rw [if_pos e, if_neg hp]
  · rw [if_neg e, if_neg (by omega)]
theorem free_row {M : Tab} {x q : Nat} (hq : q ≠ x) : freeT M x x q = 3458764513820540928 := by
  unfold freeT
  rw [if_neg (fun e => hq e.symm), if_pos (.inl rfl)]
theorem free_col {M : Tab} {x p : Nat} (hp : p ≠ x) : freeT M x p x = 3458764513820540928 := by
  unfold freeT
  rw [if_neg hp, if_pos (.inr rfl)]
/-- bounds of an answer, told by what an assignment's numbers leave -/
structure PutOk (x : Nat) (u d : Nat → Int) : Prop where
  up : ∀ k, k < 60 → Ok (u k)
  dn : ∀ k, k < 60 → Ok (d k)
  ux : u x = 3458764513820540928
  dx : d x = 3458764513820540928
theorem above_met {M : Tab} {a : Nat → Int} (hM : OkT M) (h : Meets M a) {x : Nat} {u d : Nat → Int} {v : Int} (ho : PutOk x u d) (hu : ∀ k, k < 60 → k ≠ x → u k ≠ 3458764513820540928 → v - a k ≤ u k) {q : Nat} (hq : q < 60) (hqx : q ≠ x) (hne : aboveK u (freeT M x) 60 q ≠ 3458764513820540928) : v - a q ≤ aboveK u (freeT M x) 60 q := by
  rcases aboveK_at (u := u) (N := freeT M x) 60 q with e | ⟨k, hk, e⟩
  · exact absurd e hne
  · rw [e] at hne ⊢
    by_cases hkx : k = x
    · subst hkx
      rw [free_row hqx, psum_no' _ _ rfl (ho.up k hk).rng.1] at hne
      exact absurd rfl hne
    · rw [free_off hkx hqx] at hne ⊢
      have := psum_meets (u := v - a k) (v := a k - a q) (fun g => hu k hk hkx g) (fun g => h k q hk hq g) (ho.up k hk) (hM k q hk hq) hne
      omega
theorem below_met {M : Tab} {a : Nat → Int} (hM : OkT M) (h : Meets M a) {x : Nat} {u d : Nat → Int} {v : Int} (ho : PutOk x u d) (hd : ∀ k, k < 60 → k ≠ x → d k ≠ 3458764513820540928 → a k - v ≤ d k) {q : Nat} (hq : q < 60) (hqx : q ≠ x) (hne : belowK d (freeT M x) 60 q ≠ 3458764513820540928) : a q - v ≤ belowK d (freeT M x) 60 q := by
  rcases belowK_at (d := d) (N := freeT M x) 60 q with e | ⟨k, hk, e⟩
  · exact absurd e hne
  · rw [e] at hne ⊢
    by_cases hkx : k = x
    · subst hkx
      rw [free_col hqx, psum_no _ _ rfl (ho.dn k hk).rng.1] at hne
      exact absurd rfl hne
    · rw [free_off hqx hkx] at hne ⊢
      have := psum_meets (u := a q - a k) (v := a k - v) (fun g => h q k hq hk g) (fun g => hd k hk hkx g) (hM q k hq hk) (ho.dn k hk) hne
      omega
theorem meets_put {M : Tab} {a : Nat → Int} (hM : OkT M) (h : Meets M a) {x : Nat} {u d : Nat → Int} {v : Int} (ho : PutOk x u d) (hu : ∀ k, k < 60 → k ≠ x → u k ≠ 3458764513820540928 → v - a k ≤ u k) (hd : ∀ k, k < 60 → k ≠ x → d k ≠ 3458764513820540928 → a k - v ≤ d k) : Meets (putT M x u d) (updI a x v) := fun p q hp hq hne => by
  unfold putT at *
  unfold updI
  by_cases e1 : p = x
  · rw [if_pos e1] at hne ⊢
    rw [if_pos e1]
    by_cases e2 : q = x
    · rw [if_pos e2, if_pos e2]; omega
    · rw [if_neg e2] at hne ⊢
      rw [if_neg e2]
      exact above_met hM h ho hu hq e2 hne
  · rw [if_neg e1] at hne ⊢
    rw [if_neg e1]
    by_cases e2 : q = x
    · rw [if_pos e2] at hne ⊢
      rw [if_pos e2]
      exact below_met hM h ho hd hp e1 hne
    · rw [if_neg e2] at hne ⊢
      rw [if_neg e2]
      have hm := hM p q hp hq
      by_cases g : psum (belowK d (freeT M x) 60 p) (aboveK u (freeT M x) 60 q) = 3458764513820540928
      · have : M p q ≠ 3458764513820540928 := by omega
        have h1 := h p q hp hq this
        have := hm.rng
        omega
      · have h2 := psum_meets (u := a p - v) (v := v - a q) (fun g' => below_met hM h ho hd hp e1 g') (fun g' => above_met hM h ho hu hq e2 g') (belowK_ok _ _ _ _) (aboveK_ok _ _ _ _) g
        by_cases g' : M p q = 3458764513820540928
        · omega
        · have := h p q hp hq g'; omega
/-- no assignment that meets the bounds is lost -/
theorem putZ_meets {M : Tab} {a : Nat → Int} (hM : OkT M) (h : Meets M a) {x : Nat} {u d : Nat → Int} {v : Int} (ho : PutOk x u d) (hu : ∀ k, k < 60 → k ≠ x → u k ≠ 3458764513820540928 → v - a k ≤ u k) (hd : ∀ k, k < 60 → k ≠ x → d k ≠ 3458764513820540928 → a k - v ≤ d k) : putZ (some M) x u d = some (putT M x u d) ∧ OkT (putT M x u d) ∧ Meets (putT M x u d) (updI a x v) := by
  have h1 := meets_put hM h ho hu hd
  have h2 := okT_put hM x u d
  refine ⟨?_, h2, h1⟩
  show (if negT (putT M x u d) then none else some (putT M x u d)) = _
  rw [negT_false.mpr fun p hp => meets_diag h2 h1 hp]
  rfl
theorem psum_zero' {x : Int} (h : Ok x) : psum x 0 = x := by
  unfold Ok at h
  unfold psum
  split <;> omega
theorem psum_zero {x : Int} (h : Ok x) : psum 0 x = x := by rw [psum_comm]; exact psum_zero' h
/-- Put's own bounds stand in the answer -/
theorem put_up {M : Tab} {x : Nat} {u d : Nat → Int} (ho : PutOk x u d) {k : Nat} (hk : k < 60) (hkx : k ≠ x) (hd : M k k = 0) : putT M x u d x k ≤ u k := by
  unfold putT
  rw [if_pos rfl, if_neg hkx]
  have := aboveK_le (u := u) (N := freeT M x) 60 k k hk
  rw [free_off hkx hkx, hd, psum_zero' (ho.up k hk)] at this
  exact this
theorem put_down {M : Tab} {x : Nat} {u d : Nat → Int} (ho : PutOk x u d) {k : Nat} (hk : k < 60) (hkx : k ≠ x) (hd : M k k = 0) : putT M x u d k x ≤ d k := by
  unfold putT
  rw [if_neg hkx, if_pos rfl]
  have := belowK_le (d := d) (N := freeT M x) 60 k k hk
  rw [free_off hkx hkx, hd, psum_zero (ho.dn k hk)] at this
  exact this
/-- what With makes has 0 from each variable to itself -/
def Diag0 (M : Tab) : Prop := ∀ p, p < 60 → M p p = 0
theorem diag_top : Diag0 topT := fun p _ => if_pos rfl
theorem addZ_diag {M N : Tab} {i j : Nat} {c : Int} (h : Diag0 M) (e : addZ M i j c = some N) : Diag0 N := by
  unfold addZ at e
  split at e
  · split at e
    · injection e with e; exact e ▸ h
    · cases e
  · split at e
    · injection e with e; exact e ▸ h
    · split at e
      · cases e
      · split at e
        · cases e
        · rename_i hn
          injection e with e
          intro p hp
          have h1 := negT_false.mp (by simpa using hn) p hp
          have h2 := h p hp
          rw [← e]
          have : addT M i j c p p ≤ M p p := by unfold addT; omega
          omega
theorem withZ_diag {M N : Tab} (h : Diag0 M) (l : List Con) (e : withZ (some M) l = some N) : Diag0 N := by
  unfold withZ at e
  induction l generalizing M with
  | nil => injection e with e; exact e ▸ h
  | cons x l ih =>
    rw [List.foldl_cons] at e
    cases e1 : conZ (some M) x with
    | none =>
      rw [e1] at e
      have := withZ_none l
      unfold withZ at this
      rw [this] at e
      cases e
    | some M' =>
      rw [e1] at e
      exact ih (addZ_diag h (show addZ M x.i.toNat x.j.toNat x.c = some M' from e1)) e
/-- bounds within 2^40 -/
structure PutSmall (x : Nat) (u d : Nat → Int) : Prop where
  up : ∀ k, k < 60 → u k = 3458764513820540928 ∨ (-1099511627776 ≤ u k ∧ u k ≤ 1099511627776)
  dn : ∀ k, k < 60 → d k = 3458764513820540928 ∨ (-1099511627776 ≤ d k ∧ d k ≤ 1099511627776)
  ux : u x = 3458764513820540928
  dx : d x = 3458764513820540928
theorem PutSmall.ok {x : Nat} {u d : Nat → Int} (h : PutSmall x u d) : PutOk x u d :=
  ⟨fun k hk => by have := h.up k hk; unfold Ok; omega, fun k hk => by have := h.dn k hk; unfold Ok; omega, h.ux, h.dx⟩
theorem psum_small {x y : Int} (hx : x = 3458764513820540928 ∨ (-100000000000000 ≤ x ∧ x ≤ 100000000000000)) (hy : y = 3458764513820540928 ∨ (-100000000000000 ≤ y ∧ y ≤ 100000000000000)) : psum x y = 3458764513820540928 ∨ (x ≠ 3458764513820540928 ∧ y ≠ 3458764513820540928 ∧ psum x y = x + y) := by
  unfold psum
  split <;> omega
/-- an upper bound of the renewed one: by a way through k -/
theorem Tight'.above {M : Tab} (h : Tight' M) {x : Nat} {u d : Nat → Int} (ho : PutSmall x u d) {q : Nat} (hq : q < 60) (hqx : q ≠ x) (hne : aboveK u (freeT M x) 60 q ≠ 3458764513820540928) : ∃ k, k < 60 ∧ k ≠ x ∧ u k ≠ 3458764513820540928 ∧ M k q ≠ 3458764513820540928 ∧ aboveK u (freeT M x) 60 q = u k + M k q := by
  rcases aboveK_at (u := u) (N := freeT M x) 60 q with e | ⟨k, hk, e⟩
  · exact absurd e hne
  · by_cases hkx : k = x
    · subst hkx
      rw [free_row hqx, psum_no' _ _ rfl (ho.ok.up k hk).rng.1] at e
      exact absurd e hne
    · rw [free_off hkx hqx] at e
      have hm : M k q = 3458764513820540928 ∨ (-100000000000000 ≤ M k q ∧ M k q ≤ 100000000000000) := by
        by_cases g : M k q = 3458764513820540928
        · exact .inl g
        · have := h.bd' k q hk hq g; exact .inr (by omega)
      have hu := ho.up k hk
      rcases psum_small (x := u k) (by omega) hm with g | ⟨g1, g2, g3⟩
      · rw [g] at e; exact absurd e hne
      · exact ⟨k, hk, hkx, g1, g2, e.trans g3⟩
theorem Tight'.below {M : Tab} (h : Tight' M) {x : Nat} {u d : Nat → Int} (ho : PutSmall x u d) {q : Nat} (hq : q < 60) (hqx : q ≠ x) (hne : belowK d (freeT M x) 60 q ≠ 3458764513820540928) : ∃ k, k < 60 ∧ k ≠ x ∧ d k ≠ 3458764513820540928 ∧ M q k ≠ 3458764513820540928 ∧ belowK d (freeT M x) 60 q = M q k + d k := by
  rcases belowK_at (d := d) (N := freeT M x) 60 q with e | ⟨k, hk, e⟩
  · exact absurd e hne
  · by_cases hkx : k = x
    · subst hkx
      rw [free_col hqx, psum_no _ _ rfl (ho.ok.dn k hk).rng.1] at e
      exact absurd e hne
    · rw [free_off hqx hkx] at e
      have hm : M q k = 3458764513820540928 ∨ (-100000000000000 ≤ M q k ∧ M q k ≤ 100000000000000) := by
        by_cases g : M q k = 3458764513820540928
        · exact .inl g
        · have := h.bd' q k hq hk g; exact .inr (by omega)
      have hd := ho.dn k hk
      rcases psum_small (y := d k) hm (by omega) with g | ⟨g1, g2, g3⟩
      · rw [g] at e; exact absurd e hne
      · exact ⟨k, hk, hkx, g2, g1, e.trans g3⟩
theorem Tight'.above_le {M : Tab} (h : Tight' M) {x : Nat} {u d : Nat → Int} (ho : PutSmall x u d) {k q : Nat} (hk : k < 60) (hq : q < 60) (hkx : k ≠ x) (hqx : q ≠ x) (hu : u k ≠ 3458764513820540928) (hm : M k q ≠ 3458764513820540928) : aboveK u (freeT M x) 60 q ≤ u k + M k q := by
  have := aboveK_le (u := u) (N := freeT M x) 60 k q hk
  rw [free_off hkx hqx] at this
  have b := h.bd' k q hk hq hm
  have hu' := ho.up k hk
  rw [psum_fin (by omega) (by omega)] at this
  exact this
theorem Tight'.below_le {M : Tab} (h : Tight' M) {x : Nat} {u d : Nat → Int} (ho : PutSmall x u d) {k q : Nat} (hk : k < 60) (hq : q < 60) (hkx : k ≠ x) (hqx : q ≠ x) (hd : d k ≠ 3458764513820540928) (hm : M q k ≠ 3458764513820540928) : belowK d (freeT M x) 60 q ≤ M q k + d k := by
  have := belowK_le (d := d) (N := freeT M x) 60 k q hk
  rw [free_off hqx hkx] at this
  have b := h.bd' q k hq hk hm
  have hd' := ho.dn k hk
  rw [psum_fin (by omega) (by omega)] at this
  exact this
theorem Tight'.above_rng {M : Tab} (h : Tight' M) {x : Nat} {u d : Nat → Int} (ho : PutSmall x u d) {q : Nat} (hq : q < 60) (hqx : q ≠ x) (hne : aboveK u (freeT M x) 60 q ≠ 3458764513820540928) : -75000000000000 ≤ aboveK u (freeT M x) 60 q ∧ aboveK u (freeT M x) 60 q ≤ 75000000000000 := by
  obtain ⟨k, hk, hkx, h1, h2, e⟩ := h.above ho hq hqx hne
  have b := h.bd' k q hk hq h2
  have hu := ho.up k hk
  omega
theorem Tight'.below_rng {M : Tab} (h : Tight' M) {x : Nat} {u d : Nat → Int} (ho : PutSmall x u d) {q : Nat} (hq : q < 60) (hqx : q ≠ x) (hne : belowK d (freeT M x) 60 q ≠ 3458764513820540928) : -75000000000000 ≤ belowK d (freeT M x) 60 q ∧ belowK d (freeT M x) 60 q ≤ 75000000000000 := by
  obtain ⟨k, hk, hkx, h1, h2, e⟩ := h.below ho hq hqx hne
  have b := h.bd' q k hq hk h2
  have hd := ho.dn k hk
  omega
/-- a bound of the answer between two that are not renewed -/
theorem Tight'.mid {M : Tab} (h : Tight' M) {x : Nat} {u d : Nat → Int} (ho : PutSmall x u d) {p q : Nat} (hp : p < 60) (hq : q < 60) (hpx : p ≠ x) (hqx : q ≠ x) :
    putT M x u d p q = min (M p q) (psum (belowK d (freeT M x) 60 p) (aboveK u (freeT M x) 60 q)) ∧ (putT M x u d p q ≠ 3458764513820540928 → (M p q ≠ 3458764513820540928 ∧ putT M x u d p q = M p q) ∨ (belowK d (freeT M x) 60 p ≠ 3458764513820540928 ∧ aboveK u (freeT M x) 60 q ≠ 3458764513820540928 ∧ putT M x u d p q = belowK d (freeT M x) 60 p + aboveK u (freeT M x) 60 q)) ∧
    (belowK d (freeT M x) 60 p ≠ 3458764513820540928 → aboveK u (freeT M x) 60 q ≠ 3458764513820540928 → putT M x u d p q ≤ belowK d (freeT M x) 60 p + aboveK u (freeT M x) 60 q) := by
  have e : putT M x u d p q = min (M p q) (psum (belowK d (freeT M x) 60 p) (aboveK u (freeT M x) 60 q)) := by unfold putT; rw [if_neg hpx, if_neg hqx]
  have ha : aboveK u (freeT M x) 60 q = 3458764513820540928 ∨ (-100000000000000 ≤ aboveK u (freeT M x) 60 q ∧ aboveK u (freeT M x) 60 q ≤ 100000000000000) := by
    by_cases g : aboveK u (freeT M x) 60 q = 3458764513820540928
    · exact .inl g
    · have := h.above_rng ho hq hqx g; exact .inr (by omega)
  have hb : belowK d (freeT M x) 60 p = 3458764513820540928 ∨ (-100000000000000 ≤ belowK d (freeT M x) 60 p ∧ belowK d (freeT M x) 60 p ≤ 100000000000000) := by
    by_cases g : belowK d (freeT M x) 60 p = 3458764513820540928
    · exact .inl g
    · have := h.below_rng ho hp hpx g; exact .inr (by omega)
  have hm := (h.ok p q hp hq).rng
  refine ⟨e, fun hne => ?_, fun g1 g2 => ?_⟩
  · rcases psum_small hb ha with g | ⟨g1, g2, g3⟩
    · left; rw [e, g] at hne ⊢; omega
    · rw [g3] at e
      by_cases hle : M p q ≤ belowK d (freeT M x) 60 p + aboveK u (freeT M x) 60 q
      · left; omega
      · right; exact ⟨g1, g2, by omega⟩
  · rw [e, psum_fin (by omega) (by omega)]; omega
theorem Tight'.put {M : Tab} (h : Tight' M) {x : Nat} {u d : Nat → Int} (hx : x < 60) (ho : PutSmall x u d) (hn : negT (putT M x u d) = false) : Tight (putT M x u d) := by
  have hneg := negT_false.mp hn
  have col : ∀ p, p ≠ x → putT M x u d p x = belowK d (freeT M x) 60 p := fun p hp => by unfold putT; rw [if_neg hp, if_pos rfl]
  have row : ∀ q, q ≠ x → putT M x u d x q = aboveK u (freeT M x) 60 q := fun q hq => by unfold putT; rw [if_pos rfl, if_neg hq]
  have own : putT M x u d x x = 0 := by unfold putT; rw [if_pos rfl, if_pos rfl]
  have diag : ∀ p, p < 60 → putT M x u d p p = 0 := fun p hp => by
    by_cases e : p = x
    · rw [e]; exact own
    · have h1 := hneg p hp
      have h2 := (h.mid ho hp hp e e).1
      have h3 := h.diag p hp
      omega
  have round : ∀ p, p < 60 → p ≠ x → belowK d (freeT M x) 60 p ≠ 3458764513820540928 → aboveK u (freeT M x) 60 p ≠ 3458764513820540928 → 0 ≤ belowK d (freeT M x) 60 p + aboveK u (freeT M x) 60 p := fun p hp e g1 g2 => by
    have h1 := diag p hp
    have h2 := (h.mid ho hp hp e e).2.2 g1 g2
    omega
  -- closed under the old table's bounds
  have aM : ∀ r q, r < 60 → q < 60 → r ≠ x → q ≠ x → aboveK u (freeT M x) 60 r ≠ 3458764513820540928 → M r q ≠ 3458764513820540928 → aboveK u (freeT M x) 60 q ≤ aboveK u (freeT M x) 60 r + M r q ∧ aboveK u (freeT M x) 60 q ≠ 3458764513820540928 := fun r q hr hq hrx hqx g1 g2 => by
    obtain ⟨k, hk, hkx, k1, k2, e⟩ := h.above ho hr hrx g1
    have ht := h.tri k r q hk hr hq k2 g2
    have b1 := h.bd' k r hk hr k2
    have b2 := h.bd' r q hr hq g2
    have hm : M k q ≠ 3458764513820540928 := by omega
    have := h.above_le ho hk hq hkx hqx k1 hm
    have hu := ho.up k hk
    exact ⟨by omega, by omega⟩
  have bM : ∀ p r, p < 60 → r < 60 → p ≠ x → r ≠ x → M p r ≠ 3458764513820540928 → belowK d (freeT M x) 60 r ≠ 3458764513820540928 → belowK d (freeT M x) 60 p ≤ M p r + belowK d (freeT M x) 60 r ∧ belowK d (freeT M x) 60 p ≠ 3458764513820540928 := fun p r hp hr hpx hrx g1 g2 => by
    obtain ⟨k, hk, hkx, k1, k2, e⟩ := h.below ho hr hrx g2
    have ht := h.tri p r k hp hr hk g1 k2
    have b1 := h.bd' p r hp hr g1
    have b2 := h.bd' r k hr hk k2
    have hm : M p k ≠ 3458764513820540928 := by omega
    have := h.below_le ho hk hp hkx hpx k1 hm
    have hd := ho.dn k hk
    exact ⟨by omega, by omega⟩
  refine ⟨okT_put h.ok x u d, diag, fun p r q hp hr hq g1 g2 => ?_, fun p q hp hq hne => ?_⟩
  · by_cases ep : p = x
    · subst ep
      by_cases er : r = p
      · subst er; rw [own]; omega
      · rw [row r er] at g1 ⊢
        by_cases eq : q = p
        · subst eq
          rw [col r er] at g2 ⊢
          rw [own]
          have := round r hr er g2 g1
          omega
        · rw [row q eq]
          rcases (h.mid ho hr hq er eq).2.1 g2 with ⟨a1, a2⟩ | ⟨a1, a2, a3⟩
          · have := (aM r q hr hq er eq g1 a1).1; omega
          · have := round r hr er a1 g1; omega
    · by_cases er : r = x
      · subst er
        rw [col p ep] at g1 ⊢
        by_cases eq : q = r
        · subst eq; rw [own, col p ep]; omega
        · rw [row q eq] at g2 ⊢
          exact (h.mid ho hp hq ep eq).2.2 g1 g2
      · by_cases eq : q = x
        · subst eq
          rw [col r er] at g2 ⊢
          rw [col p ep]
          rcases (h.mid ho hp hr ep er).2.1 g1 with ⟨a1, a2⟩ | ⟨a1, a2, a3⟩
          · have := (bM p r hp hr ep er a1 g2).1; omega
          · have := round r hr er g2 a2; omega
        · have m := (h.mid ho hp hq ep eq)
          rcases (h.mid ho hp hr ep er).2.1 g1 with ⟨a1, a2⟩ | ⟨a1, a2, a3⟩ <;> rcases (h.mid ho hr hq er eq).2.1 g2 with ⟨c1, c2⟩ | ⟨c1, c2, c3⟩
          · have := h.tri p r q hp hr hq a1 c1; omega
          · have := bM p r hp hr ep er a1 c1
            have := m.2.2 this.2 c2
            omega
          · have := aM r q hr hq er eq a2 c1
            have := m.2.2 a1 this.2
            omega
          · have := round r hr er c1 a2
            have := m.2.2 a1 c2
            omega
  · by_cases ep : p = x
    · subst ep
      by_cases eq : q = p
      · subst eq; rw [own]; omega
      · rw [row q eq] at hne ⊢
        have := h.above_rng ho hq eq hne
        omega
    · by_cases eq : q = x
      · subst eq
        rw [col p ep] at hne ⊢
        have := h.below_rng ho hp ep hne
        omega
      · rcases (h.mid ho hp hq ep eq).2.1 hne with ⟨a1, a2⟩ | ⟨a1, a2, a3⟩
        · have := h.bd p q hp hq a1; omega
        · have := h.below_rng ho hp ep a1
          have := h.above_rng ho hq eq a2
          omega
theorem put_rest {M : Tab} (hM : OkT M) {x : Nat} {u d : Nat → Int} {p q : Nat} (hp : p ≠ x) (hq : q ≠ x) : putT M x u d p q ≤ M p q := by
  unfold putT
  rw [if_neg hp, if_neg hq]
  omega
theorem ext_put {M : Tab} (h : Tight' M) {x : Nat} {u d : Nat → Int} (h0 : 1 ≤ x) (hx : x < 60) (ho : PutSmall x u d) (hn : negT (putT M x u d) = false) (j : Nat) : ExtInv M (reachV (putT M x u d) j) (openB [(x : Int)]) 1 :=
  .start (reachV_rng (h.put hx ho hn) j) fun p q hp hq g1 g2 hne => by
    have e := put_rest h.ok (u := u) (d := d) ((open_one h0 hx).mp g1) ((open_one h0 hx).mp g2)
    have r := (h.ok p q hp hq).rng
    have o := h.ok p q hp hq
    unfold Ok at o
    have := (h.put hx ho hn).meets j p q hp hq (by omega)
    omega
end Go.Proofs.Ytejcijbohnlbgaa
