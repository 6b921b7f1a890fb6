/- Package help, plain mathematics: the sum of words, the order of bytes, the place of a byte. No program is named. -/
import Derived.WalkKit
namespace Go.Proofs.Ytkfcfoidaalnlaa.HM
set_option linter.unusedVariables false
set_option linter.unusedSimpArgs false

/-- a word added to a sum of 16 bits -/
def plusV (s w : Int) : Int := if s + w > 65535 then s + w - 65535 else s + w
/-- the sum, word by word -/
def sumW : List Int → Int → Int
  | [], s => s
  | [x], s => plusV s (256 * x)
  | x :: y :: r, s => sumW r (plusV s (256 * x + y))
/-- the words added up; true: the list begins at the first byte of a word -/
def tot : Bool → List Int → Int
  | _, [] => 0
  | b, x :: r => (if b = true then 256 * x else x) + tot (!b) r
/-- brought below 65536 -/
def normV (a : Int) : Int := if a = 0 then 0 else (a - 1) % 65535 + 1
/-- all are bytes -/
def By (l : List Int) : Prop := ∀ x ∈ l, 0 ≤ x ∧ x < 256
theorem By.tail {x : Int} {l : List Int} (h : By (x :: l)) : By l := fun y hy => h y (by simp [hy])
theorem By.head {x : Int} {l : List Int} (h : By (x :: l)) : 0 ≤ x ∧ x < 256 := h x (by simp)

theorem normV_rng (a : Int) (h : 0 ≤ a) : 0 ≤ normV a ∧ normV a ≤ 65535 := by
  unfold normV; split <;> omega
theorem normV_id (a : Int) (h : 0 ≤ a) (h1 : a ≤ 65535) : normV a = a := by
  unfold normV; split
  · omega
  · rw [Int.emod_eq_of_lt (by omega) (by omega)]; omega
theorem normV_zero (a : Int) (h : 0 ≤ a) : normV a = 0 ↔ a = 0 := by
  unfold normV; split <;> omega
theorem normV_norm (a t : Int) (h : 0 ≤ a) (ht : 0 ≤ t) : normV (normV a + t) = normV (a + t) := by
  unfold normV
  by_cases ha : a = 0
  · simp [ha]
  · rw [if_neg ha, if_neg (by omega), if_neg (by omega)]
    omega
theorem plusV_norm (s w : Int) (h : 0 ≤ s ∧ s ≤ 65535) (hw : 0 ≤ w ∧ w ≤ 65535) : plusV s w = normV (s + w) := by
  unfold plusV normV
  split <;> split <;> omega
theorem plusV_rng (s w : Int) (h : 0 ≤ s ∧ s ≤ 65535) (hw : 0 ≤ w ∧ w ≤ 65535) : 0 ≤ plusV s w ∧ plusV s w ≤ 65535 := by
  unfold plusV; split <;> omega

theorem tot_rng (b : Bool) (l : List Int) (h : By l) : 0 ≤ tot b l ∧ tot b l ≤ 65280 * l.length := by
  induction l generalizing b with
  | nil => simp [tot]
  | cons x r ih =>
    have h1 := h.head
    have h2 := ih (!b) h.tail
    simp only [tot, List.length_cons]
    split <;> omega
theorem tot_append (b : Bool) (l m : List Int) : tot b (l ++ m) = tot b l + tot (if l.length % 2 = 0 then b else !b) m := by
  induction l generalizing b with
  | nil => simp [tot]
  | cons x r ih =>
    simp only [List.cons_append, tot, ih, List.length_cons]
    have e : (if r.length % 2 = 0 then !b else !!b) = (if (r.length + 1) % 2 = 0 then b else !b) := by
      cases b <;> (split <;> split <;> first | rfl | omega)
    rw [e]; omega
theorem tot_step (l : List Int) (k : Nat) (h : k < l.length) : tot true (l.take (k + 1)) = tot true (l.take k) + (if k % 2 = 0 then 256 * l[k]?.getD 0 else l[k]?.getD 0) := by
  have e : l.take (k + 1) = l.take k ++ [l[k]?.getD 0] := by
    rw [List.take_add_one, List.getElem?_eq_getElem h]; rfl
  rw [e, tot_append, List.length_take, Nat.min_eq_left (by omega)]
  split <;> simp [tot]
theorem sumW_eq (l : List Int) (s : Int) (h : By l) (hs : 0 ≤ s ∧ s ≤ 65535) : sumW l s = normV (s + tot true l) := by
  match l, h with
  | [], _ => rw [sumW, tot, Int.add_zero, normV_id s hs.1 hs.2]
  | [x], h =>
    have hx := h.head
    rw [sumW, plusV_norm s _ hs (by omega)]
    simp [tot]
  | x :: y :: r, h =>
    have hx := h.head
    have hy := h.tail.head
    have hr := (tot_rng true r h.tail.tail).1
    rw [sumW, sumW_eq r _ h.tail.tail (plusV_rng s _ hs (by omega)), plusV_norm s _ hs (by omega), normV_norm _ _ (by omega) hr]
    simp only [tot, if_true, Bool.not_true, Bool.not_false]
    congr 1
    simp
    omega
theorem sumW_rng (l : List Int) (s : Int) (h : By l) (hs : 0 ≤ s ∧ s ≤ 65535) : 0 ≤ sumW l s ∧ sumW l s ≤ 65535 := by
  rw [sumW_eq l s h hs]
  have := (tot_rng true l h).1
  exact normV_rng _ (by omega)
theorem sumW_parts (a b : List Int) (s : Int) (ha : By a) (hb : By b) (hs : 0 ≤ s ∧ s ≤ 65535) (h2 : a.length % 2 = 0) : sumW (a ++ b) s = sumW b (sumW a s) := by
  have hab : By (a ++ b) := fun x hx => by
    rcases List.mem_append.1 hx with h | h
    · exact ha x h
    · exact hb x h
  have h1 := (tot_rng true a ha).1
  have h3 := (tot_rng true b hb).1
  rw [sumW_eq _ s hab hs, sumW_eq b _ hb (sumW_rng a s ha hs), sumW_eq a s ha hs, normV_norm _ _ (by omega) h3, tot_append, if_pos h2]
  congr 1; omega
theorem tot_zero (b : Bool) (l : List Int) (h : By l) : tot b l = 0 ↔ ∀ x ∈ l, x = 0 := by
  induction l generalizing b with
  | nil => simp [tot]
  | cons x r ih =>
    have h1 := h.head
    have h2 := (tot_rng (!b) r h.tail).1
    have h3 := ih (!b) h.tail
    rw [tot, List.forall_mem_cons, ← h3]
    split <;> omega
theorem sumW_zero (l : List Int) (s : Int) (h : By l) (hs : 0 ≤ s ∧ s ≤ 65535) : sumW l s = 0 ↔ s = 0 ∧ ∀ x ∈ l, x = 0 := by
  have h1 := (tot_rng true l h).1
  rw [sumW_eq l s h hs, normV_zero _ (by omega), ← tot_zero true l h]
  omega
theorem tot_set (b : Bool) (l : List Int) (i : Nat) (x : Int) (h : i < l.length) :
    tot b (l.set i x) = tot b l + (if (i % 2 = 0) = (b = true) then 256 * (x - l[i]?.getD 0) else x - l[i]?.getD 0) := by
  induction l generalizing b i with
  | nil => simp at h
  | cons y r ih =>
    cases i with
    | zero => cases b <;> simp [tot] <;> omega
    | succ i =>
      have hi : i < r.length := by simpa using h
      rw [List.set_cons_succ, tot, tot, ih (!b) i hi]
      simp only [List.getElem?_cons_succ]
      have e : ((i % 2 = 0) = ((!b) = true)) = (((i + 1) % 2 = 0) = (b = true)) := by
        have h2 : i % 2 = 0 ∨ i % 2 = 1 := by omega
        rcases h2 with h2 | h2
        · have h3 : (i + 1) % 2 = 1 := by omega
          cases b <;> simp [h2, h3]
        · have h3 : (i + 1) % 2 = 0 := by omega
          cases b <;> simp [h2, h3]
      simp only [e]
      omega
/-- two words change places -/
theorem tot_swap (l : List Int) (i k : Nat) (hi : 2 * i + 1 < l.length) (hk : 2 * k + 1 < l.length) :
    tot true ((((l.set (2 * i) (l[2 * k]?.getD 0)).set (2 * k) (l[2 * i]?.getD 0)).set (2 * i + 1) (l[2 * k + 1]?.getD 0)).set (2 * k + 1) (l[2 * i + 1]?.getD 0)) = tot true l := by
  have e0 : ∀ n, (2 * n) % 2 = 0 := fun n => by omega
  have e1 : ∀ n, (2 * n + 1) % 2 = 1 := fun n => by omega
  rw [tot_set _ _ _ _ (by simp; omega), tot_set _ _ _ _ (by simp; omega), tot_set _ _ _ _ (by simp; omega), tot_set _ _ _ _ (by omega)]
  simp only [e0, e1, List.getElem?_set, List.length_set]
  have a1 : 2 * i < l.length := by omega
  have a2 : 2 * k < l.length := by omega
  have n1 : ∀ x y : Nat, 2 * x = 2 * y + 1 → False := fun _ _ h => by omega
  have n2 : ∀ x y : Nat, 2 * x + 1 = 2 * y → False := fun _ _ h => by omega
  by_cases hik : i = k
  · subst hik
    simp [a1, hi, n2, n1, show ¬ (2 * i = 2 * i + 1) by omega, show ¬ (2 * i + 1 = 2 * i) by omega]
  · simp [a1, a2, hi, hk, hik, Ne.symm hik, show ¬ (2 * i = 2 * k) by omega, show ¬ (2 * k = 2 * i) by omega, show ¬ (2 * i = 2 * k + 1) by omega, show ¬ (2 * k + 1 = 2 * i) by omega, show ¬ (2 * k = 2 * i + 1) by omega, show ¬ (2 * i + 1 = 2 * k) by omega, show ¬ (2 * i = 2 * i + 1) by omega, show ¬ (2 * k = 2 * k + 1) by omega, show ¬ (2 * i + 1 = 2 * i) by omega, show ¬ (2 * k + 1 = 2 * k) by omega]
    omega

/-- the order of bytes -/
def diffV : List Int → List Int → Int
  | [], [] => 0
  | [], _ :: _ => -1
  | _ :: _, [] => 1
  | x :: a, y :: b => if x < y then -1 else if y < x then 1 else diffV a b
theorem diffV_rng (a b : List Int) : diffV a b = -1 ∨ diffV a b = 0 ∨ diffV a b = 1 := by
  induction a generalizing b with
  | nil => cases b <;> simp [diffV]
  | cons x a ih =>
    cases b with
    | nil => simp [diffV]
    | cons y b =>
      rw [diffV]
      split
      · exact .inl rfl
      · split
        · exact .inr (.inr rfl)
        · exact ih b
theorem diffV_neg (a b : List Int) : diffV b a = - diffV a b := by
  induction a generalizing b with
  | nil => cases b <;> simp [diffV]
  | cons x a ih =>
    cases b with
    | nil => simp [diffV]
    | cons y b =>
      rw [diffV, diffV, ih b]
      split
      · rw [if_neg (by omega)]
      · split <;> rfl
theorem diffV_zero (a b : List Int) : diffV a b = 0 ↔ a = b := by
  induction a generalizing b with
  | nil => cases b <;> simp [diffV]
  | cons x a ih =>
    cases b with
    | nil => simp [diffV]
    | cons y b =>
      rw [diffV]
      split
      · simp; omega
      · split
        · simp; omega
        · rw [ih b, List.cons.injEq]
          have : x = y := by omega
          simp [this]
theorem diffV_self (a : List Int) : diffV a a = 0 := (diffV_zero a a).2 rfl
theorem diffV_trans (a b c : List Int) (h1 : diffV a b ≤ 0) (h2 : diffV b c ≤ 0) : diffV a c ≤ 0 ∧ (diffV a c = 0 → diffV a b = 0 ∧ diffV b c = 0) := by
  induction a generalizing b c with
  | nil =>
    cases c with
    | nil =>
      cases b with
      | nil => simp [diffV]
      | cons y b => simp [diffV] at h2
    | cons z c => simp [diffV]
  | cons x a ih =>
    cases b with
    | nil => simp [diffV] at h1
    | cons y b =>
      cases c with
      | nil => simp [diffV] at h2
      | cons z c =>
        simp only [diffV] at h1 h2 ⊢
        by_cases e1 : x < y
        · by_cases e2 : y < z
          · rw [if_pos (show x < z by omega)]; simp
          · by_cases e3 : z < y
            · rw [if_neg e2, if_pos e3] at h2; omega
            · rw [if_pos (show x < z by omega)]; simp
        · by_cases e4 : y < x
          · rw [if_neg e1, if_pos e4] at h1; omega
          · obtain rfl : x = y := by omega
            simp only [Int.lt_irrefl, if_false] at h1 ⊢
            by_cases e2 : x < z
            · simp [e2]
            · by_cases e3 : z < x
              · rw [if_neg e2, if_pos e3] at h2; omega
              · rw [if_neg e2, if_neg e3] at h2 ⊢
                simp only [if_neg e2, if_neg e3]
                exact ih b c h1 h2

/-- the first place of a byte, or how many there are -/
def placeN : List Int → Int → Nat
  | [], _ => 0
  | x :: r, c => if x = c then 0 else placeN r c + 1
def findV (l : List Int) (c : Int) : Int := if placeN l c < l.length then (placeN l c : Int) else -1
theorem placeN_le (l : List Int) (c : Int) : placeN l c ≤ l.length := by
  induction l with
  | nil => simp [placeN]
  | cons x r ih => rw [placeN]; split <;> simp <;> omega
theorem placeN_hit (l : List Int) (c : Int) (h : placeN l c < l.length) : l[placeN l c]?.getD 0 = c := by
  induction l with
  | nil => simp at h
  | cons x r ih =>
    rw [placeN] at h ⊢
    split
    · rename_i hx; simp [hx]
    · rename_i hx
      rw [if_neg hx] at h
      simpa using ih (by simpa using h)
theorem placeN_miss (l : List Int) (c : Int) (j : Nat) (h : j < placeN l c) : l[j]?.getD 0 ≠ c := by
  induction l generalizing j with
  | nil => simp [placeN] at h
  | cons x r ih =>
    rw [placeN] at h
    split at h
    · omega
    · rename_i hx
      cases j with
      | zero => simpa using hx
      | succ j => simpa using ih j (by omega)
theorem placeN_of (l : List Int) (c : Int) (k : Nat) (hk : k ≤ l.length) (hm : ∀ j, j < k → l[j]?.getD 0 ≠ c) (hh : k < l.length → l[k]?.getD 0 = c) : placeN l c = k := by
  rcases Nat.lt_trichotomy (placeN l c) k with h | h | h
  · exact absurd (placeN_hit l c (by omega)) (hm _ h)
  · exact h
  · exact absurd (hh (by have := placeN_le l c; omega)) (placeN_miss l c k h)
theorem findV_rng (l : List Int) (c : Int) : -1 ≤ findV l c ∧ findV l c < l.length := by
  unfold findV; split <;> omega
theorem findV_end (l m : List Int) (c : Int) (n : Nat) (hn : n = if findV l c < 0 then l.length else (findV l c).toNat) (x : Int) (hx : x = c) : findV (l.take n ++ x :: m) c = n := by
  have e : n = placeN l c := by
    rw [hn]; unfold findV
    have := placeN_le l c
    split <;> split <;> omega
  subst hx
  have hle := placeN_le l x
  have : placeN (l.take n ++ x :: m) x = n := by
    refine placeN_of _ _ _ (by simp; omega) (fun j hj => ?_) (fun _ => ?_)
    · rw [List.getElem?_append_left (by simp; omega), List.getElem?_take, if_pos hj]
      exact placeN_miss l x j (by omega)
    · rw [List.getElem?_append_right (by simp; omega)]
      simp [Nat.min_eq_left (show n ≤ l.length by omega)]
  unfold findV
  rw [this, if_pos (by simp; omega)]
end Go.Proofs.Ytkfcfoidaalnlaa.HM
