/- The plain mathematics of zones: sums of bounds, the tables that calls make. No program is named. -/
namespace Go.Proofs.Ytejcijbohnlbgaa.Zon

def MOST : Int := 1152921504606846976
def NO : Int := 3458764513820540928
/-- what stands in a table's place: a bound, or none -/
def Ok (x : Int) : Prop := x = 3458764513820540928 ∨ (-1152921504606846976 ≤ x ∧ x ≤ 1152921504606846976)
theorem Ok.rng {x : Int} (h : Ok x) : -1152921504606846976 ≤ x ∧ x ≤ 3458764513820540928 := by unfold Ok at h; omega
theorem ok_no : Ok 3458764513820540928 := .inl rfl
theorem ok_zero : Ok 0 := .inr ⟨by omega, by omega⟩
theorem Ok.min {x y : Int} (h : Ok x) (g : Ok y) : Ok (min x y) := by unfold Ok at *; omega
theorem Ok.max {x y : Int} (h : Ok x) (g : Ok y) : Ok (max x y) := by unfold Ok at *; omega
/-- a sum of bounds -/
def psum (a b : Int) : Int := if 1152921504606846976 < a + b then 3458764513820540928 else max (a + b) (-1152921504606846976)
theorem psum_ok (a b : Int) : Ok (psum a b) := by unfold psum Ok; split <;> omega
theorem psum_no (a b : Int) (h : a = 3458764513820540928) (hb : -1152921504606846976 ≤ b) : psum a b = 3458764513820540928 := by unfold psum; rw [if_pos (by omega)]
theorem psum_no' (a b : Int) (h : b = 3458764513820540928) (ha : -1152921504606846976 ≤ a) : psum a b = 3458764513820540928 := by unfold psum; rw [if_pos (by omega)]
theorem psum_comm (a b : Int) : psum a b = psum b a := by unfold psum; rw [Int.add_comm]
theorem psum_mono {a b a' b' : Int} (h : a ≤ a') (g : b ≤ b') : psum a b ≤ psum a' b' := by unfold psum; split <;> split <;> omega

abbrev Tab := Nat → Nat → Int
def OkT (M : Tab) : Prop := ∀ p q, p < 60 → q < 60 → Ok (M p q)
def topT : Tab := fun p q => if p = q then 0 else 3458764513820540928
theorem okT_top : OkT topT := fun p q _ _ => by unfold topT; split; exact ok_zero; exact ok_no
/-- one bound more, and what follows from it -/
def addT (M : Tab) (i j : Nat) (c : Int) : Tab := fun p q => min (M p q) (psum (psum (M p i) c) (M j q))
theorem okT_add {M : Tab} (h : OkT M) (i j : Nat) (c : Int) : OkT (addT M i j c) := fun p q hp hq => (h p q hp hq).min (psum_ok _ _)
def negT (M : Tab) : Bool := (List.range 60).any fun p => decide (M p p < 0)
theorem negT_false {M : Tab} : negT M = false ↔ ∀ p, p < 60 → 0 ≤ M p p := by
  unfold negT
  rw [List.any_eq_false]
  simp
theorem negT_true {M : Tab} {p : Nat} (hp : p < 60) (h : M p p < 0) : negT M = true := by
  unfold negT
  rw [List.any_eq_true]
  exact ⟨p, by simp [hp], by simp [h]⟩
/-- a zone: none is the empty one -/
abbrev Zn := Option Tab
def addZ (M : Tab) (i j : Nat) (c : Int) : Zn :=
  if i = j then (if 0 ≤ c then some M else none)
  else if M i j ≤ c then some M
  else if psum (M j i) c < 0 then none
  else if negT (addT M i j c) then none else some (addT M i j c)
/-- a bound as it is handed in -/
structure Con where
  i : Int
  j : Int
  c : Int
  deriving DecidableEq
def varB (v : Int) : Bool := decide (0 ≤ v) && decide (v < 60)
def rngB (c : Int) : Bool := decide (-1152921504606846976 ≤ c) && decide (c ≤ 1152921504606846976)
/-- what is wrong with one bound -/
def wrong1 (x : Con) : Int := if !(varB x.i && varB x.j) then 50 else if !rngB x.c then 51 else 0
def wrongL : List Con → Int
  | [] => 0
  | x :: l => if wrong1 x = 0 then wrongL l else wrong1 x
def conZ (z : Zn) (x : Con) : Zn := z.bind fun M => addZ M x.i.toNat x.j.toNat x.c
def withZ (z : Zn) (l : List Con) : Zn := l.foldl conZ z
theorem withZ_none (l : List Con) : withZ none l = none := by
  unfold withZ
  induction l with
  | nil => rfl
  | cons x l ih => exact ih
theorem withZ_snoc (z : Zn) (l : List Con) (x : Con) : withZ z (l ++ [x]) = conZ (withZ z l) x := by unfold withZ; rw [List.foldl_append]; rfl
def OkZ (z : Zn) : Prop := ∀ M, z = some M → OkT M
theorem okZ_con {z : Zn} (h : OkZ z) (x : Con) : OkZ (conZ z x) := by
  intro N hN
  cases z with
  | none => cases hN
  | some M =>
    have hM := h M rfl
    have hN : addZ M x.i.toNat x.j.toNat x.c = some N := hN
    unfold addZ at hN
    split at hN
    · split at hN
      · injection hN with e; exact e ▸ hM
      · cases hN
    · split at hN
      · injection hN with e; exact e ▸ hM
      · split at hN
        · cases hN
        · split at hN
          · cases hN
          · injection hN with e; exact e ▸ okT_add hM _ _ _
theorem okZ_with {z : Zn} (h : OkZ z) (l : List Con) : OkZ (withZ z l) := by
  unfold withZ
  induction l generalizing z with
  | nil => exact h
  | cons x l ih => exact ih (okZ_con h x)
end Go.Proofs.Ytejcijbohnlbgaa.Zon
