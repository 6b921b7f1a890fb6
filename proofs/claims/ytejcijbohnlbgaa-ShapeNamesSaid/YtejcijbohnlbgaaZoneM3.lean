/- Closed tables, plain mathematics: each bound is the weight of a way without a vertex met twice; the table of With is the only one. No program is named. -/
import Derived.Test.YtejcijbohnlbgaaZoneM2
namespace Go.Proofs.Ytejcijbohnlbgaa.Zon
set_option linter.unusedVariables false
/-- a way through the bounds E: its vertices and its weight -/
inductive Way (E : Con → Prop) : List Nat → Int → Prop
  | one (p : Nat) : p < 60 → Way E [p] 0
  | more (p q : Nat) (c : Int) (l : List Nat) (w : Int) : p < 60 → E ⟨p, q, c⟩ → Way E (q :: l) w → Way E (p :: q :: l) (c + w)
theorem Way.ne {E : Con → Prop} {l : List Nat} {w : Int} (h : Way E l w) : l ≠ [] := by cases h <;> simp
theorem Way.mono {E F : Con → Prop} (hEF : ∀ x, E x → F x) {l : List Nat} {w : Int} (h : Way E l w) : Way F l w := by
  induction h with
  | one p hp => exact .one p hp
  | more p q c l w hp he _ ih => exact .more p q c l w hp (hEF _ he) ih
theorem Way.lt {E : Con → Prop} {l : List Nat} {w : Int} (h : Way E l w) : ∀ v ∈ l, v < 60 := by
  induction h with
  | one p hp => intro v hv; simp at hv; omega
  | more p q c l w hp he _ ih => intro v hv; rcases List.mem_cons.mp hv with rfl | hv; exact hp; exact ih v hv
theorem Way.bound {E : Con → Prop} {B : Int} (hB : ∀ x, E x → -B ≤ x.c ∧ x.c ≤ B) {l : List Nat} {w : Int} (h : Way E l w) : -(B * (l.length - 1 : Int)) ≤ w ∧ w ≤ B * (l.length - 1 : Int) := by
  induction h with
  | one p hp => simp
  | more p q c l w hp he _ ih =>
    have h1 := hB _ he
    simp only [List.length_cons, Int.natCast_add, Int.natCast_one] at ih ⊢
    have e : B * ((l.length : Int) + 1 + 1 - 1) = B * ((l.length : Int) + 1 - 1) + B := by
      rw [show (l.length : Int) + 1 + 1 - 1 = ((l.length : Int) + 1 - 1) + 1 by omega, Int.mul_add, Int.mul_one]
    rw [e]
    simp only at h1
    omega
/-- two ways and a bound between them -/
theorem Way.join {E : Con → Prop} {l m : List Nat} {w u c : Int} {j : Nat} (h : Way E l w) (i : Nat) (hi : l.getLast? = some i) (he : E ⟨i, j, c⟩) (g : Way E (j :: m) u) : Way E (l ++ j :: m) (w + (c + u)) := by
  induction h with
  | one p hp =>
    simp at hi
    subst hi
    rw [Int.zero_add]
    exact .more p j c m u hp he g
  | more p q c' l w hp he' _ ih =>
    rw [List.getLast?_cons_cons] at hi
    rw [Int.add_assoc]
    exact .more p q c' (l ++ j :: m) _ hp he' (ih hi)
/-- a way is cut at one of its vertices -/
theorem Way.cut {E : Con → Prop} {l : List Nat} {w : Int} (h : Way E l w) (v : Nat) (hv : v ∈ l) : ∃ a b w1 w2, w = w1 + w2 ∧ Way E a w1 ∧ Way E (v :: b) w2 ∧ a.head? = l.head? ∧ a.getLast? = some v ∧ (v :: b).getLast? = l.getLast? := by
  induction h with
  | one p hp =>
    simp at hv
    subst hv
    exact ⟨[v], [], 0, 0, rfl, .one v hp, .one v hp, rfl, rfl, rfl⟩
  | more p q c l w hp he hw ih =>
    rcases List.mem_cons.mp hv with rfl | hv
    · exact ⟨[v], q :: l, 0, c + w, by omega, .one v hp, .more v q c l w hp he hw, rfl, rfl, rfl⟩
    · obtain ⟨a, b, w1, w2, e, h1, h2, h3, h4, h5⟩ := ih hv
      cases a with
      | nil => exact absurd rfl h1.ne
      | cons x a =>
        simp at h3
        subst h3
        refine ⟨p :: x :: a, b, c + w1, w2, by omega, .more p x c a w1 hp he h1, h2, rfl, ?_, ?_⟩
        · rw [List.getLast?_cons_cons]; exact h4
        · rw [List.getLast?_cons_cons]; exact h5
theorem nodup_length : ∀ (n : Nat) (l : List Nat), l.Nodup → (∀ v ∈ l, v < n) → l.length ≤ n
  | 0, l, _, h => by
    cases l with
    | nil => simp
    | cons x l => exact absurd (h x (by simp)) (by omega)
  | n + 1, l, hn, h => by
    have h1 : (l.erase n).Nodup := hn.erase n
    have h2 : ∀ v ∈ l.erase n, v < n := fun v hv => by
      have := (hn.mem_erase_iff).mp hv
      have := h v this.2
      omega
    have h3 := nodup_length n _ h1 h2
    have h4 := List.length_erase (a := n) (l := l)
    split at h4 <;> omega

/-- what a table is, of which the bounds E are closed -/
structure Cl (E : Con → Prop) (M : Tab) : Prop where
  ok : OkT M
  diag : ∀ p, p < 60 → M p p = 0
  tri : ∀ p r q, p < 60 → r < 60 → q < 60 → M p r ≠ 3458764513820540928 → M r q ≠ 3458764513820540928 → M p q ≤ M p r + M r q
  le : ∀ p q c, E ⟨(p : Nat), (q : Nat), c⟩ → p < 60 → q < 60 → M p q ≤ c
  way : ∀ p q, p < 60 → q < 60 → M p q ≠ 3458764513820540928 → ∃ l, l.Nodup ∧ l.head? = some p ∧ l.getLast? = some q ∧ Way E l (M p q)
/-- bounds within B -/
def Small (E : Con → Prop) : Prop := ∀ x, E x → -140737488355328 ≤ x.c ∧ x.c ≤ 140737488355328
theorem Cl.bound {E : Con → Prop} {M : Tab} (h : Cl E M) (hE : Small E) {p q : Nat} (hp : p < 60) (hq : q < 60) (hne : M p q ≠ 3458764513820540928) : -8303511812964352 ≤ M p q ∧ M p q ≤ 8303511812964352 := by
  obtain ⟨l, hn, h1, h2, hw⟩ := h.way p q hp hq hne
  have hb := hw.bound hE
  have hl := nodup_length 60 l hn hw.lt
  have h0 : 0 < l.length := List.length_pos_iff.mpr hw.ne
  omega
/-- a way's weight is above the table's bound -/
theorem Cl.below {E : Con → Prop} {M : Tab} (h : Cl E M) (hs : Small E) (hE : ∀ x, E x → wrong1 x = 0) {l : List Nat} {w : Int} (hw : Way E l w) : ∀ p q, l.head? = some p → l.getLast? = some q → M p q ≠ 3458764513820540928 ∧ M p q ≤ w := by
  induction hw with
  | one p hp =>
    intro a b h1 h2
    simp at h1 h2
    subst h1; subst h2
    rw [h.diag p hp]
    omega
  | more p r c l w hp he hw ih =>
    intro a q h1 h2
    simp at h1
    subst h1
    rw [List.getLast?_cons_cons] at h2
    obtain ⟨g1, g2⟩ := ih r q rfl h2
    have hr := hw.lt r (by simp)
    have hq : q < 60 := hw.lt q (List.mem_of_getLast? h2)
    have hle := h.le p r c he hp hr
    have hc := hs _ he
    simp only at hc
    have hne : M p r ≠ 3458764513820540928 := by omega
    have := h.tri p r q hp hr hq hne g1
    have b1 := h.bound hs hp hr hne
    have b2 := h.bound hs hr hq g1
    exact ⟨by omega, by omega⟩
/-- the closed table of bounds is the only one -/
theorem Cl.uniq {E F : Con → Prop} {M N : Tab} (h : Cl E M) (g : Cl F N) (hs : Small E) (hE : ∀ x, E x → wrong1 x = 0) (hEF : ∀ x, E x ↔ F x) : ∀ p q, p < 60 → q < 60 → M p q = N p q := by
  have hF : ∀ x, F x → wrong1 x = 0 := fun x hx => hE x ((hEF x).mpr hx)
  have hsF : Small F := fun x hx => hs x ((hEF x).mpr hx)
  intro p q hp hq
  by_cases e : M p q = 3458764513820540928
  · by_cases e2 : N p q = 3458764513820540928
    · rw [e, e2]
    · obtain ⟨l, _, h1, h2, hw⟩ := g.way p q hp hq e2
      exact absurd e (h.below hs hE (hw.mono fun x hx => (hEF x).mpr hx) p q h1 h2).1
  · obtain ⟨l, _, h1, h2, hw⟩ := h.way p q hp hq e
    obtain ⟨g1, g2⟩ := g.below hsF hF (hw.mono fun x hx => (hEF x).mp hx) p q h1 h2
    obtain ⟨l', _, h1', h2', hw'⟩ := g.way p q hp hq g1
    obtain ⟨_, g4⟩ := h.below hs hE (hw'.mono fun x hx => (hEF x).mpr hx) p q h1' h2'
    omega
theorem cl_top : Cl (fun _ => False) topT := by
  refine ⟨okT_top, fun p _ => by simp [topT], fun p r q _ _ _ h1 h2 => ?_, fun _ _ _ h => h.elim, fun p q hp hq h => ?_⟩
  · unfold topT at *
    by_cases e : p = r
    · subst e; simp only [if_pos]; omega
    · rw [if_neg e] at h1; exact absurd rfl h1
  · unfold topT at *
    by_cases e : p = q
    · subst e; exact ⟨[p], by simp, rfl, rfl, by rw [if_pos rfl]; exact .one p hp⟩
    · rw [if_neg e] at h; exact absurd rfl h
/-- two zones have the same bounds -/
def sameZ' (z o : Zn) : Prop := match z, o with | none, none => True | some M, some O => ∀ p q, p < 60 → q < 60 → M p q = O p q | _, _ => False
def orOne (E : Con → Prop) (x : Con) : Con → Prop := fun y => E y ∨ y = x
theorem psum_fin {x y : Int} (h1 : -1000000000000000000 ≤ x + y) (h2 : x + y ≤ 1000000000000000000) : psum x y = x + y := by unfold psum; rw [if_neg (by omega)]; omega
/-- the sum of three bounds of a closed table's -/
theorem add_at {E : Con → Prop} {M : Tab} (h : Cl E M) (hs : Small E) {i j p q : Nat} {c : Int} (hi : i < 60) (hj : j < 60) (hp : p < 60) (hq : q < 60) (hc : -140737488355328 ≤ c ∧ c ≤ 140737488355328) :
    (M p i ≠ 3458764513820540928 ∧ M j q ≠ 3458764513820540928 ∧ addT M i j c p q = min (M p q) (M p i + c + M j q)) ∨ ((M p i = 3458764513820540928 ∨ M j q = 3458764513820540928) ∧ addT M i j c p q = M p q) := by
  have r0 := (h.ok p q hp hq).rng
  have r1 := (h.ok p i hp hi).rng
  have r2 := (h.ok j q hj hq).rng
  unfold addT
  by_cases e1 : M p i = 3458764513820540928
  · refine .inr ⟨.inl e1, ?_⟩
    rw [psum_no _ _ e1 (by omega), psum_no _ _ rfl r2.1]
    omega
  · by_cases e2 : M j q = 3458764513820540928
    · refine .inr ⟨.inr e2, ?_⟩
      rw [psum_no' _ _ e2 (psum_ok _ _).rng.1]
      omega
    · refine .inl ⟨e1, e2, ?_⟩
      have b1 := h.bound hs hp hi e1
      have b2 := h.bound hs hj hq e2
      rw [psum_fin (x := M p i) (y := c) (by omega) (by omega), psum_fin (by omega) (by omega)]
theorem cl_add {E : Con → Prop} {M : Tab} (h : Cl E M) (hs : Small E) (hE : ∀ x, E x → wrong1 x = 0) {i j : Nat} {c : Int} (hi : i < 60) (hj : j < 60) (hij : i ≠ j) (hc : -140737488355328 ≤ c ∧ c ≤ 140737488355328) (hneg : ¬ psum (M j i) c < 0) (hlt : ¬ M i j ≤ c) :
    Cl (orOne E ⟨i, j, c⟩) (addT M i j c) := by
  have hA := fun p q hp hq => add_at h hs (i := i) (j := j) (p := p) (q := q) (c := c) hi hj hp hq hc
  have hcyc : M j i ≠ 3458764513820540928 → 0 ≤ M j i + c := fun e => by
    have b := h.bound hs hj hi e
    rw [psum_fin (by omega) (by omega)] at hneg
    omega
  -- a way there and back
  have hloop : ∀ p, p < 60 → M p i ≠ 3458764513820540928 → M j p ≠ 3458764513820540928 → 0 ≤ M j p + M p i + c := fun p hp e1 e2 => by
    have t := h.tri j p i hj hp hi e2 e1
    have b1 := h.bound hs hp hi e1
    have b2 := h.bound hs hj hp e2
    have := hcyc (by omega)
    omega
  have hno : ∀ p q, p < 60 → q < 60 → addT M i j c p q ≤ M p q := fun p q _ _ => by unfold addT; omega
  refine ⟨okT_add h.ok i j c, fun p hp => ?_, fun p r q hp hr hq h1 h2 => ?_, fun p q d hd hp hq => ?_, fun p q hp hq hne => ?_⟩
  · rcases hA p p hp hp with ⟨e1, e2, e⟩ | ⟨_, e⟩
    · rw [e, h.diag p hp]; have := hloop p hp e1 e2; omega
    · rw [e, h.diag p hp]
  · -- the triangle
    have o1 := hA p r hp hr
    have o2 := hA r q hr hq
    have o3 := hA p q hp hq
    have bd : ∀ a b, a < 60 → b < 60 → M a b ≠ 3458764513820540928 → -8303511812964352 ≤ M a b ∧ M a b ≤ 8303511812964352 := fun a b ha hb e => h.bound hs ha hb e
    -- each bound of the new table's that is there is an old one or a sum
    have key : ∀ a b, a < 60 → b < 60 → addT M i j c a b ≠ 3458764513820540928 → (M a b ≠ 3458764513820540928 ∧ addT M i j c a b = M a b) ∨ (M a i ≠ 3458764513820540928 ∧ M j b ≠ 3458764513820540928 ∧ addT M i j c a b = M a i + c + M j b) := fun a b ha hb hne => by
      rcases hA a b ha hb with ⟨e1, e2, e⟩ | ⟨_, e⟩
      · have := bd a i ha hi e1; have := bd j b hj hb e2
        by_cases g : M a b ≤ M a i + c + M j b
        · exact .inl ⟨by omega, by omega⟩
        · exact .inr ⟨e1, e2, by omega⟩
      · exact .inl ⟨by rw [← e]; exact hne, e⟩
    have up : ∀ a b, a < 60 → b < 60 → M a i ≠ 3458764513820540928 → M j b ≠ 3458764513820540928 → addT M i j c a b ≤ M a i + c + M j b := fun a b ha hb e1 e2 => by
      rcases hA a b ha hb with ⟨_, _, e⟩ | ⟨e, _⟩
      · omega
      · rcases e with e | e
        · exact absurd e e1
        · exact absurd e e2
    rcases key p r hp hr h1 with ⟨g1, g2⟩ | ⟨g1, g2, g3⟩ <;> rcases key r q hr hq h2 with ⟨k1, k2⟩ | ⟨k1, k2, k3⟩
    · have := h.tri p r q hp hr hq g1 k1; have := hno p q hp hq; omega
    · -- p r old, r i + c + j q
      have t := h.tri p r i hp hr hi g1 k1
      have := bd p r hp hr g1; have := bd r i hr hi k1
      have := up p q hp hq (by omega) k2
      omega
    · have t := h.tri j r q hj hr hq g2 k1
      have := bd j r hj hr g2; have := bd r q hr hq k1
      have := up p q hp hq g1 (by omega)
      omega
    · have := hloop r hr k1 g2
      have := up p q hp hq g1 k2
      omega
  · rcases hd with hd | hd
    · exact Int.le_trans (hno p q hp hq) (h.le p q d hd hp hq)
    · injection hd with e1 e2 e3
      have e1 : p = i := by omega
      have e2 : q = j := by omega
      subst e1; subst e2; subst e3
      have d1 := h.diag p hp; have d2 := h.diag q hq
      rcases hA p q hp hq with ⟨_, _, e⟩ | ⟨e, _⟩
      · omega
      · omega
  · -- ways
    have old : addT M i j c p q = M p q → ∃ l, l.Nodup ∧ l.head? = some p ∧ l.getLast? = some q ∧ Way (orOne E ⟨i, j, c⟩) l (addT M i j c p q) := fun e => by
      rw [e] at hne ⊢
      obtain ⟨l, h1, h2, h3, h4⟩ := h.way p q hp hq hne
      exact ⟨l, h1, h2, h3, h4.mono fun x hx => .inl hx⟩
    rcases hA p q hp hq with ⟨e1, e2, e⟩ | ⟨_, e⟩
    · by_cases g : M p q ≤ M p i + c + M j q
      · exact old (by omega)
      · obtain ⟨l, n1, a1, b1, w1⟩ := h.way p i hp hi e1
        obtain ⟨m, n2, a2, b2, w2⟩ := h.way j q hj hq e2
        cases m with
        | nil => exact absurd rfl w2.ne
        | cons x m =>
          simp at a2
          subst a2
          refine ⟨l ++ x :: m, ?_, ?_, ?_, ?_⟩
          · refine List.nodup_append.mpr ⟨n1, n2, fun v hv v' hv' ev => ?_⟩
            subst ev
            obtain ⟨_, _, u1, u2, eu, x1, x2, x3, x4, x5⟩ := w1.cut v hv
            obtain ⟨_, _, t1, t2, et, y1, y2, y3, y4, y5⟩ := w2.cut v hv'
            have hv60 := w1.lt v hv
            obtain ⟨z1, z2⟩ := h.below hs hE x1 p v (by rw [x3]; exact a1) x4
            obtain ⟨z3, z4⟩ := h.below hs hE x2 v i rfl (by rw [x5]; exact b1)
            obtain ⟨z5, z6⟩ := h.below hs hE y1 x v (by rw [y3]; rfl) y4
            obtain ⟨z7, z8⟩ := h.below hs hE y2 v q rfl (by rw [y5]; exact b2)
            have := hloop v hv60 z3 z5
            have := h.tri p v q hp hv60 hq z1 z7
            omega
          · cases l with
            | nil => exact absurd rfl w1.ne
            | cons y l => exact a1
          · rw [List.getLast?_append]; rw [b2]; rfl
          · have := (w1.mono (F := orOne E ⟨i, x, c⟩) fun x hx => .inl hx).join i b1 (.inr rfl) (w2.mono fun x hx => .inl hx)
            rw [e, show min (M p q) (M p i + c + M x q) = M p i + (c + M x q) by omega]
            exact this
    · exact old e
end Go.Proofs.Ytejcijbohnlbgaa.Zon
