/- Closed tables: what With makes of small bounds is closed, or there is a way round below 0; what Close makes of them is the same. Plain mathematics. -/
import Derived.Test.YtejcijbohnlbgaaZoneM3
namespace Go.Proofs.Ytejcijbohnlbgaa.Zon
set_option linter.unusedVariables false
set_option maxRecDepth 100000
/-- a way round of weight below 0, no vertex met twice on it -/
def Round (E : Con → Prop) : Prop := ∃ p mid w, Way E (p :: (mid ++ [p])) w ∧ (p :: mid).Nodup ∧ w < 0
theorem Round.mono {E F : Con → Prop} (hEF : ∀ x, E x → F x) (h : Round E) : Round F := by
  obtain ⟨p, mid, w, h1, h2, h3⟩ := h
  exact ⟨p, mid, w, h1.mono hEF, h2, h3⟩
/-- no closed table has one -/
theorem Cl.noRound {E : Con → Prop} {M : Tab} (h : Cl E M) (hs : Small E) (hE : ∀ x, E x → wrong1 x = 0) : ¬ Round E := by
  rintro ⟨p, mid, w, hw, _, hlt⟩
  have hp : p < 60 := hw.lt p (by simp)
  obtain ⟨_, h2⟩ := h.below hs hE hw p p rfl (by rw [← List.cons_append, List.getLast?_append]; rfl)
  rw [h.diag p hp] at h2
  omega
theorem Cl.more {E : Con → Prop} {M : Tab} (h : Cl E M) {x : Con} (hx : wrong1 x = 0) (hle : M x.i.toNat x.j.toNat ≤ x.c) : Cl (orOne E x) M := by
  obtain ⟨⟨g1, g2⟩, ⟨g3, g4⟩, g5⟩ := wrong1_zero hx
  refine ⟨h.ok, h.diag, h.tri, fun p q c hd hp hq => ?_, fun p q hp hq hne => ?_⟩
  · rcases hd with hd | hd
    · exact h.le p q c hd hp hq
    · subst hd
      simpa using hle
  · obtain ⟨l, a1, a2, a3, a4⟩ := h.way p q hp hq hne
    exact ⟨l, a1, a2, a3, a4.mono fun x hx => .inl hx⟩
theorem con_eq {x : Con} (hx : wrong1 x = 0) : x = ⟨(x.i.toNat : Int), (x.j.toNat : Int), x.c⟩ := by
  obtain ⟨⟨g1, g2⟩, ⟨g3, g4⟩, g5⟩ := wrong1_zero hx
  cases x
  simp only at *
  congr 1 <;> omega
theorem split_ends {l : List Nat} {p q : Nat} (h1 : l.head? = some p) (h2 : l.getLast? = some q) (hne : p ≠ q) : ∃ mid, l = p :: (mid ++ [q]) := by
  cases l with
  | nil => cases h1
  | cons a t =>
    simp at h1
    subst h1
    cases t with
    | nil => simp at h2; exact absurd h2 hne
    | cons b t =>
      rw [List.getLast?_cons_cons] at h2
      obtain ⟨m, hm⟩ := List.getLast?_eq_some_iff.mp h2
      exact ⟨m, by rw [hm]⟩
theorem conZ_cl {E : Con → Prop} {M : Tab} (h : Cl E M) (hs : Small E) (hE : ∀ x, E x → wrong1 x = 0) {x : Con} (hx : wrong1 x = 0) (hc : -140737488355328 ≤ x.c ∧ x.c ≤ 140737488355328) :
    (∃ N, conZ (some M) x = some N ∧ Cl (orOne E x) N) ∨ (conZ (some M) x = none ∧ Round (orOne E x)) := by
  obtain ⟨⟨g1, g2⟩, ⟨g3, g4⟩, g5⟩ := wrong1_zero hx
  have hi : x.i.toNat < 60 := by omega
  have hj : x.j.toNat < 60 := by omega
  have hcon := con_eq hx
  have he : conZ (some M) x = addZ M x.i.toNat x.j.toNat x.c := rfl
  rw [he]
  unfold addZ
  by_cases hij : x.i.toNat = x.j.toNat
  · rw [if_pos hij]
    by_cases h0 : 0 ≤ x.c
    · rw [if_pos h0]
      exact .inl ⟨M, rfl, h.more hx (by rw [← hij, h.diag _ hi]; exact h0)⟩
    · rw [if_neg h0]
      refine .inr ⟨rfl, x.i.toNat, [], x.c + 0, ?_, by simp, by omega⟩
      exact .more _ _ _ [] 0 hi (.inr (by rw [hcon]; simp only [hij]; simp)) (.one _ hi)
  · rw [if_neg hij]
    by_cases h1 : M x.i.toNat x.j.toNat ≤ x.c
    · rw [if_pos h1]; exact .inl ⟨M, rfl, h.more hx h1⟩
    · rw [if_neg h1]
      by_cases h2 : psum (M x.j.toNat x.i.toNat) x.c < 0
      · rw [if_pos h2]
        refine .inr ⟨rfl, ?_⟩
        have hne : M x.j.toNat x.i.toNat ≠ 3458764513820540928 := fun e => by rw [psum_no _ _ e (by omega)] at h2; omega
        have hb := h.bound hs hj hi hne
        rw [psum_fin (by omega) (by omega)] at h2
        obtain ⟨l, a1, a2, a3, a4⟩ := h.way _ _ hj hi hne
        obtain ⟨mid, rfl⟩ := split_ends a2 a3 (fun e => hij e.symm)
        refine ⟨x.i.toNat, x.j.toNat :: mid, x.c + M x.j.toNat x.i.toNat, ?_, ?_, by omega⟩
        · exact .more _ _ _ _ _ hi (.inr hcon.symm) (a4.mono fun y hy => .inl hy)
        · rw [← List.cons_append] at a1
          have := List.nodup_append.mp a1
          refine List.nodup_cons.mpr ⟨fun hm => this.2.2 _ hm _ (by simp) rfl, this.1⟩
      · rw [if_neg h2]
        have hcl := cl_add h hs hE hi hj hij hc h2 h1
        have hn : negT (addT M x.i.toNat x.j.toNat x.c) = false := negT_false.mpr fun p hp => by rw [hcl.diag p hp]; omega
        rw [hn]
        refine .inl ⟨_, rfl, ?_⟩
        rw [← hcon] at hcl
        exact hcl
def SmallR (L : List Con) : Prop := ∀ x ∈ L, wrong1 x = 0 ∧ -140737488355328 ≤ x.c ∧ x.c ≤ 140737488355328
theorem SmallR.small {L : List Con} (h : SmallR L) : Small (· ∈ L) := fun x hx => (h x hx).2
theorem SmallR.right {L : List Con} (h : SmallR L) : ∀ x, x ∈ L → wrong1 x = 0 := fun x hx => (h x hx).1
theorem Cl.iff {E F : Con → Prop} {M : Tab} (h : Cl E M) (hEF : ∀ x, E x ↔ F x) : Cl F M := by
  have : E = F := funext fun x => propext (hEF x)
  exact this ▸ h
/-- what With makes of small bounds -/
theorem with_cl (L : List Con) (hL : SmallR L) : (∃ M, withZ (some topT) L = some M ∧ Cl (· ∈ L) M) ∨ (withZ (some topT) L = none ∧ Round (· ∈ L)) := by
  suffices ∀ (L2 L1 : List Con), SmallR (L1 ++ L2) → ((∃ M, withZ (some topT) L1 = some M ∧ Cl (· ∈ L1) M) ∨ (withZ (some topT) L1 = none ∧ Round (· ∈ L1))) →
      (∃ M, withZ (some topT) (L1 ++ L2) = some M ∧ Cl (· ∈ L1 ++ L2) M) ∨ (withZ (some topT) (L1 ++ L2) = none ∧ Round (· ∈ L1 ++ L2)) by
    exact this L [] (by simpa using hL) (.inl ⟨topT, rfl, cl_top.iff fun x => by simp⟩)
  intro L2
  induction L2 with
  | nil => intro L1 _ h; simpa using h
  | cons x L2 ih =>
    intro L1 hs h
    have e : L1 ++ x :: L2 = (L1 ++ [x]) ++ L2 := by simp
    rw [e] at hs ⊢
    refine ih (L1 ++ [x]) hs ?_
    have hx := hs x (by simp)
    rw [withZ_snoc]
    rcases h with ⟨M, h1, h2⟩ | ⟨h1, h2⟩
    · rw [h1]
      rcases conZ_cl h2 (fun y hy => (hs y (by simp [hy])).2) (fun y hy => (hs y (by simp [hy])).1) hx.1 hx.2 with ⟨N, h3, h4⟩ | ⟨h3, h4⟩
      · exact .inl ⟨N, h3, h4.iff fun y => by simp [orOne]⟩
      · exact .inr ⟨h3, h4.mono fun y hy => List.mem_append.mpr (by rcases hy with hy | hy; exact .inl hy; exact .inr (by rw [hy]; exact List.mem_singleton.mpr rfl))⟩
    · rw [h1]
      exact .inr ⟨rfl, h2.mono fun y hy => by simp [hy]⟩
theorem Way.split {E : Con → Prop} : ∀ (a : List Nat) (v : Nat) (b : List Nat) (w : Int), Way E (a ++ v :: b) w → ∃ w1 w2, w = w1 + w2 ∧ Way E (a ++ [v]) w1 ∧ Way E (v :: b) w2
  | [], v, b, w, h => ⟨0, w, by omega, .one v (h.lt v (by simp)), h⟩
  | [p], v, b, w, h => by
    cases h with
    | more _ _ c _ u hp he hw => exact ⟨c + 0, u, by omega, .more p v c [] 0 hp he (.one v (hw.lt v (by simp))), hw⟩
  | p :: q :: a, v, b, w, h => by
    cases h with
    | more _ _ c _ u hp he hw =>
      obtain ⟨w1, w2, e, h1, h2⟩ := Way.split (q :: a) v b u hw
      exact ⟨c + w1, w2, by omega, .more p q c _ w1 hp he h1, h2⟩
/-- the least of the bounds that are handed in -/
theorem fold_le (L : List Con) (M : Tab) (p q : Nat) : L.foldl minT M p q ≤ M p q := by
  induction L generalizing M with
  | nil => exact Int.le_refl _
  | cons x L ih => exact Int.le_trans (ih _) (by unfold minT; split <;> omega)
theorem fold_at (L : List Con) (M : Tab) {x : Con} (hx : x ∈ L) : L.foldl minT M x.i.toNat x.j.toNat ≤ x.c := by
  induction L generalizing M with
  | nil => cases hx
  | cons y L ih =>
    rcases List.mem_cons.mp hx with rfl | hx
    · exact Int.le_trans (fold_le L _ _ _) (by unfold minT; rw [if_pos ⟨rfl, rfl⟩]; omega)
    · exact ih _ hx
theorem step_le (M : Tab) (k p q : Nat) : stepF M k p q ≤ M p q := by unfold stepF; omega
theorem floyd_anti (M : Tab) (k p q : Nat) : floydT M k p q ≤ M p q := by
  induction k with
  | zero => exact Int.le_refl _
  | succ k ih => rw [floydT_succ]; exact Int.le_trans (step_le _ _ _ _) ih
/-- no bound of Close's is above a way's weight -/
theorem floyd_le {L : List Con} (hL : SmallR L) : ∀ (k : Nat) (mid : List Nat) (p q : Nat) (w : Int), Way (· ∈ L) (p :: (mid ++ [q])) w → (p :: mid).Nodup → (mid ++ [q]).Nodup → (∀ v ∈ mid, v < k) → floydT (L.foldl minT topT) k p q ≤ w
  | 0, mid, p, q, w, hw, _, _, hk => by
    have : mid = [] := by
      cases mid with
      | nil => rfl
      | cons v t => exact absurd (hk v (by simp)) (by omega)
    subst this
    cases hw with
    | more _ _ c _ u hp he hw =>
      cases hw with
      | one _ hq => have := fold_at L topT he; simp at this; show L.foldl minT topT p q ≤ c + 0; omega
  | k + 1, mid, p, q, w, hw, h1, h2, hk => by
    rw [floydT_succ]
    by_cases hm : k ∈ mid
    · obtain ⟨m1, m2, rfl⟩ := List.append_of_mem hm
      have e : p :: ((m1 ++ k :: m2) ++ [q]) = (p :: m1) ++ k :: (m2 ++ [q]) := by simp
      rw [e] at hw
      obtain ⟨w1, w2, rfl, x1, x2⟩ := Way.split _ _ _ _ hw
      have n1 : (p :: m1).Nodup := by
        have : (p :: (m1 ++ k :: m2)) = (p :: m1) ++ (k :: m2) := by simp
        rw [this] at h1
        exact (List.nodup_append.mp h1).1
      have h2' : (m1 ++ [k] ++ (m2 ++ [q])).Nodup := by simpa using h2
      have n2 : (m1 ++ [k]).Nodup := (List.nodup_append.mp h2').1
      have h2'' : (m1 ++ (k :: (m2 ++ [q]))).Nodup := by simpa using h2
      have n3 : (k :: (m2 ++ [q])).Nodup := (List.nodup_append.mp h2'').2.1
      have n4 : (m2 ++ [q]).Nodup := (List.nodup_cons.mp n3).2
      have n5 : (k :: m2).Nodup := by
        have : k :: (m2 ++ [q]) = (k :: m2) ++ [q] := by simp
        rw [this] at n3
        exact (List.nodup_append.mp n3).1
      have i1 := floyd_le hL k m1 p k w1 (by simpa using x1) n1 n2 (fun v hv => by
        have := hk v (by simp [hv])
        have : v ≠ k := fun e => (List.nodup_append.mp n2).2.2 v hv k (by simp) e
        omega)
      have i2 := floyd_le hL k m2 k q w2 x2 n5 n4 (fun v hv => by
        have := hk v (by simp [hv])
        have : v ≠ k := fun e => (List.nodup_cons.mp n5).1 (e ▸ hv)
        omega)
      have b1 := x1.bound hL.small
      have b2 := x2.bound hL.small
      have l1 := nodup_length 60 _ n1 (fun v hv => x1.lt v (by simp only [List.cons_append, List.mem_cons, List.mem_append] at hv ⊢; rcases hv with h | h <;> simp [h]))
      have l2 := nodup_length 60 _ n5 (fun v hv => x2.lt v (by simp only [List.mem_cons, List.mem_append] at hv ⊢; rcases hv with h | h <;> simp [h]))
      simp only [List.length_append, List.length_cons, List.length_nil] at b1 b2 l1 l2
      have hm := psum_mono i1 i2
      rw [psum_fin (x := w1) (y := w2) (by omega) (by omega)] at hm
      have : stepF (floydT (L.foldl minT topT) k) k p q ≤ psum (floydT (L.foldl minT topT) k p k) (floydT (L.foldl minT topT) k k q) := by unfold stepF; omega
      omega
    · exact Int.le_trans (step_le _ _ _ _) (floyd_le hL k mid p q w hw h1 h2 (fun v hv => by
        have := hk v hv
        have : v ≠ k := fun e => hm (e ▸ hv)
        omega))
/-- and none is below the closed table's -/
theorem floyd_ge {L : List Con} (hL : SmallR L) {M : Tab} (h : Cl (· ∈ L) M) (k : Nat) (hk : k ≤ 60) : ∀ p q, p < 60 → q < 60 → M p q ≤ floydT (L.foldl minT topT) k p q := by
  induction k with
  | zero =>
    intro p q hp hq
    show M p q ≤ L.foldl minT topT p q
    suffices ∀ (L' : List Con) (T : Tab), (∀ x ∈ L', x ∈ L) → (∀ p q, p < 60 → q < 60 → M p q ≤ T p q) → ∀ p q, p < 60 → q < 60 → M p q ≤ L'.foldl minT T p q by
      refine this L topT (fun _ h => h) (fun p q hp hq => ?_) p q hp hq
      unfold topT
      split
      · rename_i e; subst e; rw [h.diag p hp]; omega
      · exact (h.ok p q hp hq).rng.2
    intro L'
    induction L' with
    | nil => intro T _ hT; exact hT
    | cons x L' ih =>
      intro T hx hT
      refine ih (minT T x) (fun y hy => hx y (by simp [hy])) fun p q hp hq => ?_
      unfold minT
      split
      · rename_i e
        have hxL := hx x (by simp)
        have hle := h.le p q x.c (by have := con_eq (hL x hxL).1; rw [e.1, e.2, ← this]; exact hxL) hp hq
        have := hT p q hp hq
        omega
      · exact hT p q hp hq
  | succ k ih =>
    intro p q hp hq
    have hi := ih (by omega)
    rw [floydT_succ]
    have h1 := hi p q hp hq
    have h2 := hi p k hp (by omega)
    have h3 := hi k q (by omega) hq
    have ok0 : OkT (L.foldl minT topT) := by
      suffices ∀ (L' : List Con) (T : Tab), (∀ x ∈ L', x ∈ L) → OkT T → OkT (L'.foldl minT T) from this L topT (fun _ h => h) okT_top
      intro L'
      induction L' with
      | nil => intro T _ hT; exact hT
      | cons x L' ih => intro T hx hT; exact ih _ (fun y hy => hx y (by simp [hy])) (okT_min hT (by
          obtain ⟨_, _, g5⟩ := wrong1_zero (hL x (hx x (by simp))).1
          unfold rngB; simp; omega))
    have okk := okT_floyd ok0 k
    have o2 := okk p k hp (by omega)
    have o3 := okk k q (by omega) hq
    have om := (h.ok p q hp hq).rng
    show M p q ≤ min _ _
    suffices M p q ≤ psum (floydT (L.foldl minT topT) k p k) (floydT (L.foldl minT topT) k k q) by omega
    generalize floydT (L.foldl minT topT) k p k = x at *
    generalize floydT (L.foldl minT topT) k k q = y at *
    by_cases ex : x = 3458764513820540928
    · rw [psum_no _ _ ex o3.rng.1]; exact om.2
    · by_cases ey : y = 3458764513820540928
      · rw [psum_no' _ _ ey o2.rng.1]; exact om.2
      · have f1 : M p k ≠ 3458764513820540928 := by unfold Ok at o2; omega
        have f2 : M k q ≠ 3458764513820540928 := by unfold Ok at o3; omega
        have := h.tri p k q hp (by omega) hq f1 f2
        unfold psum
        split <;> omega
/-- what Close makes of small bounds is what With does -/
theorem close_cl (L : List Con) (hL : SmallR L) : sameZ' (closeZ L) (withZ (some topT) L) := by
  unfold closeZ closeM
  rcases with_cl L hL with ⟨M, h1, h2⟩ | ⟨h1, p, mid, w, hw, hn, hlt⟩
  · have hd : negT (floydT (L.foldl minT topT) 60) = false := negT_false.mpr fun p hp => by
      have := floyd_ge hL h2 60 (Nat.le_refl _) p p hp hp
      rw [h2.diag p hp] at this
      exact this
    rw [hd, h1]
    intro p q hp hq
    have hge := floyd_ge hL h2 60 (Nat.le_refl _) p q hp hq
    by_cases hpq : p = q
    · subst hpq
      rw [h2.diag p hp] at hge ⊢
      have := Int.le_trans (floyd_anti (L.foldl minT topT) 60 p p) (fold_le L topT p p)
      have e : topT p p = 0 := if_pos rfl
      omega
    · by_cases hne : M p q = 3458764513820540928
      · have ok0 : floydT (L.foldl minT topT) 60 p q ≤ topT p q := Int.le_trans (floyd_anti (L.foldl minT topT) 60 p q) (fold_le L topT p q)
        have e : topT p q = 3458764513820540928 := if_neg hpq
        omega
      · obtain ⟨l, a1, a2, a3, a4⟩ := h2.way p q hp hq hne
        obtain ⟨mid, rfl⟩ := split_ends a2 a3 hpq
        have := floyd_le hL 60 mid p q (M p q) a4 (by
          rw [← List.cons_append] at a1
          exact (List.nodup_append.mp a1).1) (List.nodup_cons.mp a1).2 (fun v hv => a4.lt v (by simp [hv]))
        omega
  · have hp : p < 60 := hw.lt p (by simp)
    have hle := floyd_le hL 60 mid p p w hw hn (by
      have := List.nodup_cons.mp hn
      refine List.nodup_append.mpr ⟨this.2, by simp, fun a ha b hb e => ?_⟩
      simp at hb
      subst hb; subst e
      exact this.1 ha) (fun v hv => hw.lt v (by simp [hv]))
    rw [negT_true hp (by omega), h1]
    trivial
end Go.Proofs.Ytejcijbohnlbgaa.Zon
