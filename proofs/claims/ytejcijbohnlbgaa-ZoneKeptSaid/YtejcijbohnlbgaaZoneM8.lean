/- Mathematics of ZoneLoses, ZonePuts, ZoneRenews: what Forget, Assign, Put make of closed tables; an assignment extended by variables one after the other. -/
import Derived.Test.YtejcijbohnlbgaaZoneM7
namespace Go.Proofs.Ytejcijbohnlbgaa
open Zon
set_option linter.unusedVariables false
set_option maxRecDepth 100000
theorem Tight.back {M : Tab} (h : Tight M) {p r : Nat} (hp : p < 60) (hr : r < 60) (h1 : M p r ≠ 3458764513820540928) (h2 : M r p ≠ 3458764513820540928) : 0 ≤ M p r + M r p := by
  have := h.tri p r p hp hr hp h1 h2
  rw [h.diag p hp] at this
  exact this
theorem Tight.free {M : Tab} (h : Tight M) (v : Nat) : Tight (freeT M v) where
  ok := okT_free h.ok v
  diag p hp := by
    unfold freeT
    rw [if_pos rfl]
    split
    · rfl
    · exact h.diag p hp
  tri p r q hp hr hq h1 h2 := by
    unfold freeT at *
    have dp := h.diag p hp
    have dr := h.diag r hr
    have dq := h.diag q hq
    by_cases e1 : p = r
    · subst e1
      rw [if_pos rfl]
      split <;> split <;> omega
    · by_cases e2 : r = q
      · subst e2
        rw [if_pos rfl, if_neg e1]
        split <;> split <;> omega
      · rw [if_neg e1] at h1 ⊢
        rw [if_neg e2] at h2 ⊢
        by_cases g1 : p = v ∨ r = v
        · rw [if_pos g1] at h1; exact absurd rfl h1
        · by_cases g2 : r = v ∨ q = v
          · rw [if_pos g2] at h2; exact absurd rfl h2
          · rw [if_neg g1] at h1 ⊢
            rw [if_neg g2] at h2 ⊢
            by_cases e3 : p = q
            · subst e3
              rw [if_pos rfl, if_neg (by omega)]
              have := h.back hp hr h1 h2
              omega
            · rw [if_neg e3, if_neg (by omega)]
              exact h.tri p r q hp hr hq h1 h2
  bd p q hp hq hne := by
    unfold freeT at *
    by_cases e : p = q
    · subst e
      rw [if_pos rfl]
      have := h.diag p hp
      split <;> omega
    · rw [if_neg e] at hne ⊢
      by_cases g : p = v ∨ q = v
      · rw [if_pos g] at hne; exact absurd rfl hne
      · rw [if_neg g] at hne ⊢
        exact h.bd p q hp hq hne
theorem Tight.forget {M : Tab} (h : Tight M) (vs : List Int) : Tight (forgetT M vs) := by
  unfold forgetT
  induction vs generalizing M with
  | nil => exact h
  | cons v vs ih =>
    rw [List.foldl_cons]
    split
    · exact ih (h.free _)
    · exact ih h
theorem forgetT_at {M : Tab} {p q : Nat} (vs : List Int) (hv : ∀ v ∈ vs, renewB v = true → p ≠ v.toNat ∧ q ≠ v.toNat) : forgetT M vs p q = M p q := by
  unfold forgetT
  induction vs generalizing M with
  | nil => rfl
  | cons v vs ih =>
    rw [List.foldl_cons, ih fun u hu => hv u (List.mem_cons_of_mem _ hu)]
    by_cases e : renewB v = true
    · rw [if_pos e]
      have := hv v (List.mem_cons_self ..) e
      unfold freeT
      by_cases g : p = q
      · rw [if_pos g, if_neg this.1]
      · rw [if_neg g, if_neg (by omega)]
    · rw [if_neg e]
/-- Assign is the table looked at through a map of its variables, moved -/
def sigV (x y p : Nat) : Nat := if p = x then y else p
def movV (x : Nat) (c : Int) (p : Nat) : Int := if p = x then c else 0
theorem assignT_at {M : Tab} (h : Tight M) {x y : Nat} {c : Int} (hx : x < 60) (hy : y < 60) (hc : -1099511627776 ≤ c ∧ c ≤ 1099511627776) {p q : Nat} (hp : p < 60) (hq : q < 60) :
    (M (sigV x y p) (sigV x y q) = 3458764513820540928 → assignT M x y c p q = 3458764513820540928) ∧ (M (sigV x y p) (sigV x y q) ≠ 3458764513820540928 → assignT M x y c p q = M (sigV x y p) (sigV x y q) + movV x c p - movV x c q) := by
  unfold assignT sigV movV
  by_cases e : p = q
  · subst e
    rw [if_pos rfl]
    by_cases e1 : p = x
    · subst e1
      simp only [if_true]
      rw [h.diag y hy, h.diag p hp]
      omega
    · simp only [if_neg e1]
      rw [h.diag p hp]
      omega
  · rw [if_neg e]
    by_cases e1 : p = x
    · subst e1
      have e2 : q ≠ p := fun e' => e e'.symm
      simp only [if_true, if_neg e2]
      refine ⟨fun g => psum_no _ _ g (by omega), fun g => ?_⟩
      have := h.bd y q hy hq g
      rw [psum_fin (by omega) (by omega)]
      omega
    · by_cases e2 : q = x
      · subst e2
        simp only [if_true, if_neg e1]
        refine ⟨fun g => psum_no _ _ g (by omega), fun g => ?_⟩
        have := h.bd p y hp hy g
        rw [psum_fin (by omega) (by omega)]
        omega
      · simp only [if_neg e1, if_neg e2]
        exact ⟨fun g => g, fun g => by omega⟩
theorem sig_lt {x y p : Nat} (hy : y < 60) (hp : p < 60) : sigV x y p < 60 := by unfold sigV; split <;> omega
theorem mov_rng {x : Nat} {c : Int} (hc : -1099511627776 ≤ c ∧ c ≤ 1099511627776) (p : Nat) : -1099511627776 ≤ movV x c p ∧ movV x c p ≤ 1099511627776 := by unfold movV; split <;> omega
/-- closed, with bounds below a limit that leaves room for one move more -/
structure Tight' (M : Tab) : Prop extends Tight M where
  bd' : ∀ p q, p < 60 → q < 60 → M p q ≠ 3458764513820540928 → -70000000000000 ≤ M p q ∧ M p q ≤ 70000000000000
theorem Tight'.assign {M : Tab} (h : Tight' M) {x y : Nat} {c : Int} (hx : x < 60) (hy : y < 60) (hc : -1099511627776 ≤ c ∧ c ≤ 1099511627776) : Tight (assignT M x y c) where
  ok := okT_assign h.ok x y c
  diag p hp := by
    have := assignT_at h.toTight hx hy hc hp hp
    have d := h.diag _ (sig_lt (x := x) hy hp)
    have := this.2 (by omega)
    omega
  tri p r q hp hr hq h1 h2 := by
    have a1 := assignT_at h.toTight hx hy hc hp hr
    have a2 := assignT_at h.toTight hx hy hc hr hq
    have a3 := assignT_at h.toTight hx hy hc hp hq
    have g1 : M (sigV x y p) (sigV x y r) ≠ 3458764513820540928 := fun g => h1 (a1.1 g)
    have g2 : M (sigV x y r) (sigV x y q) ≠ 3458764513820540928 := fun g => h2 (a2.1 g)
    have ht := h.tri _ _ _ (sig_lt hy hp) (sig_lt hy hr) (sig_lt hy hq) g1 g2
    have b1 := h.bd _ _ (sig_lt hy hp) (sig_lt hy hr) g1
    have b2 := h.bd _ _ (sig_lt hy hr) (sig_lt hy hq) g2
    have g3 : M (sigV x y p) (sigV x y q) ≠ 3458764513820540928 := by omega
    rw [a1.2 g1, a2.2 g2, a3.2 g3]
    omega
  bd p q hp hq hne := by
    have a := assignT_at h.toTight hx hy hc hp hq
    have g : M (sigV x y p) (sigV x y q) ≠ 3458764513820540928 := fun g => hne (a.1 g)
    have b := h.bd' _ _ (sig_lt hy hp) (sig_lt hy hq) g
    have m1 := mov_rng (x := x) hc p
    have m2 := mov_rng (x := x) hc q
    rw [a.2 g]
    omega
/-- what is renewed is the other variable and the number -/
theorem assign_own {M : Tab} (h : Tight' M) {x y : Nat} {c : Int} (hx : x < 60) (hy : y < 60) (hc : -1099511627776 ≤ c ∧ c ≤ 1099511627776) (hne : x ≠ y) {a : Nat → Int} (ha : Meets (assignT M x y c) a) : a x = a y + c := by
  have a1 := assignT_at h.toTight hx hy hc hx hy
  have a2 := assignT_at h.toTight hx hy hc hy hx
  have s1 : sigV x y x = y := if_pos rfl
  have s2 : sigV x y y = y := by unfold sigV; split <;> rfl
  have m1 : movV x c x = c := if_pos rfl
  have m2 : movV x c y = 0 := if_neg (fun e => hne e.symm)
  have d := h.diag y hy
  rw [s1, s2, m1, m2] at a1
  rw [s1, s2, m1, m2] at a2
  have e1 := a1.2 (by omega)
  have e2 := a2.2 (by omega)
  have b1 := ha x y hx hy (by omega)
  have b2 := ha y x hy hx (by omega)
  omega
/-- of the others nothing is said -/
theorem assign_rest {M : Tab} {x y : Nat} {c : Int} {p q : Nat} (hp : p ≠ x) (hq : q ≠ x) : assignT M x y c p q = M p q := by
  unfold assignT
  by_cases e : p = q
  · rw [if_pos e]
  · rw [if_neg e, if_neg hp, if_neg hq]
/-- a variable moved: an assignment goes back -/
theorem assign_back {M : Tab} (h : Tight' M) {x : Nat} {c : Int} (hx : x < 60) (hc : -1099511627776 ≤ c ∧ c ≤ 1099511627776) {a : Nat → Int} (ha : Meets (assignT M x x c) a) : Meets M (updI a x (a x - c)) := fun p q hp hq hne => by
  have a1 := assignT_at h.toTight hx hx hc hp hq
  have s : ∀ k, sigV x x k = k := fun k => by unfold sigV; split <;> omega
  rw [s, s] at a1
  have e := a1.2 hne
  have b := h.bd p q hp hq hne
  have m1 := mov_rng (x := x) hc p
  have m2 := mov_rng (x := x) hc q
  have := ha p q hp hq (by omega)
  unfold updI
  unfold movV at e
  by_cases e1 : p = x <;> by_cases e2 : q = x <;> simp only [e1, e2, if_true, if_false] at * <;> omega

/-- the greatest of the lower ends so far, the least of the upper ones -/
def lowK (M : Tab) (b : Nat → Int) (op : Nat → Bool) (x : Nat) : Nat → Int
  | 0 => -1152921504606846976
  | k + 1 => if k = x ∨ op k = true then lowK M b op x k else if M k x = 3458764513820540928 then lowK M b op x k else if lowK M b op x k < b k - M k x then b k - M k x else lowK M b op x k
def highK (M : Tab) (b : Nat → Int) (op : Nat → Bool) (x : Nat) : Nat → Int
  | 0 => 1152921504606846976
  | k + 1 => if k = x ∨ op k = true then highK M b op x k else if M x k = 3458764513820540928 then highK M b op x k else if b k + M x k < highK M b op x k then b k + M x k else highK M b op x k
theorem lowK_ge {M : Tab} {b : Nat → Int} {op : Nat → Bool} {x : Nat} : ∀ (n k : Nat), k < n → k ≠ x → op k = false → M k x ≠ 3458764513820540928 → b k - M k x ≤ lowK M b op x n
  | n + 1, k, hk, h1, h2, h3 => by
    unfold lowK
    by_cases e : k = n
    · subst e
      rw [if_neg (by simp [h1, h2]), if_neg h3]
      split <;> omega
    · have ih := lowK_ge (M := M) (b := b) (op := op) (x := x) n k (by omega) h1 h2 h3
      split
      · exact ih
      · split
        · exact ih
        · split <;> omega
theorem highK_le {M : Tab} {b : Nat → Int} {op : Nat → Bool} {x : Nat} : ∀ (n k : Nat), k < n → k ≠ x → op k = false → M x k ≠ 3458764513820540928 → highK M b op x n ≤ b k + M x k
  | n + 1, k, hk, h1, h2, h3 => by
    unfold highK
    by_cases e : k = n
    · subst e
      rw [if_neg (by simp [h1, h2]), if_neg h3]
      split <;> omega
    · have ih := highK_le (M := M) (b := b) (op := op) (x := x) n k (by omega) h1 h2 h3
      split
      · exact ih
      · split
        · exact ih
        · split <;> omega
theorem lowK_at {M : Tab} {b : Nat → Int} {op : Nat → Bool} {x : Nat} : ∀ n, lowK M b op x n = -1152921504606846976 ∨ ∃ k, k < n ∧ k ≠ x ∧ op k = false ∧ M k x ≠ 3458764513820540928 ∧ lowK M b op x n = b k - M k x
  | 0 => .inl rfl
  | n + 1 => by
    have ih := lowK_at (M := M) (b := b) (op := op) (x := x) n
    have up : (lowK M b op x n = -1152921504606846976 ∨ ∃ k, k < n ∧ k ≠ x ∧ op k = false ∧ M k x ≠ 3458764513820540928 ∧ lowK M b op x n = b k - M k x) → (lowK M b op x n = -1152921504606846976 ∨ ∃ k, k < n + 1 ∧ k ≠ x ∧ op k = false ∧ M k x ≠ 3458764513820540928 ∧ lowK M b op x n = b k - M k x) := fun h => by
      rcases h with h | ⟨k, h1, h2⟩
      · exact .inl h
      · exact .inr ⟨k, by omega, h2⟩
    unfold lowK
    split
    · exact up ih
    · rename_i g
      split
      · exact up ih
      · rename_i g2
        split
        · exact .inr ⟨n, by omega, fun e => g (.inl e), by cases h : op n with | false => rfl | true => exact absurd (.inr h) g, g2, rfl⟩
        · exact up ih
theorem highK_at {M : Tab} {b : Nat → Int} {op : Nat → Bool} {x : Nat} : ∀ n, highK M b op x n = 1152921504606846976 ∨ ∃ k, k < n ∧ k ≠ x ∧ op k = false ∧ M x k ≠ 3458764513820540928 ∧ highK M b op x n = b k + M x k
  | 0 => .inl rfl
  | n + 1 => by
    have ih := highK_at (M := M) (b := b) (op := op) (x := x) n
    have up : (highK M b op x n = 1152921504606846976 ∨ ∃ k, k < n ∧ k ≠ x ∧ op k = false ∧ M x k ≠ 3458764513820540928 ∧ highK M b op x n = b k + M x k) → (highK M b op x n = 1152921504606846976 ∨ ∃ k, k < n + 1 ∧ k ≠ x ∧ op k = false ∧ M x k ≠ 3458764513820540928 ∧ highK M b op x n = b k + M x k) := fun h => by
      rcases h with h | ⟨k, h1, h2⟩
      · exact .inl h
      · exact .inr ⟨k, by omega, h2⟩
    unfold highK
    split
    · exact up ih
    · rename_i g
      split
      · exact up ih
      · rename_i g2
        split
        · exact .inr ⟨n, by omega, fun e => g (.inl e), by cases h : op n with | false => rfl | true => exact absurd (.inr h) g, g2, rfl⟩
        · exact up ih
theorem lowK_min {M : Tab} {b : Nat → Int} {op : Nat → Bool} {x : Nat} : ∀ n, -1152921504606846976 ≤ lowK M b op x n
  | 0 => by unfold lowK; omega
  | n + 1 => by
    have ih := lowK_min (M := M) (b := b) (op := op) (x := x) n
    unfold lowK
    split
    · exact ih
    · split
      · exact ih
      · split <;> omega
theorem highK_max {M : Tab} {b : Nat → Int} {op : Nat → Bool} {x : Nat} : ∀ n, highK M b op x n ≤ 1152921504606846976
  | 0 => by unfold highK; omega
  | n + 1 => by
    have ih := highK_max (M := M) (b := b) (op := op) (x := x) n
    unfold highK
    split
    · exact ih
    · split
      · exact ih
      · split <;> omega
/-- an assignment of the variables that stand; those below x stand -/
structure ExtInv (M : Tab) (b : Nat → Int) (op : Nat → Bool) (x : Nat) : Prop where
  rng : ∀ q, q < 60 → -(5000000000000000 + 200000000000000 * (x : Int)) ≤ b q ∧ b q ≤ 5000000000000000 + 200000000000000 * (x : Int)
  met : ∀ p q, p < 60 → q < 60 → op p = false → op q = false → M p q ≠ 3458764513820540928 → b p - b q ≤ M p q
  done : ∀ k, k < x → op k = false
def newV (M : Tab) (b : Nat → Int) (op : Nat → Bool) (x : Nat) : Int := if -1152921504606846976 < lowK M b op x 60 then lowK M b op x 60 else if highK M b op x 60 < 1152921504606846976 then highK M b op x 60 else 0
def offB (op : Nat → Bool) (x : Nat) : Nat → Bool := fun q => if q = x then false else op q
theorem ExtInv.skip {M : Tab} {b : Nat → Int} {op : Nat → Bool} {x : Nat} (h : ExtInv M b op x) (hx : op x = false) : ExtInv M b op (x + 1) :=
  ⟨fun q hq => by have := h.rng q hq; omega, h.met, fun k hk => by
    by_cases e : k = x
    · rw [e]; exact hx
    · exact h.done k (by omega)⟩
theorem ExtInv.i64 {M : Tab} {b : Nat → Int} {op : Nat → Bool} {x : Nat} (h : ExtInv M b op x) (hx : x ≤ 60) : ∀ q, q < 60 → I64 (b q) := fun q hq => by
  have := h.rng q hq
  unfold I64
  omega
theorem ExtInv.low_high {M : Tab} (hM : Tight M) {b : Nat → Int} {op : Nat → Bool} {x : Nat} (h : ExtInv M b op x) (hx : x < 60) : ∀ n m, n ≤ 60 → m ≤ 60 → lowK M b op x n ≤ highK M b op x m := fun n m hn hm => by
  rcases lowK_at (M := M) (b := b) (op := op) (x := x) n with e1 | ⟨k, k1, k2, k3, k4, e1⟩ <;> rcases highK_at (M := M) (b := b) (op := op) (x := x) m with e2 | ⟨l, l1, l2, l3, l4, e2⟩
  · omega
  · have := h.rng l (by omega); have := hM.bd x l hx (by omega) l4; omega
  · have := h.rng k (by omega); have := hM.bd k x (by omega) hx k4; omega
  · have a1 := hM.bd x l hx (by omega) l4
    have a2 := hM.bd k x (by omega) hx k4
    have ht := hM.tri k x l (by omega) hx (by omega) k4 l4
    have := h.met k l (by omega) (by omega) k3 l3 (by omega)
    omega
theorem ExtInv.step {M : Tab} (hM : Tight M) {b : Nat → Int} {op : Nat → Bool} {x : Nat} (h : ExtInv M b op x) (hx : x < 60) : ExtInv M (updI b x (newV M b op x)) (offB op x) (x + 1) := by
  have hlh := h.low_high hM hx 60 60 (by omega) (by omega)
  have hlo : ∀ k, k < 60 → k ≠ x → op k = false → M k x ≠ 3458764513820540928 → b k - M k x ≤ newV M b op x := fun k k1 k2 k3 k4 => by
    have h1 := lowK_ge 60 k k1 k2 k3 k4 (b := b)
    have h2 := lowK_min (M := M) (b := b) (op := op) (x := x) 60
    have := h.rng k k1
    have := hM.bd k x k1 hx k4
    unfold newV
    split
    · exact h1
    · omega
  have hhi : ∀ k, k < 60 → k ≠ x → op k = false → M x k ≠ 3458764513820540928 → newV M b op x ≤ b k + M x k := fun k k1 k2 k3 k4 => by
    have h1 := highK_le 60 k k1 k2 k3 k4 (b := b)
    have := h.rng k k1
    have := hM.bd x k hx k1 k4
    unfold newV
    split
    · omega
    · split <;> omega
  have hr : -(5000000000000000 + 200000000000000 * ((x + 1 : Nat) : Int)) ≤ newV M b op x ∧ newV M b op x ≤ 5000000000000000 + 200000000000000 * ((x + 1 : Nat) : Int) := by
    unfold newV
    split
    · rcases lowK_at (M := M) (b := b) (op := op) (x := x) 60 with e1 | ⟨k, k1, k2, k3, k4, e1⟩
      · omega
      · have := h.rng k k1; have := hM.bd k x k1 hx k4; omega
    · split
      · rcases highK_at (M := M) (b := b) (op := op) (x := x) 60 with e1 | ⟨k, k1, k2, k3, k4, e1⟩
        · omega
        · have := h.rng k k1; have := hM.bd x k hx k1 k4; omega
      · omega
  refine ⟨fun q hq => ?_, fun p q hp hq g1 g2 hne => ?_, fun k hk => ?_⟩
  · unfold updI
    split
    · exact hr
    · have := h.rng q hq; omega
  · unfold offB at g1 g2
    unfold updI
    by_cases e1 : p = x
    · rw [if_pos e1]
      by_cases e2 : q = x
      · rw [if_pos e2, e1, e2, hM.diag x hx]; omega
      · rw [if_neg e2] at g2 ⊢
        rw [e1] at hne ⊢
        have := hhi q hq e2 g2 hne
        omega
    · rw [if_neg e1] at g1 ⊢
      by_cases e2 : q = x
      · rw [if_pos e2]
        rw [e2] at hne ⊢
        have := hlo p hp e1 g1 hne
        omega
      · rw [if_neg e2] at g2 ⊢
        exact h.met p q hp hq g1 g2 hne
  · unfold offB
    by_cases e : k = x
    · rw [if_pos e]
    · rw [if_neg e]; exact h.done k (by omega)
theorem ExtInv.meets {M : Tab} {b : Nat → Int} {op : Nat → Bool} (h : ExtInv M b op 60) : Meets M b := fun p q hp hq hne => h.met p q hp hq (h.done p hp) (h.done q hq) hne
/-- which variables a list frees -/
def openB (vs : List Int) (q : Nat) : Bool := vs.any fun v => renewB v && (v.toNat == q)
theorem openB_false {vs : List Int} {q : Nat} : openB vs q = false ↔ ∀ v ∈ vs, renewB v = true → q ≠ v.toNat := by
  unfold openB
  rw [List.any_eq_false]
  constructor
  · intro h v hv hr e
    exact h v hv (by rw [hr, e]; simp)
  · intro h v hv
    cases hr : renewB v with
    | false => simp
    | true => have := h v hv hr; simp; omega
theorem openB_snoc (vs : List Int) (v : Int) (q : Nat) : openB (vs ++ [v]) q = (openB vs q || (renewB v && (v.toNat == q))) := by
  unfold openB
  rw [List.any_append]
  simp
theorem openB_zero (vs : List Int) : openB vs 0 = false := openB_false.mpr fun v _ hr => by
  unfold renewB at hr
  simp at hr
  omega
/-- an assignment of numbers that are not far, that meets the bounds of what stands -/
theorem ExtInv.start {M : Tab} {b : Nat → Int} {vs : List Int} (hr : ∀ q, q < 60 → -5000000000000000 ≤ b q ∧ b q ≤ 5000000000000000) (hm : ∀ p q, p < 60 → q < 60 → openB vs p = false → openB vs q = false → M p q ≠ 3458764513820540928 → b p - b q ≤ M p q) : ExtInv M b (openB vs) 1 :=
  ⟨fun q hq => by have := hr q hq; omega, hm, fun k hk => by
    obtain rfl : k = 0 := by omega
    exact openB_zero vs⟩
theorem reachV_rng {M : Tab} (h : Tight M) (j : Nat) : ∀ q, q < 60 → -5000000000000000 ≤ reachV M j q ∧ reachV M j q ≤ 5000000000000000 := fun q hq => by
  have h1 := h.rng (j := j) hq
  have h2 := h.rng (j := j) (q := 0) (by omega)
  unfold reachV
  omega
theorem ext_forget {M : Tab} (h : Tight M) (vs : List Int) (j : Nat) : ExtInv M (reachV (forgetT M vs) j) (openB vs) 1 :=
  .start (reachV_rng (h.forget vs) j) fun p q hp hq g1 g2 hne => by
    have e : forgetT M vs p q = M p q := forgetT_at vs fun v hv hr => ⟨openB_false.mp g1 v hv hr, openB_false.mp g2 v hv hr⟩
    have := (h.forget vs).meets j p q hp hq (by rw [e]; exact hne)
    rw [e] at this
    exact this
theorem open_one {x q : Nat} (h0 : 1 ≤ x) (hx : x < 60) : openB [(x : Int)] q = false ↔ q ≠ x := by
  rw [openB_false]
  constructor
  · intro h
    have := h x (by simp) (by unfold renewB; simp; omega)
    omega
  · intro h v hv hr
    simp at hv
    subst hv
    omega
theorem ext_assign {M : Tab} (h : Tight' M) {x y : Nat} {c : Int} (h0 : 1 ≤ x) (hx : x < 60) (hy : y < 60) (hc : -1099511627776 ≤ c ∧ c ≤ 1099511627776) (j : Nat) : ExtInv M (reachV (assignT M x y c) j) (openB [(x : Int)]) 1 :=
  .start (reachV_rng (h.assign hx hy hc) j) fun p q hp hq g1 g2 hne => by
    have e : assignT M x y c p q = M p q := assign_rest ((open_one h0 hx).mp g1) ((open_one h0 hx).mp g2)
    have := (h.assign hx hy hc).meets j p q hp hq (by rw [e]; exact hne)
    rw [e] at this
    exact this
end Go.Proofs.Ytejcijbohnlbgaa
