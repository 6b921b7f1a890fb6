/- A region that draws its order and ends with one operation that waits for all the others: that last one is carried out behind all, apart; so what the others read may be written by it. -/
import Derived.WalkKit
import Derived.OrdersHeld
import Derived.StillTail
import Derived.Deep.RegionHeld
namespace Go.Proofs.Ytkfcfoidaalnlaa
open Go

section
variable {P : Program} {ops : Array Oper} {md : Region.Mode} {Q : Exit → Act → World → Prop} {S : World → Prop}

/-- what is asked behind all but the last: that the last one, carried out, leaves Q -/
def Ahead (P : Program) (ops : Array Oper) (Q : Exit → Act → World → Prop) (n : Nat) : Exit → Act → World → Prop
  | .normal, a, w => wpOp P ops Q n (fun a' w' => Q .normal a' w') a w
  | e, a, w => Q e a w
theorem Ahead.back {i n : Nat} {K : Act → World → Prop} {a : Act} {w : World} (h : wpOp P ops (Ahead P ops Q n) i K a w) : wpOp P ops Q i K a w := h
/-- each waits for earlier ones alone -/
def lowerB (ops : Array Oper) : Bool := (List.range ops.size).all fun j => match ops[j]? with
  | some o => o.after.all fun e => decide (e.on < j)
  | none => true
theorem lower_spec (h : lowerB ops = true) {j : Nat} {o : Oper} (ho : ops[j]? = some o) : ∀ e ∈ o.after, e.on < j := by
  intro e he
  have hj : j < ops.size := (Array.getElem?_eq_some_iff.1 ho).1
  have h1 := List.all_eq_true.1 h j (List.mem_range.2 hj)
  rw [ho] at h1
  simp only at h1
  exact of_decide_eq_true ((Array.all_eq_true_iff_forall_mem.1 h1) e he)
theorem some_ready (h : lowerB ops = true) {l : Array Bool} (hsz : l.size = ops.size) : ∀ (j : Nat), j < ops.size → l.getD j true = false → Region.ready md ops l ≠ [] := by
  intro j
  induction j using Nat.strongRecOn with
  | _ j ih =>
    intro hj hun
    obtain ⟨o, ho⟩ : ∃ o, ops[j]? = some o := ⟨ops[j], Array.getElem?_eq_getElem hj⟩
    by_cases hall : ∀ e ∈ o.after, Region.binds md e = true → l.getD e.on false = true
    · have : j ∈ Region.ready md ops l := mem_ready.2 ⟨hun, o, ho, hall⟩
      intro h0; rw [h0] at this; cases this
    · simp only [Classical.not_forall] at hall
      obtain ⟨e, he, hb, hl⟩ := hall
      have hlt := lower_spec h ho e he
      exact ih e.on hlt (by omega) (getD_in (by rw [hsz]; omega) (by simpa using hl))
theorem getD_at_set {l : Array Bool} {n j : Nat} (h : (l.setIfInBounds n true).getD j true = false) : l.getD j true = false ∧ j ≠ n := by
  by_cases hj : n = j
  · subst hj
    exfalso
    by_cases hs : n < l.size
    · simp [hs] at h
    · simp at h
  · rw [getD_set_ne true hj] at h
    exact ⟨h, fun e => hj e.symm⟩
theorem wpAny_last {n : Nat} (hs : Region.sinkB md ops n = true) (hc : Region.chainB md ops n = true) (hlow : lowerB ops = true) (hsz : ops.size = n + 1) :
    ∀ (f : Nat) (l : Array Bool) (a : Act) (w : World), HeadInv md ops n l → wpAnyH P md ops (Ahead P ops Q n) S f (l.setIfInBounds n true) a w → wpAny P md ops Q (f + 1) l a w := by
  intro f
  induction f with
  | zero =>
    intro l a w inv h
    refine ⟨fun h0 => absurd h0 (some_ready hlow inv.size n (by omega) (inv.tail n (Nat.le_refl _) (by omega))), fun i hi => ?_⟩
    by_cases hin : i = n
    · subst hin
      exact wpOp_mono (fun a' w' q => ⟨h.1, q⟩) h.2
    · have := ready_mono hi hin
      rw [h.1] at this; cases this
  | succ f ih =>
    intro l a w inv h
    refine ⟨fun h0 => absurd h0 (some_ready hlow inv.size n (by omega) (inv.tail n (Nat.le_refl _) (by omega))), fun i hi => ?_⟩
    by_cases hin : i = n
    · subst hin
      have h0 : Region.ready md ops (l.setIfInBounds i true) = [] := by
        rw [List.eq_nil_iff_forall_not_mem]
        intro j hj
        obtain ⟨hun, o, ho, _⟩ := mem_ready.1 hj
        obtain ⟨hun, hne⟩ := getD_at_set hun
        have hjl : j < ops.size := (Array.getElem?_eq_some_iff.1 ho).1
        exact tail_waits hs hc (by omega) inv _ j rfl (by omega) hun i (Nat.le_refl _) hi
      exact wpOp_mono (fun a' w' q => ⟨fun _ => q, by rw [h0]; simp⟩) (h.1 h0)
    · have hil : i < n := by
        obtain ⟨_, o, ho, _⟩ := mem_ready.1 hi
        have hjl : i < ops.size := (Array.getElem?_eq_some_iff.1 ho).1
        omega
      have h2 := Ahead.back (h.2 i (ready_mono hi hin))
      refine wpOp_mono (fun a' w' k => ?_) h2
      refine ih (l.setIfInBounds i true) a' w' (inv.set hi hil) ?_
      rw [Array.setIfInBounds_comm _ _ hin]
      exact k.2
/-- the region, its last operation apart -/
theorem wp_region_last {id n : Nat} {a : Act} {w : World} (hm : P.follows .mixedOrders = true) (hs : Region.sinkB .any ops n = true) (hc : Region.chainB .any ops n = true) (hlow : lowerB ops = true) (hsz : ops.size = n + 1) (hS : S w.drew)
    (h : S w.drew → wpAnyH P .any ops (Ahead P ops Q n) S n ((Array.replicate ops.size false).setIfInBounds n true) a w.drew) : (Code.region id ops true).wp P Q a w := by
  refine wp_region_any hm ?_
  have inv : HeadInv .any ops n (Array.replicate ops.size false) :=
    ⟨by simp, (fun j oj _ hl => by rw [getD_replicate_false] at hl; cases hl), fun t _ ht => getD_in (by simpa using ht) (getD_replicate_false _ _)⟩
  have := wpAny_last (P := P) (Q := Q) (S := S) hs hc hlow hsz n (Array.replicate ops.size false) a w.drew inv (h hS)
  rw [hsz] at this ⊢
  exact this
end
end Go.Proofs.Ytkfcfoidaalnlaa
