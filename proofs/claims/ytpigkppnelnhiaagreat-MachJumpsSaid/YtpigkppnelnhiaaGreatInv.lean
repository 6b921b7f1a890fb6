/- A region that draws its order, by a condition that holds whatever has come up till then: each operation is walked once, whatever the orders are. -/
import Derived.WalkKit
import Derived.OrdersHeld
import Derived.Deep.RegionHeld
namespace Go.Proofs.YtpigkppnelnhiaaGreat
open Go
namespace Inv
set_option linter.unusedVariables false
section
variable {P : Program} {ops : Array Oper} {md : Region.Mode} {Q : Exit → Act → World → Prop}

/-- a goal that no tactic looks into by itself -/
structure Veil (p : Prop) : Prop where
  out : p
/-- each waits for earlier ones alone -/
def lowB (md : Region.Mode) (ops : Array Oper) : Bool := (List.range ops.size).all fun j => match ops[j]? with
  | some o => o.after.all fun e => !Region.binds md e || decide (e.on < j)
  | none => true
theorem low_spec (h : lowB md ops = true) {j : Nat} {o : Oper} (ho : ops[j]? = some o) : ∀ e ∈ o.after, Region.binds md e = true → e.on < j := by
  intro e he hb
  have hj : j < ops.size := (Array.getElem?_eq_some_iff.1 ho).1
  have h1 := List.all_eq_true.1 h j (List.mem_range.2 hj)
  rw [ho] at h1
  simp only at h1
  have h2 := (Array.all_eq_true_iff_forall_mem.1 h1) e he
  rw [hb] at h2
  simpa using h2
theorem none_ready (h : lowB md ops = true) {l : Array Bool} (hsz : l.size = ops.size) (h0 : Region.ready md ops l = []) : ∀ j, j < ops.size → l.getD j false = true := by
  intro j
  induction j using Nat.strongRecOn with
  | _ j ih =>
    intro hj
    obtain ⟨o, ho⟩ : ∃ o, ops[j]? = some o := ⟨ops[j], Array.getElem?_eq_getElem hj⟩
    cases e : l.getD j false with
    | true => rfl
    | false =>
      have hl : l.getD j true = false := by
        have hjl : j < l.size := by omega
        simp [hjl] at e ⊢
        exact e
      have : j ∈ Region.ready md ops l := mem_ready.2 ⟨hl, o, ho, fun d hd hb => ih d.on (low_spec h ho d hd hb) (by have := low_spec h ho d hd hb; omega)⟩
      rw [h0] at this
      cases this
/-- what has come up -/
def upOf (l : Array Bool) : Nat → Prop := fun j => l.getD j false = true
theorem upOf_set {l : Array Bool} {i : Nat} (hi : i < l.size) : upOf (l.setIfInBounds i true) = fun j => j = i ∨ upOf l j := by
  funext j
  apply propext
  unfold upOf
  by_cases h : i = j
  · subst h
    simp [hi]
  · rw [getD_set_ne false h]
    exact ⟨fun h' => .inr h', fun h' => h'.resolve_left (fun e => h e.symm)⟩
theorem count_down {l : Array Bool} {i f : Nat} (hi : i < l.size) (h : l.getD i true = false) (hc : l.toList.count false = f + 1) : (l.setIfInBounds i true).toList.count false = f := by
  have e : l.toList[i]'(by simpa using hi) = false := by simpa [hi] using h
  rw [Array.toList_setIfInBounds, List.count_set (by simpa using hi), e, hc]
  rfl
theorem wpAny_inv (hlow : lowB md ops = true) (I : (Nat → Prop) → Act → World → Prop)
    (hstep : ∀ (i : Nat) (u : Nat → Prop) (a : Act) (w : World), i < ops.size → I u a w → ¬ u i → (∀ o, ops[i]? = some o → ∀ e ∈ o.after, Region.binds md e = true → u e.on) → wpOp P ops Q i (fun a' w' => I (fun j => j = i ∨ u j) a' w') a w)
    (hend : ∀ (u : Nat → Prop) (a : Act) (w : World), (∀ j, j < ops.size → u j) → I u a w → Q .normal a w) :
    ∀ (f : Nat) (l : Array Bool) (a : Act) (w : World), l.size = ops.size → l.toList.count false = f → I (upOf l) a w → wpAny P md ops Q f l a w := by
  intro f
  induction f with
  | zero =>
    intro l a w hs hc hI
    have hall : ∀ j, j < ops.size → l.getD j false = true := by
      intro j hj
      cases e : l.getD j false with
      | true => rfl
      | false =>
        have hjl : j < l.size := by omega
        have e2 : l.toList[j]'(by simpa using hjl) = false := by simpa [hjl] using e
        exact absurd (e2 ▸ List.getElem_mem (l := l.toList) (by simpa using hjl)) (List.count_eq_zero.1 hc)
    have h0 : Region.ready md ops l = [] := by
      rw [List.eq_nil_iff_forall_not_mem]
      intro j hj
      obtain ⟨hun, o, ho, _⟩ := mem_ready.1 hj
      have hjl : j < ops.size := (Array.getElem?_eq_some_iff.1 ho).1
      have h1 := hall j hjl
      have hjl' : j < l.size := by omega
      simp [hjl'] at h1 hun
      rw [h1] at hun
      cases hun
    exact ⟨h0, hend _ a w hall hI⟩
  | succ f ih =>
    intro l a w hs hc hI
    refine ⟨fun h0 => hend _ a w (none_ready hlow hs h0) hI, fun i hi => ?_⟩
    obtain ⟨hun, o, ho, hd⟩ := mem_ready.1 hi
    have hil : i < ops.size := (Array.getElem?_eq_some_iff.1 ho).1
    refine wpOp_mono (fun a' w' h => ih _ a' w' (by simpa using hs) (count_down (by omega) hun hc) (by rw [upOf_set (by omega)]; exact h)) (hstep i (upOf l) a w hil hI (fun h => ?_) (fun o' ho' e he hb => ?_))
    · have hjl : i < l.size := by omega
      unfold upOf at h
      simp [hjl] at h hun
      rw [h] at hun
      cases hun
    · rw [ho] at ho'
      injection ho' with ho'
      subst ho'
      exact hd e he hb

/-- a frame with these temporaries set -/
def puts : Act → List Tmp → (Tmp → Value) → Act
  | a, t :: ts, X => puts (a.put (some t) (X t)) ts X
  | a, [], _ => a
/-- one temporary more -/
def upd (X : Tmp → Value) (t : Tmp) (v : Value) : Tmp → Value := fun j => if j = t then v else X j
theorem upd_at (X : Tmp → Value) (t : Tmp) (v : Value) : upd X t v t = v := if_pos rfl
theorem upd_same {X : Tmp → Value} {t : Tmp} {v : Value} (h : X t = v) : upd X t v = X := by
  funext j
  unfold upd
  split
  · rename_i e
    rw [e, h]
  · rfl
theorem upd_ne (X : Tmp → Value) {t j : Tmp} (v : Value) (h : j ≠ t) : upd X t v j = X j := if_neg h
theorem put_same (a : Act) (t : Tmp) (v : Value) (h : a.tmps.getD t undef = v ) : a.put (some t) v = a := by
  obtain ⟨tm, d⟩ := a
  show Act.mk (tm.setIfInBounds t v) d = _
  congr 1
  apply Array.ext
  · simp
  · intro i h1 h2
    by_cases e : t = i
    · subst e
      rw [Array.getElem_setIfInBounds_self]
      have h3 : tm.getD t undef = v := h
      rw [← h3]
      unfold Array.getD
      rw [dif_pos h2]
      rfl
    · rw [Array.getElem_setIfInBounds, if_neg e]
theorem puts_same : ∀ (ts : List Tmp) (a : Act), puts a ts (fun t => a.tmps.getD t undef) = a
  | [], _ => rfl
  | t :: ts, a => by
    show puts (a.put (some t) (a.tmps.getD t undef)) ts (fun t => a.tmps.getD t undef) = a
    rw [put_same a t _ rfl]
    exact puts_same ts a
/-- the numbers that an operation waits for -/
def depsOf (md : Region.Mode) (o : Oper) : List Nat := (o.after.toList.filter (Region.binds md)).map (·.on)
def AllUp (u : Nat → Prop) : List Nat → Prop
  | [] => True
  | d :: ds => u d ∧ AllUp u ds
theorem allUp_of {u : Nat → Prop} : ∀ {ds : List Nat}, (∀ d ∈ ds, u d) → AllUp u ds
  | [], _ => trivial
  | d :: ds, h => ⟨h d (List.mem_cons_self), allUp_of fun x hx => h x (List.mem_cons_of_mem _ hx)⟩
/-- each of these operations keeps the condition, whenever it comes up -/
def AllInv (P : Program) (md : Region.Mode) (ops : Array Oper) (Q : Exit → Act → World → Prop) (slots : List Tmp) (R : (Nat → Prop) → (Tmp → Value) → World → Prop) (a0 : Act) (is : List Nat) : Prop :=
  ∀ i ∈ is, ∀ (u : Nat → Prop) (X : Tmp → Value) (w : World), R u X w → ¬ u i → (∀ o, ops[i]? = some o → ∀ e ∈ o.after, Region.binds md e = true → u e.on) →
    wpOp P ops Q i (fun a' w' => ∃ X', a' = puts a0 slots X' ∧ R (fun j => j = i ∨ u j) X' w') (puts a0 slots X) w
theorem AllInv.nil {slots : List Tmp} {R : (Nat → Prop) → (Tmp → Value) → World → Prop} {a0 : Act} : AllInv P md ops Q slots R a0 [] := fun _ h => by cases h
/-- one that no other one guards -/
theorem AllInv.cons {slots : List Tmp} {R : (Nat → Prop) → (Tmp → Value) → World → Prop} {a0 : Act} {i : Nat} {is : List Nat} (o : Oper) (ho : ops[i]? = some o) (hg : o.guard = none) (ds : List Nat) (hds : depsOf md o = ds)
    (h : ∀ (Q' : Exit → Act → World → Prop) (u : Nat → Prop) (X : Tmp → Value) (w : World), R u X w → ¬ u i → AllUp u ds → ∀ K : Act → World → Prop, Shut (∀ (X' : Tmp → Value) (w' : World), R (fun j => j = i ∨ u j) X' w' → K (puts a0 slots X') w') →
      Veil (Oper.wp P o (puts a0 slots X) w K Q'))
    (hs : AllInv P md ops Q slots R a0 is) : AllInv P md ops Q slots R a0 (i :: is) := fun j hj => by
  rcases List.mem_cons.1 hj with rfl | hj
  · intro u X w hR hu hd
    refine wpOp_step ho (fun K' hK => ?_)
    have hw : Region.wanted o (yielded ops (puts a0 slots X).tmps) = true := by unfold Region.wanted; rw [hg]
    rw [if_pos hw]
    refine (h Q u X w hR hu ?_ K' (fun X' w' hR' => hK _ w' ⟨X', rfl, hR'⟩)).out
    refine allUp_of fun d hd' => ?_
    rw [← hds] at hd'
    obtain ⟨e, he, rfl⟩ := List.mem_map.1 hd'
    obtain ⟨he, hb⟩ := List.mem_filter.1 he
    exact hd o ho e (by simpa using he) hb
  · exact hs j hj
/-- the region's law -/
theorem wp_region_inv {id : Nat} {a : Act} {w : World} (slots : List Tmp) (R : (Nat → Prop) → (Tmp → Value) → World → Prop) (hm : P.follows .mixedOrders = true) (hlow : lowB .any ops = true) (is : List Nat) (his : List.range ops.size = is)
    (h0 : R (fun _ => False) (fun t => a.tmps.getD t undef) w.drew)
    (hstep : AllInv P .any ops Q slots R a is)
    (hend : ∀ (u : Nat → Prop) (X : Tmp → Value) (w' : World), AllUp u is → R u X w' → Q .normal (puts a slots X) w') : (Code.region id ops true).wp P Q a w := by
  refine wp_region_any hm (wpAny_inv hlow (fun u a' w' => ∃ X, a' = puts a slots X ∧ R u X w') ?_ ?_ _ _ _ _ (by simp) (by simp) ?_)
  · rintro i u a' w' hi ⟨X, rfl, hR⟩ hu hd
    exact hstep i (by rw [← his]; exact List.mem_range.2 hi) u X w' hR hu hd
  · rintro u a' w' hall ⟨X, rfl, hR⟩
    refine hend u X w' (allUp_of fun d hd => hall d ?_) hR
    rw [← his] at hd
    exact List.mem_range.1 hd
  · refine ⟨_, (puts_same slots a).symm, ?_⟩
    have e : upOf (Array.replicate ops.size false) = fun _ => False := by
      funext j
      apply propext
      unfold upOf
      refine ⟨fun h => ?_, fun h => h.elim⟩
      by_cases hj : j < ops.size
      · simp [hj] at h
      · simp [hj] at h
    rw [e]
    exact h0
end
end Inv
end Go.Proofs.YtpigkppnelnhiaaGreat
