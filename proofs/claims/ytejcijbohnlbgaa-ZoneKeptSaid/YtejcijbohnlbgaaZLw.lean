/- What the walks of ZoneLoses, ZonePuts, ZoneRenews ask first. -/
import Derived.Test.YtejcijbohnlbgaaZExt
import Derived.Test.YtejcijbohnlbgaaZCo
namespace Go.Proofs.Ytejcijbohnlbgaa
open Go.ChangeShapes Go.WideShapes Go.ChangeAt Go.RowKit
open Zon
set_option linter.unusedVariables false
set_option maxRecDepth 100000
theorem lw_con {w W : World} {A0 As : Option Addr} {n0 c0 ns cs : Nat} {L0 : List Con} (i : ConIn w A0 n0 c0 L0) (hL : (smallL L0).length = ns) (hc : ns ≤ cs) (hA : ConsAt W As (smallL L0)) : ConIn W As ns cs (smallL L0) :=
  ⟨hL, by have : (smallL L0).length ≤ L0.length := List.length_filter_le _ _; have := i.len; have := i.reach; omega, fun x hx => i.rng x (List.mem_filter.mp hx).1, hA, hc⟩
theorem lw_mod (x : Int) : ∃ p : Nat, x % 60 = p ∧ p < 60 := ⟨(x % 60).toNat, by omega, by omega⟩
theorem lw_conb {w W : World} {A : Option Addr} {n c : Nat} {L : List Con} (i : ConIn w A n c L) (h : Below w.heap.size w W) : ConIn W A n c L := ⟨i.len, i.reach, i.rng, i.at_.below h, i.cap⟩
theorem lw_numb {w W : World} {A : Option Addr} {n c : Nat} {L : List Int} (i : NumIn w A n c L) (h : Below w.heap.size w W) : NumIn W A n c L := ⟨i.len, i.reach, i.rng, i.at_.below h, i.cap⟩
theorem lw_upd {a : Nat → Int} {x : Nat} {v : Int} (ha : ∀ q, q < 60 → I64 (a q)) (hv : I64 v) : ∀ q, q < 60 → I64 (updI a x v q) := fun q hq => by
  unfold updI; split
  · exact hv
  · exact ha q hq
theorem Cl.tight' {L : List Con} {M : Tab} (h : Cl (· ∈ smallL L) M) : Tight' M := ⟨Cl.tight h, fun p q hp hq hne => by have := cl_bound40 h hp hq hne; omega⟩
theorem withZ_append (z : Zn) (l m : List Con) : withZ z (l ++ m) = withZ (withZ z l) m := by unfold withZ; rw [List.foldl_append]
theorem smallL_append (l m : List Con) : smallL (l ++ m) = smallL l ++ smallL m := List.filter_append ..
theorem second_cl {L0 L1 : List Con} {M N : Tab} (h0 : withZ (some topT) (smallL L0) = some M) (h1 : withZ (some M) (smallL L1) = some N) : Cl (· ∈ smallL (L0 ++ L1)) N := small_cl (by rw [smallL_append, withZ_append, h0, h1])
theorem second_in {M N : Tab} {L : List Con} (h1 : withZ (some M) L = some N) : inT N M := by have := withZ_in (some M) L; rw [h1] at this; exact this
theorem meets_in {M N : Tab} {a : Nat → Int} (h : inT N M) (hM : OkT M) (ha : Meets N a) : Meets M a := fun p q hp hq hne => by
  have := h p q hp hq
  have hm := hM p q hp hq
  unfold Ok at hm
  have := ha p q hp hq (by omega)
  omega
theorem second_met {L0 L1 : List Con} {N : Tab} (h : Cl (· ∈ smallL (L0 ++ L1)) N) {a : Nat → Int} (ha : Meets N a) : metL (smallL L1) a = smallL L1 := met_all fun x hx => by
  have := Cl.met h ha
  rw [smallL_append] at this
  exact List.filter_eq_self.mp this x (List.mem_append_right _ hx)
theorem Tight.i64r {M : Tab} (h : Tight M) (j : Nat) : ∀ q, q < 60 → I64 (reachV M j q) := fun q hq => h.i64 q hq
theorem nums_new (w : World) (x : Int) (t : TypeId) : NumsAt (w.alloc (.cells #[.int .i64 x] t)) (some ⟨w.heap.size, 0, none⟩) [x] := fun _ =>
  ⟨w.heap.size, 0, rfl, by simp, fun i y hy => by
    cases i with
    | zero => simp at hy; subst hy; simp [go_sem]
    | succ i => simp at hy⟩
theorem seven_ways (X Y C : Int) : decide (X < 1) = true ∨ (decide (X < 1) = false ∧ decide (59 < X) = true) ∨ (decide (X < 1) = false ∧ decide (59 < X) = false ∧ decide (Y < 0) = true) ∨ (decide (X < 1) = false ∧ decide (59 < X) = false ∧ decide (Y < 0) = false ∧ decide (59 < Y) = true) ∨
    (decide (X < 1) = false ∧ decide (59 < X) = false ∧ decide (Y < 0) = false ∧ decide (59 < Y) = false ∧ decide (C < -1099511627776) = true) ∨ (decide (X < 1) = false ∧ decide (59 < X) = false ∧ decide (Y < 0) = false ∧ decide (59 < Y) = false ∧ decide (C < -1099511627776) = false ∧ decide (1099511627776 < C) = true) ∨
    (decide (X < 1) = false ∧ decide (59 < X) = false ∧ decide (Y < 0) = false ∧ decide (59 < Y) = false ∧ decide (C < -1099511627776) = false ∧ decide (1099511627776 < C) = false) := by
  cases decide (X < 1) <;> cases decide (59 < X) <;> cases decide (Y < 0) <;> cases decide (59 < Y) <;> cases decide (C < -1099511627776) <;> cases decide (1099511627776 < C) <;> simp
end Go.Proofs.Ytejcijbohnlbgaa
