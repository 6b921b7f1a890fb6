/- Contracts of package zone: variable, inRange, renewable, wrong, with. -/
import Derived.Test.YtejcijbohnlbgaaZD
namespace Go.Proofs.Ytejcijbohnlbgaa
open Go.ChangeShapes Go.WideShapes Go.ChangeAt Go.RowKit
open Zon
set_option linter.unusedVariables false
set_option maxRecDepth 100000
theorem ret_bool {a b : Bool} (h : a = b) : Ending.returned (.bool a) = .returned (.bool b) := by rw [h]
theorem variable_any (v : Int) (w : World) : Calls Try.prog 51 #[.int .i64 v] w fun e w' => e = .returned (.bool (varB v)) ∧ w = w' := by
  have HV := Lib.hid (show varB v = (decide (0 ≤ v) && decide (v < 60)) from rfl)
  cases h1 : decide (0 ≤ v) <;> cases h2 : decide (v < 60)
  all_goals
    have HW := Lib.hid (HV.out.trans (by rw [h1, h2]))
    go_enter Try.func51, Try.ntmps51
    go_wp2_with fail
    go_ret
    exact ⟨ret_bool (by rw [HW.out]; rfl), rfl⟩
theorem inRange_any (v : Int) (w : World) : Calls Try.prog 52 #[.int .i64 v] w fun e w' => e = .returned (.bool (rngB v)) ∧ w = w' := by
  have HV := Lib.hid (show rngB v = (decide (-1152921504606846976 ≤ v) && decide (v ≤ 1152921504606846976)) from rfl)
  cases h1 : decide (-1152921504606846976 ≤ v) <;> cases h2 : decide (v ≤ 1152921504606846976)
  all_goals
    have HW := Lib.hid (HV.out.trans (by rw [h1, h2]))
    go_enter Try.func52, Try.ntmps52
    go_wp2_with fail
    go_ret
    exact ⟨ret_bool (by rw [HW.out]; rfl), rfl⟩
/-- the cells of a list of bounds -/
def ConIs (w : World) (b o : Nat) (x : Con) : Prop := w.cell? ⟨b, o, none⟩ = some (.int .i64 x.i) ∧ w.cell? ⟨b, o + 1, none⟩ = some (.int .i64 x.j) ∧ w.cell? ⟨b, o + 2, none⟩ = some (.int .i64 x.c)
def ConsAt (w : World) (A : Option Addr) (L : List Con) : Prop := 0 < L.length → ∃ b off, A = some ⟨b, off, none⟩ ∧ b < w.heap.size ∧ ∀ k x, L[k]? = some x → ConIs w b (off + k * 3) x
theorem ConIs.same {w w' : World} {b o : Nat} {x : Con} (h : ConIs w b o x) (hb : w'.heap[b]? = w.heap[b]?) : ConIs w' b o x := by
  obtain ⟨h1, h2, h3⟩ := h
  exact ⟨(World.cell?_of_block hb).trans h1, (World.cell?_of_block hb).trans h2, (World.cell?_of_block hb).trans h3⟩
theorem ConsAt.below {w w' : World} {A : Option Addr} {L : List Con} (h : ConsAt w A L) (hb : Below w.heap.size w w') : ConsAt w' A L := fun hp => by
  obtain ⟨b, off, e, hl, hc⟩ := h hp
  exact ⟨b, off, e, Nat.lt_of_lt_of_le hl hb.size, fun k x hx => (hc k x hx).same (hb.block b hl)⟩
def Far (A : Option Addr) (g : Nat) : Prop := ∀ b off, A = some ⟨b, off, none⟩ → b ≠ g
theorem ConsAt.touch {w w' : World} {A : Option Addr} {L : List Con} {g : Nat} (h : ConsAt w A L) (hf : Far A g) (hb : Touch g w w') : ConsAt w' A L := fun hp => by
  obtain ⟨b, off, e, hl, hc⟩ := h hp
  exact ⟨b, off, e, Nat.lt_of_lt_of_le hl hb.size, fun k x hx => (hc k x hx).same (hb.block b hl (hf b off e))⟩
theorem ConsAt.get {w : World} {b off : Nat} {L : List Con} (h : ConsAt w (some ⟨b, off, none⟩) L) {k : Nat} (hk : k < L.length) : ∃ x, L[k]? = some x ∧ b < w.heap.size ∧ ConIs w b (off + k * 3) x := by
  obtain ⟨b', off', e, hl, hc⟩ := h (by omega)
  injection e with e
  injection e with e1 e2
  subst e1; subst e2
  exact ⟨L[k], List.getElem?_eq_getElem hk, hl, hc k _ (List.getElem?_eq_getElem hk)⟩
theorem take_next {α : Type} (L : List α) (j : Nat) (x : α) (h : L[j]? = some x) : L.take (j + 1) = L.take j ++ [x] := by
  obtain ⟨hj, rfl⟩ := List.getElem?_eq_some_iff.mp h
  rw [List.take_succ_eq_append_getElem hj]
theorem wrongL_drop {L : List Con} {k : Nat} {x : Con} (h : L[k]? = some x) (hz : wrongL L = wrongL (L.drop k)) : (wrong1 x = 0 → wrongL L = wrongL (L.drop (k + 1))) ∧ (wrong1 x ≠ 0 → wrongL L = wrong1 x) := by
  obtain ⟨hj, rfl⟩ := List.getElem?_eq_some_iff.mp h
  have e : L.drop k = L[k] :: L.drop (k + 1) := List.drop_eq_getElem_cons hj
  rw [e] at hz
  refine ⟨fun h0 => ?_, fun h0 => ?_⟩
  · rw [hz]; show (if _ then _ else _) = _; rw [if_pos h0]
  · rw [hz]; show (if _ then _ else _) = _; rw [if_neg h0]
def WrongPost (w : World) (E : Int) (e : Ending) (w' : World) : Prop := e = .returned (.int .i64 E) ∧ Below w.heap.size w w'
set_option maxHeartbeats 1000000 in
theorem wrong_any (w : World) (A : Option Addr) (n c : Nat) (L : List Con) (hL : L.length = n) (hn : n ≤ 4000000000000000000) (h : ConsAt w A L) :
    Calls Try.prog 41 #[.slice A n c] w (WrongPost w (wrongL L)) := by
  have HA := Lib.hid h
  have HL := Lib.hid hL
  clear h hL
  go_enter Try.func41, Try.ntmps41
  go_wp2_with fail
  go_loopw [7] (fun i wr => ∃ k : Nat, k ≤ n ∧ i = .int .i64 k ∧ wrongL L = wrongL (L.drop k) ∧ Below w.heap.size w wr) (fun i _ => (n - intOf i).toNat)
  case atStart => exact ⟨0, Nat.zero_le _, rfl, rfl, Below.refl _ _⟩
  case round =>
    obtain ⟨k, hk, rfl, hw, hB⟩ := hrel
    by_cases hlt : k < n
    · have hlt' : (k : Int) < n := by omega
      obtain ⟨b, off, rfl, hbl, -⟩ := HA.out (by have := HL.out; omega)
      obtain ⟨x, hx, -, x0, x1, x2⟩ := (HA.out.below hB).get (k := k) (by have := HL.out; omega)
      obtain ⟨hw1, hw2⟩ := wrongL_drop hx hw
      have HW1 := Lib.hid hw1
      have HW2 := Lib.hid hw2
      have HE := Lib.hid (show wrong1 x = if !(varB x.i && varB x.j) then 50 else if !rngB x.c then 51 else 0 from rfl)
      have HB := Lib.hid hB
      clear hx hw hw1 hw2 hB
      obtain ⟨xi, xj, xc⟩ := x
      simp only at x0 x1 x2 HE
      cases h1 : varB xi <;> cases h2 : varB xj <;> cases h3 : rngB xc
      all_goals
        have HE2 := Lib.hid (HE.out.trans (by rw [h1, h2, h3]))
        clear HE
        go_wp2_with (first
          | (go_at_call 51; refine (variable_any _ _).mono ?_; rintro e w' ⟨rfl, rfl⟩)
          | (go_at_call 52; refine (inRange_any _ _).mono ?_; rintro e w' ⟨rfl, rfl⟩))
        first
          | (go_ret
             refine ⟨ret_i64 ?_, HB.out.trans (((Below.refl _ _).alloc (Nat.le_refl _) _).mono HB.out.size)⟩
             rw [HW2.out (by rw [HE2.out]; decide), HE2.out]
             rfl)
          | (go_roundw
             case rel => exact ⟨k + 1, by omega, by go_num, HW1.out HE2.out, HB.out.trans (((Below.refl _ _).alloc (Nat.le_refl _) _).mono HB.out.size)⟩
             case measure => simp [intOf]; omega)
    · obtain rfl : k = n := by omega
      have hjn : decide ((k : Int) < k) = false := decide_eq_false (by omega)
      have HE := Lib.hid (show wrongL L = 0 by rw [hw, List.drop_eq_nil_of_le (by rw [HL.out]; omega)]; rfl)
      clear hw
      go_wp2_with fail
      go_ret
      exact ⟨ret_i64 HE.out.symm, hB⟩
end Go.Proofs.Ytejcijbohnlbgaa
