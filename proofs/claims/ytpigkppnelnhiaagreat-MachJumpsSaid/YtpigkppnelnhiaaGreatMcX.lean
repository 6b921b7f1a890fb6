/- Package jumps: Goals, and the library's search. -/
import Derived.Test.YtpigkppnelnhiaaGreatMcK
import Derived.Lib.SliceRun
namespace Go.Proofs.YtpigkppnelnhiaaGreat
open Go.ChangeShapes Go.WideShapes Go.ChangeAt Go.RowKit
open Cod Bits
set_option linter.unusedVariables false
set_option linter.unusedSimpArgs false
set_option maxRecDepth 100000
theorem nan_v (x : Int) (w : World) : Calls Tryz.prog 73 #[.int .i64 x] w fun e w' => e = .returned (.bool false) ∧ w = w' := by
  go_enter Tryz.func73, Tryz.ntmps73
  go_wp2
  go_ret
  exact ⟨rfl, rfl⟩
theorem less_v (x y : Int) (w : World) : Calls Tryz.prog 72 #[.int .i64 x, .int .i64 y] w fun e w' => e = .returned (.bool (decide (x < y))) ∧ w = w' := by
  cases t : decide (x < y)
  all_goals
    go_enter Tryz.func72, Tryz.ntmps72
    go_wp2_with (go_at_call 66; refine (nanI _ _).mono ?_; rintro e w' ⟨rfl, rfl⟩)
    go_ret
    exact ⟨by first | rfl | simp_all, rfl⟩
set_option maxHeartbeats 4000000 in
theorem bs_v (w : World) (A : Option Addr) (n c : Nat) (L : List Int) (t : Int) (hL : L.length = n) (hn : n ≤ 1073741824) (h : IntsAt w A L) :
    Calls Tryz.prog 49 #[.slice A n c, .int .i64 t] w fun e w' => ∃ p : Nat, p ≤ n ∧ e = .returned (.tuple #[.int .i64 p, .bool (decide (p < n) && (L[p]?.getD 0 == t))]) ∧ w = w' ∧
      ((∀ i j, i < j → j < n → L[i]?.getD 0 < L[j]?.getD 0) → (∀ q, q < p → L[q]?.getD 0 < t) ∧ (∀ q, p ≤ q → q < n → t ≤ L[q]?.getD 0)) := by
  have HA := Lib.hid h
  have HL := Lib.hid hL
  clear h hL
  go_enter Tryz.func49, Tryz.ntmps49
  go_wp2_with fail
  go_loopw [7, 8, 9] (fun i j _ wr => ∃ a b : Nat, a ≤ b ∧ b ≤ n ∧ i = .int .i64 a ∧ j = .int .i64 b ∧ wr = w ∧ Hid ((∀ i j, i < j → j < n → L[i]?.getD 0 < L[j]?.getD 0) → (∀ q, q < a → L[q]?.getD 0 < t) ∧ (∀ q, b ≤ q → q < n → t ≤ L[q]?.getD 0))) (fun i j _ _ => (intOf j - intOf i).toNat)
  case atStart => exact ⟨0, n, Nat.zero_le _, Nat.le_refl _, rfl, rfl, rfl, Lib.hid fun _ => ⟨fun q hq => by omega, fun q h1 h2 => by omega⟩⟩
  case round =>
    obtain ⟨a, b, hab, hbn, rfl, rfl, rfl, HR⟩ := hrel
    by_cases hlt : a < b
    · obtain ⟨bl, off, rfl, hbl, hc⟩ := HA.out (by have := HL.out; omega)
      obtain ⟨m, hm⟩ : ∃ m, m = (a + b) / 2 := ⟨_, rfl⟩
      have hm1 : a ≤ m := by omega
      have hm2 : m < b := by omega
      have hx := hc m (by have := HL.out; omega)
      obtain ⟨y, hy⟩ : ∃ y, L[m]?.getD 0 = y := ⟨_, rfl⟩
      rw [hy] at hx
      have HY := Lib.hid hy
      have HM := Lib.hid hm
      have hm3 : (m : Int) < n := by omega
      have hm0 : (0 : Int) ≤ m := by omega
      have hdv : ((a : Int) + b) / 2 = m := by omega
      clear hy hm hc
      go_wp2_with fail
      go_at_call 72
      refine (less_v y t _).mono ?_
      rintro e w' ⟨rfl, rfl⟩
      cases tl : decide (y < t)
      · have hyt : t ≤ y := by have := of_decide_eq_false tl; omega
        go_wp2_with fail
        go_roundw
        case rel => exact ⟨a, m, hm1, by omega, by first | rfl | trivial, by first | rfl | trivial, by first | rfl | trivial, Lib.hid fun hs => ⟨(HR.out hs).1, fun q h1 h2 => by
            rcases Nat.lt_or_ge m q with h3 | h3
            · have := hs m q h3 h2
              rw [HY.out] at this
              omega
            · obtain rfl : q = m := by omega
              rw [HY.out]; exact hyt⟩⟩
        case measure => simp [intOf]; omega
      · have hyt : y < t := of_decide_eq_true tl
        go_wp2_with fail
        go_roundw
        case rel => exact ⟨m + 1, b, by omega, hbn, by go_num, by first | rfl | trivial, by first | rfl | trivial, Lib.hid fun hs => ⟨fun q h1 => by
            rcases Nat.lt_or_ge q m with h3 | h3
            · have := hs q m h3 (by omega)
              rw [HY.out] at this
              omega
            · obtain rfl : q = m := by omega
              rw [HY.out]; exact hyt, (HR.out hs).2⟩⟩
        case measure => simp [intOf]; omega
    · obtain rfl : a = b := by omega
      by_cases han : a < n
      · obtain ⟨bl, off, rfl, hbl, hc⟩ := HA.out (by have := HL.out; omega)
        have hx := hc a (by have := HL.out; omega)
        obtain ⟨y, hy⟩ : ∃ y, L[a]?.getD 0 = y := ⟨_, rfl⟩
        rw [hy] at hx
        have HY := Lib.hid hy
        have ha3 : (a : Int) < n := by omega
        clear hy hc
        cases ty : (y == t)
        · go_wp2_with fail
          go_at_call 73
          refine (nan_v _ _).mono ?_
          rintro e w' ⟨rfl, rfl⟩
          go_wp2_with fail
          go_ret2
          exact ⟨a, by omega, by rw [HY.out, ty, Bool.and_false]; rfl, rfl, HR.out⟩
        · go_wp2_with fail
          go_ret2
          exact ⟨a, by omega, by rw [HY.out, ty, decide_eq_true han]; rfl, rfl, HR.out⟩
      · go_wp2_with fail
        go_ret2
        exact ⟨a, by omega, by rw [decide_eq_false han]; rfl, rfl, HR.out⟩
def distI (i : Ins) : Int := if i.op = 26 ∧ i.nar = true then i.imm else i.off
theorem distance_i (op : Int) (nar reg : Bool) (size dst src off imm : Int) (w : World) : Calls Tryz.prog 50 #[.agg #[.int .i64 op, .bool nar, .bool reg, .int .i64 size, .int .i64 dst, .int .i64 src, .int .i64 off, .int .i64 imm]] w fun e w' => e = .returned (.int .i64 (distI ⟨op, nar, reg, size, dst, src, off, imm⟩)) ∧ Below w.heap.size w w' := by
  have hB := box1 w (.cells #[.int .i64 op, .bool nar, .bool reg, .int .i64 size, .int .i64 dst, .int .i64 src, .int .i64 off, .int .i64 imm] 57)
  have HD := Lib.hid (show distI ⟨op, nar, reg, size, dst, src, off, imm⟩ = if op = 26 ∧ nar = true then imm else off from rfl)
  cases t : (op == 26)
  · have HE := Lib.hid (HD.out.trans (if_neg (fun h => ne_of_beq_false t h.1)))
    go_enter Tryz.func50, Tryz.ntmps50
    go_wp2_with fail
    go_ret
    exact ⟨by rw [HE.out]; rfl, hB⟩
  · cases nar
    · have HE := Lib.hid (HD.out.trans (if_neg (fun h => Bool.false_ne_true h.2)))
      go_enter Tryz.func50, Tryz.ntmps50
      go_wp2_with fail
      go_ret
      exact ⟨by rw [HE.out]; rfl, hB⟩
    · have HE := Lib.hid (HD.out.trans (if_pos ⟨eq_of_beq t, rfl⟩))
      go_enter Tryz.func50, Tryz.ntmps50
      go_wp2_with fail
      go_ret
      exact ⟨by rw [HE.out]; rfl, hB⟩
/-- where the instruction n leads to by a jump -/
def goalN (L : List Ins) (n : Nat) (i : Ins) : Int :=
  if (decide (26 ≤ i.op) && decide (i.op ≤ 37)) = true then (match (List.range L.length).find? (fun j => uAt L j == wrap64 (uAt L (n + 1) + distI i)) with | some j => (j : Int) | none => -1) else -1
def goalsL (L : List Ins) : List Int := (List.range L.length).map fun n => goalN L n (L[n]?.getD ⟨0, false, false, 0, 0, 0, 0, 0⟩)
theorem uAt_lt (L : List Ins) (i j : Nat) (h : i < j) (hj : j ≤ L.length) : uAt L i < uAt L j := by
  induction j with
  | zero => omega
  | succ j ih =>
    obtain ⟨x, hx⟩ : ∃ x, L[j]? = some x := ⟨L[j]'(by omega), List.getElem?_eq_getElem _⟩
    have e := uAt_succ L j x hx
    have h2 : (0 : Int) ≤ (if isLong x = true then 1 else 0) := by split <;> omega
    rcases Nat.lt_or_ge i j with h1 | h1
    · have := ih h1 (by omega)
      omega
    · obtain rfl : i = j := by omega
      omega
theorem unitsL_get (L : List Ins) (k : Nat) (h : k ≤ L.length) : (unitsL L)[k]?.getD 0 = uAt L k := by
  unfold unitsL
  simp [List.getElem?_map, List.getElem?_range (show k < L.length + 1 by omega)]
theorem goal_found {L : List Ins} {t : Int} {p : Nat} (hp : p ≤ L.length) (h1 : ∀ q, q < p → uAt L q < t) (h2 : ∀ q, p ≤ q → q < L.length → t ≤ uAt L q) :
    (match (List.range L.length).find? (fun j => uAt L j == t) with | some j => (j : Int) | none => -1) = if (decide (p < L.length) && (uAt L p == t)) = true then (p : Int) else -1 := by
  by_cases h : (decide (p < L.length) && (uAt L p == t)) = true
  · rw [if_pos h]
    simp only [Bool.and_eq_true, decide_eq_true_eq, beq_iff_eq] at h
    have : (List.range L.length).find? (fun j => uAt L j == t) = some p := by
      rw [List.find?_range_eq_some]
      refine ⟨by simpa using h.2, by simpa using h.1, fun j hj => ?_⟩
      have := h1 j hj
      simp
      omega
    rw [this]
  · rw [if_neg h]
    have : (List.range L.length).find? (fun j => uAt L j == t) = none := by
      rw [List.find?_eq_none]
      intro j hj
      rw [List.mem_range] at hj
      simp only [Bool.and_eq_true, decide_eq_true_eq, beq_iff_eq, not_and] at h
      simp only [beq_iff_eq]
      intro e
      rcases Nat.lt_or_ge j p with h3 | h3
      · have := h1 j h3; omega
      · have h4 := h2 p (Nat.le_refl _) (by omega)
        rcases Nat.lt_or_ge p j with h5 | h5
        · have := uAt_lt L p j h5 (by omega)
          omega
        · obtain rfl : j = p := by omega
          exact h hj e
    rw [this]
end Go.Proofs.YtpigkppnelnhiaaGreat
