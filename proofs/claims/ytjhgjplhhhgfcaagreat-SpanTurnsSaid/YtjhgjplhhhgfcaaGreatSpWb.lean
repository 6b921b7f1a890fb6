/- The document's wide numbers, as far as they are numbers of 64 bits: cmp, least, most, number. -/
import Derived.Test.YtjhgjplhhhgfcaaGreatSpWa
namespace Go.Proofs.YtjhgjplhhhgfcaaGreat
open Go.ChangeShapes Go.WideShapes Go.ChangeAt Go.RowKit
open Spn
namespace Spc
set_option linter.unusedVariables false
set_option maxRecDepth 100000
theorem sz_mem (a0 a1 b0 b1 : Int) : szX a0 a1 b0 b1 = -1 ∨ szX a0 a1 b0 b1 = 0 ∨ szX a0 a1 b0 b1 = 1 := by
  unfold szX
  split
  · exact .inl rfl
  · split
    · exact .inr (.inr rfl)
    · split
      · exact .inl rfl
      · split
        · exact .inr (.inr rfl)
        · exact .inr (.inl rfl)
def cmpX (ba bb : Bool) (a0 a1 b0 b1 : Int) : Int := if ba = bb then (if ba then -szX a0 a1 b0 b1 else szX a0 a1 b0 b1) else (if ba then -1 else 1)
set_option maxHeartbeats 2000000 in
theorem cmp_any (ba bb : Bool) (a0 a1 b0 b1 : Int) (w : World) : Calls Tryz.prog 73 #[.agg (cW ba a0 a1), .agg (cW bb b0 b1)] w (RetI w (cmpX ba bb a0 a1 b0 b1)) := by
  have W0 := Lib.hid (SzW.start w ba bb a0 a1 b0 b1)
  have HS := Lib.hid (fun w => size_any ba bb a0 a1 b0 b1 w)
  have hm := sz_mem a0 a1 b0 b1
  unfold cmpX
  generalize szX a0 a1 b0 b1 = c at *
  have hc : wrap64 (-c) = -c := IntWalk.wrap64_in _ (by omega)
  have HC := Lib.hid hc
  clear hm hc
  cases ba <;> cases bb
  · go_enter Tryz.func73, Tryz.ntmps73
    go_wp2_with fail
    refine (HS.out _).mono ?_
    rintro e w1 ⟨rfl, hB⟩
    have W1 := Lib.hid (W0.out.up hB)
    clear hB
    obtain ⟨x0, x1, x2, x3, x4, -⟩ := szS W1.out
    go_wp2_with fail
    go_ret
    exact ⟨rfl, W1.out.2.2⟩
  · go_enter Tryz.func73, Tryz.ntmps73
    go_wp2_with fail
    go_ret
    exact ⟨rfl, W0.out.2.2⟩
  · go_enter Tryz.func73, Tryz.ntmps73
    go_wp2_with fail
    go_ret
    exact ⟨rfl, W0.out.2.2⟩
  · go_enter Tryz.func73, Tryz.ntmps73
    go_wp2_with fail
    refine (HS.out _).mono ?_
    rintro e w1 ⟨rfl, hB⟩
    have W1 := Lib.hid (W0.out.up hB)
    clear hB
    obtain ⟨x0, x1, x2, x3, x4, -⟩ := szS W1.out
    go_wp2_with fail
    go_ret
    exact ⟨by show Ending.returned (.int .i64 (wrap64 (-c))) = .returned (.int .i64 (-c)); rw [HC.out], W1.out.2.2⟩
/-- how two numbers stand -/
def sgC (u v : Int) : Int := if u < v then -1 else if v < u then 1 else 0
theorem abs_d {u : Int} : absI u = d1 u * 4294967296 + d0 u ∧ 0 ≤ d0 u ∧ d0 u < 4294967296 := by unfold d1 d0; omega
theorem sz_abs (u v : Int) : szX (d0 u) (d1 u) (d0 v) (d1 v) = sgC (absI u) (absI v) := by
  obtain ⟨a1, a2, a3⟩ := abs_d (u := u)
  obtain ⟨b1, b2, b3⟩ := abs_d (u := v)
  unfold szX sgC
  generalize d0 u = p at *
  generalize d1 u = q at *
  generalize d0 v = r at *
  generalize d1 v = s at *
  rw [a1, b1]
  by_cases h1 : q < s
  · rw [if_pos h1, if_pos (by omega)]
  · rw [if_neg h1]
    by_cases h2 : s < q
    · rw [if_pos h2, if_neg (by omega), if_pos (by omega)]
    · rw [if_neg h2]
      obtain rfl : q = s := by omega
      by_cases h3 : p < r
      · rw [if_pos h3, if_pos (by omega)]
      · rw [if_neg h3]
        by_cases h4 : r < p
        · rw [if_pos h4, if_neg (by omega), if_pos (by omega)]
        · rw [if_neg h4, if_neg (by omega), if_neg (by omega)]
theorem cmp_sg (u v : Int) : cmpX (decide (u < 0)) (decide (v < 0)) (d0 u) (d1 u) (d0 v) (d1 v) = sgC u v := by
  unfold cmpX
  rw [sz_abs]
  unfold sgC absI
  by_cases h1 : u < 0 <;> by_cases h2 : v < 0
  · rw [decide_eq_true h1, decide_eq_true h2, if_pos rfl, if_pos rfl, if_pos h1, if_pos h2]
    by_cases h3 : u < v
    · rw [if_neg (by omega), if_pos (by omega), if_pos h3]
    · rw [if_neg h3]
      by_cases h4 : v < u
      · rw [if_pos (by omega), if_pos h4]; rfl
      · rw [if_neg (by omega), if_neg (by omega), if_neg h4]; rfl
  · rw [decide_eq_true h1, decide_eq_false h2, if_neg (by decide), if_pos rfl, if_pos (by omega)]
  · rw [decide_eq_false h1, decide_eq_true h2, if_neg (by decide), if_neg (by decide), if_neg (by omega), if_pos (by omega)]
  · rw [decide_eq_false h1, decide_eq_false h2, if_pos rfl, if_neg (by decide), if_neg h1, if_neg h2]
/-- a wide number -/
abbrev vW (v : Int) : Value := .agg (cW (decide (v < 0)) (d0 v) (d1 v))
theorem cmp_W (u v : Int) (w : World) : Calls Tryz.prog 73 #[vW u, vW v] w (RetI w (sgC u v)) := by
  have h := cmp_any (decide (u < 0)) (decide (v < 0)) (d0 u) (d1 u) (d0 v) (d1 v) w
  rwa [cmp_sg] at h
theorem wide_W (v : Int) (h : I64 v) (w : World) : Calls Tryz.prog 46 #[.int .i64 v] w fun e w' => e = .returned (vW v) ∧ Below w.heap.size w w' := wide_any' v h w
theorem sg_lt {u v : Int} (h : u < v) : sgC u v = -1 := by unfold sgC; rw [if_pos h]
theorem sg_gt {u v : Int} (h : v < u) : sgC u v = 1 := by unfold sgC; rw [if_neg (by omega), if_pos h]
theorem sg_eq0 {u v : Int} (h : u = v) : sgC u v = 0 := by unfold sgC; rw [if_neg (by omega), if_neg (by omega)]
end Spc
end Go.Proofs.YtjhgjplhhhgfcaaGreat
