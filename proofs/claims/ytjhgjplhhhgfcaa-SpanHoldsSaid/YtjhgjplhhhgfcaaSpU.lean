/- The law's sound and inside; a number brought into a span is one of it. -/
import Derived.Test.YtjhgjplhhhgfcaaSpT
namespace Go.Proofs.Ytjhgjplhhhgfcaa
open Go.ChangeShapes Go.WideShapes Go.ChangeAt Go.RowKit
open Spn
namespace Spc
set_option linter.unusedVariables false
set_option maxRecDepth 100000
theorem sound_any (lo hi : Int) (nl nh : Bool) (w : World) : Calls Try.prog 27 #[.agg #[.int .i64 lo, .int .i64 hi, .bool nl, .bool nh]] w (RetB w (soundB ⟨lo, hi, nl, nh⟩)) := by
  have HB := Lib.hid (below_box' w (.cells #[.int .i64 lo, .int .i64 hi, .bool nl, .bool nh] 23))
  have HS := Lib.hid (fun w => refSound_any lo hi nl nh w)
  generalize soundB ⟨lo, hi, nl, nh⟩ = B at *
  go_enter Try.func27, Try.ntmps27
  go_wp2_with fail
  refine (HS.out _).mono ?_
  rintro e w1 ⟨rfl, hB⟩
  go_wp2_with fail
  go_ret
  exact ⟨rfl, nx HB.out hB⟩
def lowC (nl : Bool) (lo v : Int) : Int := if nl = false ∧ v < lo then lo else v
def highC (nh : Bool) (hi v : Int) : Int := if nh = false ∧ hi < v then hi else v
/-- a number brought into a span -/
def insX (s : Sp) (v : Int) : Int := if soundB s then highC s.nh s.hi (lowC s.nl s.lo v) else v
theorem ins_has (s : Sp) (v : Int) (hv : I64 v) : (rd s).has (insX s v) := by
  unfold insX
  cases hs : soundB s
  · rw [rd_no s hs, if_neg Bool.false_ne_true]; exact ⟨hv.1, hv.2⟩
  · rw [rd_of s hs, if_pos rfl]
    unfold soundB at hs
    simp only [Bool.and_eq_true, decide_eq_true_eq] at hs
    obtain ⟨⟨h1, h2⟩, h3⟩ := hs
    unfold ends0 at *
    unfold endB at h1 h2
    obtain ⟨v1, v2⟩ := hv
    unfold lowC highC
    cases hn : s.nl <;> cases hm : s.nh <;> simp only [hn, hm, if_true, Bool.false_eq_true, if_false, Bool.and_eq_true, decide_eq_true_eq, true_and, false_and, Bool.true_eq_false] at *
    all_goals
      try unfold MX at *
      unfold LEAST TOP at *
      constructor
    all_goals
      dsimp only
      repeat' split
    all_goals omega
theorem ins_I64 (s : Sp) (v : Int) (hv : I64 v) : I64 (insX s v) := has64 (rd_ok s) (ins_has s v hv)
theorem lowC_f (lo v : Int) : lowC false lo v = if v < lo then lo else v := by unfold lowC; simp
theorem lowC_t (lo v : Int) : lowC true lo v = v := by unfold lowC; simp
theorem highC_f (hi v : Int) : highC false hi v = if hi < v then hi else v := by unfold highC; simp
theorem highC_t (hi v : Int) : highC true hi v = v := by unfold highC; simp
theorem ret_i {a b : Int} (h : a = b) : Ending.returned (.int .i64 a) = .returned (.int .i64 b) := by rw [h]
set_option maxHeartbeats 4000000 in
theorem inside_any (lo hi : Int) (nl nh : Bool) (v : Int) (w : World) : Calls Try.prog 26 #[.agg #[.int .i64 lo, .int .i64 hi, .bool nl, .bool nh], .int .i64 v] w fun e w' => e = .returned (.int .i64 (insX ⟨lo, hi, nl, nh⟩ v)) ∧ Below w.heap.size w w' := by
  have HB := Lib.hid (below_box' w (.cells #[.int .i64 lo, .int .i64 hi, .bool nl, .bool nh] 23))
  have b1 := Lib.hid (Blk.new w 23 #[.int .i64 lo, .int .i64 hi, .bool nl, .bool nh])
  have HS := Lib.hid (fun w => sound_any lo hi nl nh w)
  unfold insX
  dsimp only
  cases hs : soundB ⟨lo, hi, nl, nh⟩
  · rw [hs] at HS
    rw [if_neg Bool.false_ne_true]
    clear hs
    go_enter Try.func26, Try.ntmps26
    go_wp2_with fail
    refine (HS.out _).mono ?_
    rintro e w1 ⟨rfl, hB⟩
    go_wp2_with fail
    go_ret
    exact ⟨rfl, nx HB.out hB⟩
  · rw [hs] at HS
    rw [if_pos rfl]
    clear hs
    obtain ⟨V, hV⟩ : ∃ V, V = highC nh hi (lowC nl lo v) := ⟨_, rfl⟩
    rw [← hV]
    have HV := Lib.hid hV
    clear hV
    by_cases h1 : v < lo <;> by_cases h2 : hi < lo <;> by_cases h3 : hi < v
    all_goals try (exfalso; omega)
    all_goals
      cases nl <;> cases nh
    all_goals
      go_enter Try.func26, Try.ntmps26
      go_wp2_with fail
      refine (HS.out _).mono ?_
      rintro e w1 ⟨rfl, hB⟩
      obtain ⟨⟨c0, c1, c2, c3⟩, ⟨c4, c5, c6, c7⟩, c8⟩ := cells4 (b1.out.up hB)
      have HB2 := Lib.hid (nx HB.out hB)
      clear hB
      go_wp2_with fail
      go_ret
      refine ⟨ret_i ?_, HB2.out⟩
      rw [HV.out]
      first | rw [lowC_f] | rw [lowC_t]
      first | rw [highC_f] | rw [highC_t]
      repeat' split
      all_goals omega
theorem nz_ok (n : Bool) (r : E) (h : r.lo ≤ r.hi) (hz : nzX n r = true) {v : Int} (hv : r.has v) : (if n then v % 4294967296 else v) ≠ 0 := by
  unfold nzX at hz
  cases n
  · simp only [Bool.false_eq_true, if_false] at hz ⊢
    rw [tells_4] at hz
    have := of_decide_eq_true hz
    obtain ⟨v1, v2⟩ := hv
    omega
  · simp only [if_true] at hz ⊢
    rw [tells_4] at hz
    have h1 := of_decide_eq_true hz
    have h2 := lowE_ok r h
    have h3 := lowE_has r hv
    obtain ⟨v1, v2⟩ := h3
    omega
theorem nz_one (n : Bool) (x : Int) : nzX n ⟨x, x⟩ = ((if n then x % 4294967296 else x) != 0) := by
  unfold nzX
  cases n
  · simp only [Bool.false_eq_true, if_false]
    rw [tells_4, Bool.eq_iff_iff, decide_eq_true_eq, bne_iff_ne]
    dsimp only; omega
  · simp only [if_true]
    have e : lowE ⟨x, x⟩ = ⟨x % 4294967296, x % 4294967296⟩ := by unfold lowE; rw [if_pos rfl]
    rw [e, tells_4, Bool.eq_iff_iff, decide_eq_true_eq, bne_iff_ne]
    dsimp only; omega
end Spc
end Go.Proofs.Ytjhgjplhhhgfcaa
