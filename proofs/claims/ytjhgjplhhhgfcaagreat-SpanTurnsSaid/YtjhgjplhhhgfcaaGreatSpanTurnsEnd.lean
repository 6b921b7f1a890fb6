/- SpanTurns: for every input the law returns true, and each argument reads behind the call as it read before. No condition beside the row's own. -/
import Derived.Test.YtjhgjplhhhgfcaaGreatEnd
import Derived.Test.YtjhgjplhhhgfcaaGreatSpanTurnsLaw
import Derived.Lib.SmallJoins
namespace Go.Proofs.YtjhgjplhhhgfcaaGreat
open Go.ChangeShapes Go.WideShapes Go.ChangeAt Go.RowKit
open Go.Joins
set_option linter.unusedVariables false
set_option maxRecDepth 100000 in
theorem spanTurns_lifted (os : Os) (started : os.Started) (H : Type) (enc : TypeId × Value → H) :
    ReturnsInHanded {} Tryz.checked os 4 .any (Rows.spanTurnsSpec.pre6 enc Tryz.prog Tryz.f4 Rows.spanTurnsRow.domain false) (Rows.spanTurnsSpec.post enc Tryz.prog Tryz.f4 false true false false) := by
  refine returnsInHanded_of_change (C := Tryz.checked) own started (by kernel_rfl) Tryz.func4
    (ChangeSpec.witness6 (enc := enc) (C := Tryz.checked) false ⟨#[], #[.int .i64 0, .bool false, .agg #[.int .i64 0, .int .i64 0, .bool false, .bool false]], []⟩ 8 (by kernel_rfl) (by kernel_rfl) (by kernel_rfl) (by kernel_rfl)) ?_
  intro W base args ds gs before hval0 hW hcnd _
  have hval : ∀ (j : Nat) t v, Tryz.f4.params[j]? = some t → args[j]? = some v → Value.okWide Tryz.prog W .any base t v := hval0
  have hW' := hW
  obtain ⟨p, q, hAA, hV, rfl, hfz, hnd⟩ := hW
  have hA : DataW.TrodAll enc Tryz.prog W 0 (fun _ => true) true Tryz.f4.params.toList args.toList ds p := hAA
  rw [Tryz.params4] at hA hval
  obtain ⟨v0, vs0, d0, ds0, p0, q0, hargs, rfl, rfl, h0, r0⟩ := trodAll_cons hA
  obtain ⟨v1, vs1, d1, ds1, p1, q1, rfl, rfl, rfl, h1, r1⟩ := trodAll_cons r0
  obtain ⟨v2, vs2, d2, ds2, p2, q2, rfl, rfl, rfl, h2, r2⟩ := trodAll_cons r1
  obtain ⟨rfl, rfl, rfl⟩ := trodAll_nil r2
  obtain rfl : args = #[v0, v1, v2] := by cases args; simp_all
  obtain ⟨rfl, rfl⟩ := trodVars_none hV
  obtain ⟨a0, rfl, rfl, rfl, w0⟩ := open_int Tryz.underlying3 (hval 0 3 v0 rfl rfl) h0
  obtain ⟨a1, rfl, rfl, rfl⟩ := open_bool Tryz.underlying4 (hval 1 4 v1 rfl rfl) h1
  obtain ⟨c20, c21, c22, c23, y0, y1, y2, y3, m2, rfl, rfl, rfl, hy0, hy1, hy2, hy3⟩ := open_agg4 Tryz.underlying23 (by kernel_rfl) (by kernel_rfl) (hval 2 23 v2 rfl rfl) h2
  obtain ⟨n20, e20, rfl, wS20⟩ := DataW.trod_int Tryz.underlying3 hy0
  obtain rfl : c20 = .int .i64 n20 := by simpa using e20
  obtain ⟨n21, e21, rfl, wS21⟩ := DataW.trod_int Tryz.underlying3 hy1
  obtain rfl : c21 = .int .i64 n21 := by simpa using e21
  obtain ⟨n22, e22, rfl⟩ := DataW.trod_bool Tryz.underlying4 hy2
  obtain rfl : c22 = .bool n22 := by simpa using e22
  obtain ⟨n23, e23, rfl⟩ := DataW.trod_bool Tryz.underlying4 hy3
  obtain rfl : c23 = .bool n23 := by simpa using e23
  clear hy0 hy1 hy2 hy3
  clear hAA
  refine (spanTurns_walk W a0 (bounds_i64 w0) a1 n20 n21 n22 n23).mono fun e W' ⟨he, hb⟩ => ?_
  subst he
  exact ⟨_, rfl, law_post laidOut Tryz.underlying4 rfl rfl (by decide +kernel) hW' rfl hb⟩
theorem spanTurns_over : Rows.spanTurnsRow.holds Tryz.pinned (OpenSpec.ofChange Rows.spanTurnsSpec) :=
  OpenClaim.holds_of_wide 4 Tryz.f4 rfl rfl rfl rfl rfl rfl rfl ⟨rfl, rfl, rfl, rfl, rfl⟩ rfl rfl rfl rfl rfl (by kernel_rfl) Tryz.func4 (by kernel_rfl)
    (of_decide_eq_true (by kernel_rfl)) (by unfold Func.isWrapper; first | (rw [if_pos (by decide +kernel)]; kernel_rfl) | (rw [if_neg (by decide +kernel)]; exact ⟨rfl, rfl⟩))
    (fun os started H enc _ => spanTurns_lifted os started H enc)
theorem spanTurns_proved : Rows.SpanTurnsSaid := spanTurns_over
#print axioms spanTurns_proved
end Go.Proofs.YtjhgjplhhhgfcaaGreat
