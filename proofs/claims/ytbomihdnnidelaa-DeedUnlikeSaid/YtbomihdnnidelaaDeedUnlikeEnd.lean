/- DeedUnlike: for every input the law returns true, and each argument reads behind the call as it read before. No condition beside the row's own. Laid by wip/tools/mkdend.py. -/
import Derived.Test.YtbomihdnnidelaaEnd
import Derived.Test.YtbomihdnnidelaaDOpen2
import Derived.Test.YtbomihdnnidelaaDSh
import Derived.SizedLaws
namespace Go.Proofs.Ytbomihdnnidelaa
open Go.ChangeShapes Go.WideShapes Go.ChangeAt Go.RowKit
open Dee
set_option linter.unusedVariables false
set_option maxRecDepth 100000 in
theorem deedUnlike_lifted (os : Os) (started : os.Started) (H : Type) (enc : TypeId × Value → H) :
    ReturnsInHanded {} Try.checked os 9 .any (Rows.deedUnlikeSpec.pre6 enc Try.prog Try.f9 Rows.deedUnlikeRow.domain false) (Rows.deedUnlikeSpec.post enc Try.prog Try.f9 false true false false) := by
  refine returnsInHanded_of_change_sized (C := Try.checked) own started (by kernel_rfl) Try.func9
    (ChangeSpec.witness6 (enc := enc) (C := Try.checked) false ⟨#[], #[.agg #[.slice none 0 0, .slice none 0 0], .agg #[.slice none 0 0, .slice none 0 0]], []⟩ 8 (by kernel_rfl) (by kernel_rfl) (by kernel_rfl) (by kernel_rfl)) ?_
  intro W base args ds gs before hval0 hW hcnd hsz0 _
  have hsz : (DataW.weightsEach Try.prog (Try.f9.params.toList ++ Rows.deedUnlikeSpec.plain.varTypes Try.prog) (ds ++ gs)).all (· ≤ reachBytes) = true := hsz0
  clear hsz0
  have hval : ∀ (j : Nat) t v, Try.f9.params[j]? = some t → args[j]? = some v → Value.okWide Try.prog W .any base t v := hval0
  have hW' := hW
  obtain ⟨p, q, hAA, hV, rfl, hfz, hnd⟩ := hW
  have hA : DataW.TrodAll enc Try.prog W 0 (fun _ => true) true Try.f9.params.toList args.toList ds p := hAA
  rw [Try.params9] at hA hval hsz
  obtain ⟨v0, vs0, d0, ds0, p0, q0, hargs, rfl, rfl, h0, r0⟩ := trodAll_cons hA
  obtain ⟨v1, vs1, d1, ds1, p1, q1, rfl, rfl, rfl, h1, r1⟩ := trodAll_cons r0
  obtain ⟨rfl, rfl, rfl⟩ := trodAll_nil r1
  obtain rfl : args = #[v0, v1] := by cases args; simp_all
  obtain ⟨rfl, rfl⟩ := trodVars_none hV
  obtain ⟨vl0, vc0, e0, rfl, hD0, hl0, hc0⟩ := open_deed (hval 0 26 v0 rfl rfl) h0
  obtain ⟨vl1, vc1, e1, rfl, hD1, hl1, hc1⟩ := open_deed (hval 1 26 v1 rfl rfl) h1
  clear hAA
  refine (deedUnlike_any W vl0 vc0 e0 vl1 vc1 e1 hD0 hD1 hl0 hc0 hl1 hc1).mono fun e W' ⟨he, hb⟩ => ?_
  subst he
  exact ⟨_, rfl, law_post laidOut Try.underlying4 rfl rfl (by decide +kernel) hW' rfl hb⟩
theorem deedUnlike_over : Rows.deedUnlikeRow.holds Try.pinned (OpenSpec.ofChange Rows.deedUnlikeSpec) :=
  OpenClaim.holds_of_wide 9 Try.f9 rfl rfl rfl rfl rfl rfl rfl ⟨rfl, rfl, rfl, rfl, rfl⟩ rfl rfl rfl rfl rfl (by kernel_rfl) Try.func9 (by kernel_rfl)
    (of_decide_eq_true (by kernel_rfl)) (by unfold Func.isWrapper; first | (rw [if_pos (by decide +kernel)]; kernel_rfl) | (rw [if_neg (by decide +kernel)]; exact ⟨rfl, rfl⟩))
    (fun os started H enc _ => deedUnlike_lifted os started H enc)
theorem deedUnlike_proved : Rows.DeedUnlikeSaid := deedUnlike_over
#print axioms deedUnlike_proved
end Go.Proofs.Ytbomihdnnidelaa
