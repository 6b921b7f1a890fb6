/- PackParts: for every input the law returns true, and each argument reads behind the call as it read before. No condition beside the row's own. Laid by wip/tools/mkpend.py. -/
import Derived.Test.YtmihdhceicmnlaaEnd
import Derived.Test.YtmihdhceicmnlaaPkOp
import Derived.Test.YtmihdhceicmnlaaPkZ
import Derived.SizedLaws
namespace Go.Proofs.Ytmihdhceicmnlaa
open Go.ChangeShapes Go.WideShapes Go.ChangeAt Go.RowKit
open Pak
set_option linter.unusedVariables false
set_option maxRecDepth 100000 in
theorem packParts_lifted (os : Os) (started : os.Started) (H : Type) (enc : TypeId × Value → H) :
    ReturnsInHanded {} Try.checked os 7 .any (Rows.packPartsSpec.pre6 enc Try.prog Try.f7 Rows.packPartsRow.domain false) (Rows.packPartsSpec.post enc Try.prog Try.f7 false true false false) := by
  refine returnsInHanded_of_change_sized (C := Try.checked) own started (by kernel_rfl) Try.func7
    (ChangeSpec.witness6 (enc := enc) (C := Try.checked) false ⟨#[], #[.agg #[.int .i64 0, .int .i64 0, .slice none 0 0, .slice none 0 0, .slice none 0 0]], []⟩ 8 (by kernel_rfl) (by kernel_rfl) (by kernel_rfl) (by kernel_rfl)) ?_
  intro W base args ds gs before hval0 hW hcnd hsz0 _
  have hsz : (DataW.weightsEach Try.prog (Try.f7.params.toList ++ Rows.packPartsSpec.plain.varTypes Try.prog) (ds ++ gs)).all (· ≤ reachBytes) = true := hsz0
  clear hsz0
  have hval : ∀ (j : Nat) t v, Try.f7.params[j]? = some t → args[j]? = some v → Value.okWide Try.prog W .any base t v := hval0
  have hW' := hW
  obtain ⟨p, q, hAA, hV, rfl, hfz, hnd⟩ := hW
  have hA : DataW.TrodAll enc Try.prog W 0 (fun _ => true) true Try.f7.params.toList args.toList ds p := hAA
  rw [Try.params7] at hA hval hsz
  obtain ⟨v0, vs0, d0, ds0, p0, q0, hargs, rfl, rfl, h0, r0⟩ := trodAll_cons hA
  obtain ⟨rfl, rfl, rfl⟩ := trodAll_nil r0
  obtain rfl : args = #[v0] := by cases args; simp_all
  obtain ⟨rfl, rfl⟩ := trodVars_none hV
  obtain ⟨vd0, vt0, vc0, k0, rfl, hk0, hw0⟩ := open_pack (hval 0 25 v0 rfl rfl) h0
  have hs0 : Small k0 := hw0 fun m hm => by
    have := List.all_eq_true.1 hsz _ (DataW.weights_mem_each (j := 0) (t := 25) rfl rfl m hm)
    simpa using this
  clear hAA
  refine (packParts_any W k0 vd0 vt0 vc0 hk0 hs0).mono fun e W' ⟨he, hb⟩ => ?_
  subst he
  exact ⟨_, rfl, law_post laidOut Try.underlying4 rfl rfl (by decide +kernel) hW' rfl hb⟩
theorem packParts_over : Rows.packPartsRow.holds Try.pinned (OpenSpec.ofChange Rows.packPartsSpec) :=
  OpenClaim.holds_of_wide 7 Try.f7 rfl rfl rfl rfl rfl rfl rfl ⟨rfl, rfl, rfl, rfl, rfl⟩ rfl rfl rfl rfl rfl (by kernel_rfl) Try.func7 (by kernel_rfl)
    (of_decide_eq_true (by kernel_rfl)) (by unfold Func.isWrapper; first | (rw [if_pos (by decide +kernel)]; kernel_rfl) | (rw [if_neg (by decide +kernel)]; exact ⟨rfl, rfl⟩))
    (fun os started H enc _ => packParts_lifted os started H enc)
theorem packParts_proved : Rows.PackPartsSaid := packParts_over
#print axioms packParts_proved
end Go.Proofs.Ytmihdhceicmnlaa
