/- DeedForth: for every input the law returns true, and each argument reads behind the call as it read before. No condition beside the row's own. -/
import Derived.Test.YtbomihdnnidelaaEnd
import Derived.Test.YtbomihdnnidelaaDOpen
import Derived.Test.YtbomihdnnidelaaDSg
import Derived.SizedLaws
namespace Go.Proofs.Ytbomihdnnidelaa
open Go.ChangeShapes Go.WideShapes Go.ChangeAt Go.RowKit
open Dee
set_option linter.unusedVariables false
set_option maxRecDepth 100000 in
theorem deedForth_lifted (os : Os) (started : os.Started) (H : Type) (enc : TypeId × Value → H) :
    ReturnsInHanded {} Try.checked os 8 .any (Rows.deedForthSpec.pre6 enc Try.prog Try.f8 Rows.deedForthRow.domain false) (Rows.deedForthSpec.post enc Try.prog Try.f8 false true false false) := by
  refine returnsInHanded_of_change_sized (C := Try.checked) own started (by kernel_rfl) Try.func8
    (ChangeSpec.witness6 (enc := enc) (C := Try.checked) false ⟨#[], #[.slice none 0 0], []⟩ 8 (by kernel_rfl) (by kernel_rfl) (by kernel_rfl) (by kernel_rfl)) ?_
  intro W base args ds gs before hval0 hW hcnd hsz0 _
  have hsz : (DataW.weightsEach Try.prog (Try.f8.params.toList ++ Rows.deedForthSpec.plain.varTypes Try.prog) (ds ++ gs)).all (· ≤ reachBytes) = true := hsz0
  clear hsz0
  have hval : ∀ (j : Nat) t v, Try.f8.params[j]? = some t → args[j]? = some v → Value.okWide Try.prog W .any base t v := hval0
  have hW' := hW
  obtain ⟨p, q, hAA, hV, rfl, hfz, hnd⟩ := hW
  have hA : DataW.TrodAll enc Try.prog W 0 (fun _ => true) true Try.f8.params.toList args.toList ds p := hAA
  rw [Try.params8] at hA hval hsz
  obtain ⟨v0, vs0, d0, ds0, p0, q0, hargs, rfl, rfl, h0, r0⟩ := trodAll_cons hA
  obtain ⟨rfl, rfl, rfl⟩ := trodAll_nil r0
  obtain rfl : args = #[v0] := by cases args; simp_all
  obtain ⟨rfl, rfl⟩ := trodVars_none hV
  have hok := hval 0 28 v0 rfl rfl
  obtain ⟨A0, n0, c0, L0, rfl, hL0, hY0, hA0, hm0, hd0⟩ := open_bytes hok h0
  have hr0 : n0 ≤ 140737488351232 ∧ n0 ≤ c0 := by
    rcases hd0 with ⟨_, h⟩ | ⟨zs, hz, hc, rfl⟩
    · omega
    · have := sized_slice hsz (j := 0) (t := 28) (e := 5) rfl rfl Try.underlying28
      rw [show Try.prog.bytesOf 5 = 1 by kernel_rfl] at this
      simp only [lits, List.length_map, List.length_take, List.length_drop, reachBytes] at this
      omega
  clear hAA
  refine (deedForth_any W A0 n0 c0 L0 hL0 hr0.2 (by omega) hA0 (slice_block Try.underlying28 hok) (byt_deed hY0)).mono fun e W' ⟨he, hb⟩ => ?_
  subst he
  exact ⟨_, rfl, law_post laidOut Try.underlying4 rfl rfl (by decide +kernel) hW' rfl hb⟩
theorem deedForth_over : Rows.deedForthRow.holds Try.pinned (OpenSpec.ofChange Rows.deedForthSpec) :=
  OpenClaim.holds_of_wide 8 Try.f8 rfl rfl rfl rfl rfl rfl rfl ⟨rfl, rfl, rfl, rfl, rfl⟩ rfl rfl rfl rfl rfl (by kernel_rfl) Try.func8 (by kernel_rfl)
    (of_decide_eq_true (by kernel_rfl)) (by unfold Func.isWrapper; first | (rw [if_pos (by decide +kernel)]; kernel_rfl) | (rw [if_neg (by decide +kernel)]; exact ⟨rfl, rfl⟩))
    (fun os started H enc _ => deedForth_lifted os started H enc)
theorem deedForth_proved : Rows.DeedForthSaid := deedForth_over
#print axioms deedForth_proved
end Go.Proofs.Ytbomihdnnidelaa
