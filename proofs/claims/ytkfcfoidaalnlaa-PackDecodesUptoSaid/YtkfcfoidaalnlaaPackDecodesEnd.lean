/- PackDecodes, where what it reads is of bulk at most 1048576: the law returns true, and each argument reads behind the call as it read before. Condition: the row's own bound on the bulk (the law lends what it is handed out of a room of four bytes for each one). Laid by wip/tools/mkpup.py. -/
import Derived.Test.YtkfcfoidaalnlaaEnd
import Derived.Test.YtkfcfoidaalnlaaPkOpV
import Derived.Test.YtkfcfoidaalnlaaPkOpT
import Derived.SizedLaws
import Derived.JoinedCond
namespace Go.Proofs.Ytkfcfoidaalnlaa
open Go.ChangeShapes Go.WideShapes Go.ChangeAt Go.RowKit
open Pak
set_option linter.unusedVariables false
set_option maxRecDepth 100000
set_option maxHeartbeats 2000000 in
theorem packDecodes_lifted (os : Os) (started : os.Started) (H : Type) (enc : TypeId × Value → H) (F : Stop.Interp) :
    ReturnsInHanded {} Try.checked os 4 .any ((Rows.OpenSpec.upto Rows.packDecodesSpec).pre6 enc Try.prog Try.f4 Rows.packDecodesUptoRow.domain false) (((Rows.OpenSpec.upto Rows.packDecodesSpec).at F).post enc Try.prog Try.f4 false true false false) := by
  refine returnsInHanded_of_cond (C := Try.checked) (s := Rows.OpenSpec.upto Rows.packDecodesSpec) (k := Rows.uptoSmall) rfl own started (by kernel_rfl) Try.func4
    (OpenSpec.witness (enc := enc) (C := Try.checked) (s := Rows.OpenSpec.upto Rows.packDecodesSpec) (k := Rows.uptoSmall) rfl false ⟨#[], #[.slice none 0 0, .slice none 0 0], []⟩ 8 (by kernel_rfl) (by kernel_rfl) (by kernel_rfl)
      (x := ([.nil, .nil], [], [])) (by kernel_rfl) rfl (by kernel_rfl)) ?_
  intro W base args ds gs before hval0 hW _ hk _
  have hval : ∀ (j : Nat) t v, Try.f4.params[j]? = some t → args[j]? = some v → Value.okWide Try.prog W .any base t v := hval0
  have hW' := hW
  obtain ⟨p, q, hAA, hV, rfl, hfz, hnd⟩ := hW
  have hA : DataW.TrodAll enc Try.prog W 0 (fun _ => true) true Try.f4.params.toList args.toList ds p := hAA
  rw [Try.params4] at hA hval
  obtain ⟨v0, vs0, d0, ds0, p0, q0, hargs, rfl, rfl, h0, r0⟩ := trodAll_cons hA
  obtain ⟨v1, vs1, d1, ds1, p1, q1, rfl, rfl, rfl, h1, r1⟩ := trodAll_cons r0
  obtain ⟨rfl, rfl, rfl⟩ := trodAll_nil r1
  obtain rfl : args = #[v0, v1] := by cases args; simp_all
  obtain ⟨rfl, rfl⟩ := trodVars_none hV
  obtain ⟨A0, n0, c0, L0, rfl, hl0, hY0, hw0⟩ := open_bytesT (hval 0 22 v0 rfl rfl) h0
  have hu0 := hw0 (by
    have h := bulk_small hk
    simp only [List.append_nil, Rows.uptoBulkAll] at h
    omega)
  obtain ⟨A1, n1, c1, rfl, hl1, hw1⟩ := open_turnT (hval 1 31 v1 rfl rfl) h1
  have hu1 := hw1 (by
    have h := bulk_small hk
    simp only [List.append_nil, Rows.uptoBulkAll] at h
    omega)
  clear hAA
  refine (packDecodes_any W A0 n0 c0 L0 A1 n1 c1 hl0 hY0 hu0 hl1 hu1).mono fun e W' ⟨he, hb⟩ => ?_
  subst he
  exact ⟨_, rfl, law_post laidOut Try.underlying4 rfl rfl (by decide +kernel) hW' rfl hb⟩
theorem packDecodes_over : Rows.packDecodesUptoRow.holds Try.pinned (Rows.OpenSpec.upto Rows.packDecodesSpec) :=
  OpenClaim.holds_of_cond 4 Try.f4 rfl rfl rfl rfl rfl rfl rfl ⟨rfl, rfl, rfl, rfl, rfl⟩ rfl rfl rfl rfl rfl (by kernel_rfl) Try.func4 (by kernel_rfl)
    (of_decide_eq_true (by kernel_rfl)) (by unfold Func.isWrapper; first | (rw [if_pos (by decide +kernel)]; kernel_rfl) | (rw [if_neg (by decide +kernel)]; exact ⟨rfl, rfl⟩))
    (fun os started H enc _ F => packDecodes_lifted os started H enc F)
theorem packDecodes_proved : Rows.PackDecodesUptoSaid := packDecodes_over
#print axioms packDecodes_proved
end Go.Proofs.Ytkfcfoidaalnlaa
