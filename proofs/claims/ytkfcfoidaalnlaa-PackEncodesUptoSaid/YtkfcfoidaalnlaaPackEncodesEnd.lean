/- PackEncodes, where what it reads is of bulk at most 1048576: the law returns true, and each argument reads behind the call as it read before. Condition: the row's own bound on the bulk (the law lends what it is handed out of a room of four bytes for each one). Laid by wip/tools/mkpup.py. -/
import Derived.Test.YtkfcfoidaalnlaaEnd
import Derived.Test.YtkfcfoidaalnlaaPkOpV
import Derived.Test.YtkfcfoidaalnlaaPkQe
import Derived.SizedLaws
import Derived.JoinedCond
namespace Go.Proofs.Ytkfcfoidaalnlaa
open Go.ChangeShapes Go.WideShapes Go.ChangeAt Go.RowKit
open Pak
set_option linter.unusedVariables false
set_option maxRecDepth 100000
set_option maxHeartbeats 2000000 in
theorem packEncodes_lifted (os : Os) (started : os.Started) (H : Type) (enc : TypeId × Value → H) (F : Stop.Interp) :
    ReturnsInHanded {} Try.checked os 3 .any ((Rows.OpenSpec.upto Rows.packEncodesSpec).pre6 enc Try.prog Try.f3 Rows.packEncodesUptoRow.domain false) (((Rows.OpenSpec.upto Rows.packEncodesSpec).at F).post enc Try.prog Try.f3 false true false false) := by
  refine returnsInHanded_of_cond (C := Try.checked) (s := Rows.OpenSpec.upto Rows.packEncodesSpec) (k := Rows.uptoSmall) rfl own started (by kernel_rfl) Try.func3
    (OpenSpec.witness (enc := enc) (C := Try.checked) (s := Rows.OpenSpec.upto Rows.packEncodesSpec) (k := Rows.uptoSmall) rfl false ⟨#[], #[.agg #[.int .i64 0, .int .i64 0, .slice none 0 0, .slice none 0 0, .slice none 0 0], .agg #[.int .i64 0, .int .i64 0, .slice none 0 0, .slice none 0 0, .slice none 0 0]], []⟩ 8 (by kernel_rfl) (by kernel_rfl) (by kernel_rfl)
      (x := ([.agg [.lit (.int .i64 0), .lit (.int .i64 0), .nil, .nil, .nil], .agg [.lit (.int .i64 0), .lit (.int .i64 0), .nil, .nil, .nil]], [], [])) (by kernel_rfl) rfl (by kernel_rfl)) ?_
  intro W base args ds gs before hval0 hW _ hk _
  have hval : ∀ (j : Nat) t v, Try.f3.params[j]? = some t → args[j]? = some v → Value.okWide Try.prog W .any base t v := hval0
  have hW' := hW
  obtain ⟨p, q, hAA, hV, rfl, hfz, hnd⟩ := hW
  have hA : DataW.TrodAll enc Try.prog W 0 (fun _ => true) true Try.f3.params.toList args.toList ds p := hAA
  rw [Try.params3] at hA hval
  obtain ⟨v0, vs0, d0, ds0, p0, q0, hargs, rfl, rfl, h0, r0⟩ := trodAll_cons hA
  obtain ⟨v1, vs1, d1, ds1, p1, q1, rfl, rfl, rfl, h1, r1⟩ := trodAll_cons r0
  obtain ⟨rfl, rfl, rfl⟩ := trodAll_nil r1
  obtain rfl : args = #[v0, v1] := by cases args; simp_all
  obtain ⟨rfl, rfl⟩ := trodVars_none hV
  obtain ⟨vd0, vt0, vc0, k0, rfl, hk0, hw0⟩ := open_pack_up (hval 0 25 v0 rfl rfl) h0
  obtain ⟨hs0, hu0⟩ := hw0 (by
    have h := bulk_small hk
    simp only [List.append_nil, Rows.uptoBulkAll] at h
    omega)
  obtain ⟨vd1, vt1, vc1, k1, rfl, hk1, hw1⟩ := open_pack_up (hval 1 25 v1 rfl rfl) h1
  obtain ⟨hs1, hu1⟩ := hw1 (by
    have h := bulk_small hk
    simp only [List.append_nil, Rows.uptoBulkAll] at h
    omega)
  clear hAA
  refine (packEncodes_any W k0 k1 vd0 vt0 vc0 vd1 vt1 vc1 hk0 hk1 hs0 hs1 hu0 hu1).mono fun e W' ⟨he, hb⟩ => ?_
  subst he
  exact ⟨_, rfl, law_post laidOut Try.underlying4 rfl rfl (by decide +kernel) hW' rfl hb⟩
theorem packEncodes_over : Rows.packEncodesUptoRow.holds Try.pinned (Rows.OpenSpec.upto Rows.packEncodesSpec) :=
  OpenClaim.holds_of_cond 3 Try.f3 rfl rfl rfl rfl rfl rfl rfl ⟨rfl, rfl, rfl, rfl, rfl⟩ rfl rfl rfl rfl rfl (by kernel_rfl) Try.func3 (by kernel_rfl)
    (of_decide_eq_true (by kernel_rfl)) (by unfold Func.isWrapper; first | (rw [if_pos (by decide +kernel)]; kernel_rfl) | (rw [if_neg (by decide +kernel)]; exact ⟨rfl, rfl⟩))
    (fun os started H enc _ F => packEncodes_lifted os started H enc F)
theorem packEncodes_proved : Rows.PackEncodesUptoSaid := packEncodes_over
#print axioms packEncodes_proved
end Go.Proofs.Ytkfcfoidaalnlaa
