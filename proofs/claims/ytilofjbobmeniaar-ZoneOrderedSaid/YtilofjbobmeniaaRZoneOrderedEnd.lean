/- ZoneOrdered: for every input the law returns true, and each argument reads behind the call as it read before. No condition beside the row's own. -/
import Derived.Test.YtilofjbobmeniaaREnd
import Derived.Test.YtilofjbobmeniaaRZOpen
import Derived.Test.YtilofjbobmeniaaRZoneOrderedLaw
import Derived.SizedLaws
namespace Go.Proofs.YtilofjbobmeniaaR
open Go.ChangeShapes Go.WideShapes Go.ChangeAt Go.RowKit
open Zon
set_option linter.unusedVariables false
set_option maxRecDepth 100000 in
theorem zoneOrdered_lifted (os : Os) (started : os.Started) (H : Type) (enc : TypeId × Value → H) :
    ReturnsInHanded {} Try.checked os 9 .any (Rows.zoneOrderedSpec.pre6 enc Try.prog Try.f9 Rows.zoneOrderedRow.domain false) (Rows.zoneOrderedSpec.post enc Try.prog Try.f9 false true false false) := by
  refine returnsInHanded_of_change_sized (C := Try.checked) own started (by kernel_rfl) Try.func9
    (ChangeSpec.witness6 (enc := enc) (C := Try.checked) false ⟨#[], #[.slice none 0 0, .slice none 0 0, .slice none 0 0], []⟩ 8 (by kernel_rfl) (by kernel_rfl) (by kernel_rfl) (by kernel_rfl)) ?_
  intro W base args ds gs before hval0 hW hcnd hsz0 _
  have hsz : (DataW.weightsEach Try.prog (Try.f9.params.toList ++ Rows.zoneOrderedSpec.plain.varTypes Try.prog) (ds ++ gs)).all (· ≤ reachBytes) = true := hsz0
  clear hsz0
  have hval : ∀ (j : Nat) t v, Try.f9.params[j]? = some t → args[j]? = some v → Value.okWide Try.prog W .any base t v := hval0
  have hW' := hW
  obtain ⟨p, q, hA0, hV, rfl, hfz, hnd⟩ := hW
  have hA : DataW.TrodAll enc Try.prog W 0 (fun _ => true) true Try.f9.params.toList args.toList ds p := hA0
  rw [Try.params9] at hA hval hsz
  obtain ⟨v0, vs0, d0, ds0, p0, q0, hargs, rfl, rfl, h0, r0⟩ := trodAll_cons hA
  obtain ⟨v1, vs1, d1, ds1, p1, q1, rfl, rfl, rfl, h1, r1⟩ := trodAll_cons r0
  obtain ⟨v2, vs2, d2, ds2, p2, q2, rfl, rfl, rfl, h2, r2⟩ := trodAll_cons r1
  obtain ⟨rfl, rfl, rfl⟩ := trodAll_nil r2
  obtain rfl : args = #[v0, v1, v2] := by cases args; simp_all
  obtain ⟨rfl, rfl⟩ := trodVars_none hV
  obtain ⟨A0, n0, c0, L0, rfl, hL0, hR0, hA0, hcc0, hd0⟩ := open_con (hval 0 36 v0 rfl rfl) h0
  have hr0 : n0 ≤ 5864062014805 := by
    rcases hd0 with ⟨_, h⟩ | ⟨xs, ys, hx, rfl⟩
    · omega
    · have := sized_slice hsz (j := 0) (t := 36) (e := 49) rfl rfl Try.underlying36
      rw [show Try.prog.bytesOf 49 = 24 by kernel_rfl] at this
      simp only [reachBytes] at this
      omega
  obtain ⟨A1, n1, c1, L1, rfl, hL1, hR1, hA1, hcc1, hd1⟩ := open_con (hval 1 36 v1 rfl rfl) h1
  have hr1 : n1 ≤ 5864062014805 := by
    rcases hd1 with ⟨_, h⟩ | ⟨xs, ys, hx, rfl⟩
    · omega
    · have := sized_slice hsz (j := 1) (t := 36) (e := 49) rfl rfl Try.underlying36
      rw [show Try.prog.bytesOf 49 = 24 by kernel_rfl] at this
      simp only [reachBytes] at this
      omega
  obtain ⟨A2, n2, c2, L2, rfl, hL2, hR2, hA2, hcc2, hd2⟩ := open_con (hval 2 36 v2 rfl rfl) h2
  have hr2 : n2 ≤ 5864062014805 := by
    rcases hd2 with ⟨_, h⟩ | ⟨xs, ys, hx, rfl⟩
    · omega
    · have := sized_slice hsz (j := 2) (t := 36) (e := 49) rfl rfl Try.underlying36
      rw [show Try.prog.bytesOf 49 = 24 by kernel_rfl] at this
      simp only [reachBytes] at this
      omega
  clear hA0
  refine (zoneOrdered_walk W A0 n0 c0 L0 ⟨hL0, hr0, hR0, hA0, hcc0⟩ A1 n1 c1 L1 ⟨hL1, hr1, hR1, hA1, hcc1⟩ A2 n2 c2 L2 ⟨hL2, hr2, hR2, hA2, hcc2⟩).mono fun e W' ⟨he, hb⟩ => ?_
  subst he
  exact ⟨_, rfl, law_post laidOut Try.underlying4 rfl rfl (by decide +kernel) hW' rfl hb⟩
theorem zoneOrdered_over : Rows.zoneOrderedRow.holds Try.pinned (OpenSpec.ofChange Rows.zoneOrderedSpec) :=
  OpenClaim.holds_of_wide 9 Try.f9 rfl rfl rfl rfl rfl rfl rfl ⟨rfl, rfl, rfl, rfl, rfl⟩ rfl rfl rfl rfl rfl (by kernel_rfl) Try.func9 (by kernel_rfl)
    (of_decide_eq_true (by kernel_rfl)) (by unfold Func.isWrapper; first | (rw [if_pos (by decide +kernel)]; kernel_rfl) | (rw [if_neg (by decide +kernel)]; exact ⟨rfl, rfl⟩))
    (fun os started H enc _ => zoneOrdered_lifted os started H enc)
theorem zoneOrdered_proved : Rows.ZoneOrderedSaid := zoneOrdered_over
#print axioms zoneOrdered_proved
end Go.Proofs.YtilofjbobmeniaaR
