/- ZoneHolds: for every input the law returns true, and each argument reads behind the call as it read before. No condition beside the row's own. -/
import Derived.Test.YtilofjbobmeniaaREnd
import Derived.Test.YtilofjbobmeniaaRZOpen
import Derived.Test.YtilofjbobmeniaaRZoneHoldsLaw
import Derived.Test.YtilofjbobmeniaaRZOp
import Derived.SizedLaws
namespace Go.Proofs.YtilofjbobmeniaaR
open Go.ChangeShapes Go.WideShapes Go.ChangeAt Go.RowKit
open Zon
set_option linter.unusedVariables false
set_option maxRecDepth 100000 in
theorem zoneHolds_lifted (os : Os) (started : os.Started) (H : Type) (enc : TypeId × Value → H) :
    ReturnsInHanded {} Try.checked os 4 .any (Rows.zoneHoldsSpec.pre6 enc Try.prog Try.f4 Rows.zoneHoldsRow.domain false) (Rows.zoneHoldsSpec.post enc Try.prog Try.f4 false true false false) := by
  refine returnsInHanded_of_change_sized (C := Try.checked) own started (by kernel_rfl) Try.func4
    (ChangeSpec.witness6 (enc := enc) (C := Try.checked) false ⟨#[], #[.slice none 0 0, .slice none 0 0, .slice none 0 0, .agg #[.int .i64 0, .int .i64 0, .int .i64 0, .int .i64 0, .int .i64 0, .int .i64 0, .slice none 0 0, .slice none 0 0, .slice none 0 0, .slice none 0 0]], []⟩ 8 (by kernel_rfl) (by kernel_rfl) (by kernel_rfl) (by kernel_rfl)) ?_
  intro W base args ds gs before hval0 hW hcnd hsz0 _
  have hsz : (DataW.weightsEach Try.prog (Try.f4.params.toList ++ Rows.zoneHoldsSpec.plain.varTypes Try.prog) (ds ++ gs)).all (· ≤ reachBytes) = true := hsz0
  clear hsz0
  have hval : ∀ (j : Nat) t v, Try.f4.params[j]? = some t → args[j]? = some v → Value.okWide Try.prog W .any base t v := hval0
  have hW' := hW
  obtain ⟨p, q, hAA, hV, rfl, hfz, hnd⟩ := hW
  have hA : DataW.TrodAll enc Try.prog W 0 (fun _ => true) true Try.f4.params.toList args.toList ds p := hAA
  rw [Try.params4] at hA hval hsz
  obtain ⟨v0, vs0, d0, ds0, p0, q0, hargs, rfl, rfl, h0, r0⟩ := trodAll_cons hA
  obtain ⟨v1, vs1, d1, ds1, p1, q1, rfl, rfl, rfl, h1, r1⟩ := trodAll_cons r0
  obtain ⟨v2, vs2, d2, ds2, p2, q2, rfl, rfl, rfl, h2, r2⟩ := trodAll_cons r1
  obtain ⟨v3, vs3, d3, ds3, p3, q3, rfl, rfl, rfl, h3, r3⟩ := trodAll_cons r2
  obtain ⟨rfl, rfl, rfl⟩ := trodAll_nil r3
  obtain rfl : args = #[v0, v1, v2, v3] := by cases args; simp_all
  obtain ⟨rfl, rfl⟩ := trodVars_none hV
  obtain ⟨A0, n0, c0, L0, rfl, hL0, hR0, hA0, hcc0, hd0⟩ := open_nums (hval 0 35 v0 rfl rfl) h0
  have hr0 : n0 ≤ 17592186044416 := by
    rcases hd0 with ⟨_, h⟩ | ⟨zs, hz, hc, rfl⟩
    · omega
    · have := sized_slice hsz (j := 0) (t := 35) (e := 3) rfl rfl Try.underlying35
      rw [show Try.prog.bytesOf 3 = 8 by kernel_rfl] at this
      simp only [lits, List.length_map, List.length_take, List.length_drop, reachBytes] at this
      omega
  obtain ⟨A1, n1, c1, L1, rfl, hL1, hR1, hA1, hcc1, hd1⟩ := open_con (hval 1 36 v1 rfl rfl) h1
  have hr1 : n1 ≤ 5864062014805 := by
    rcases hd1 with ⟨_, h⟩ | ⟨xs, ys, hx, rfl⟩
    · omega
    · have := sized_slice hsz (j := 1) (t := 36) (e := 49) rfl rfl Try.underlying36
      rw [show Try.prog.bytesOf 49 = 24 by kernel_rfl] at this
      simp only [reachBytes] at this
      omega
  obtain ⟨A2, n2, c2, L2, rfl, hL2, hR2, hA2, hcc2, hd2⟩ := open_con (hval 2 36 v2 rfl rfl) h2
  have hr2 : n2 ≤ 5864062014805 := by
    rcases hd2 with ⟨_, h⟩ | ⟨xs, ys, hx, rfl⟩
    · omega
    · have := sized_slice hsz (j := 2) (t := 36) (e := 49) rfl rfl Try.underlying36
      rw [show Try.prog.bytesOf 49 = 24 by kernel_rfl] at this
      simp only [reachBytes] at this
      omega
  obtain ⟨ka3, kb3, kc3, X3, Y3, C3, A3, n3, c3, L3, Ax3, Ay3, Az3, nx3, cx3, ny3, cy3, nz3, cz3, rfl, hX3, hY3, hC3, hL3, hR3, hA3, hcc3, hw3⟩ := open_op (hval 3 39 v3 rfl rfl) h3
  have hr3 : n3 ≤ 17592186044416 := hw3 fun m hm => by
    have := List.all_eq_true.1 hsz _ (DataW.weights_mem_each (j := 3) (t := 39) rfl rfl m hm)
    simpa using this
  clear hAA
  refine (zoneHolds_walk W A0 n0 c0 L0 ⟨hL0, hr0, hR0, hA0, hcc0⟩ A1 n1 c1 L1 ⟨hL1, hr1, hR1, hA1, hcc1⟩ A2 n2 c2 L2 ⟨hL2, hr2, hR2, hA2, hcc2⟩ ka3 kb3 kc3 X3 Y3 C3 hX3 hY3 hC3 A3 n3 c3 L3 ⟨hL3, hr3, hR3, hA3, hcc3⟩ Ax3 Ay3 Az3 nx3 cx3 ny3 cy3 nz3 cz3).mono fun e W' ⟨he, hb⟩ => ?_
  subst he
  exact ⟨_, rfl, law_post laidOut Try.underlying4 rfl rfl (by decide +kernel) hW' rfl hb⟩
theorem zoneHolds_over : Rows.zoneHoldsRow.holds Try.pinned (OpenSpec.ofChange Rows.zoneHoldsSpec) :=
  OpenClaim.holds_of_wide 4 Try.f4 rfl rfl rfl rfl rfl rfl rfl ⟨rfl, rfl, rfl, rfl, rfl⟩ rfl rfl rfl rfl rfl (by kernel_rfl) Try.func4 (by kernel_rfl)
    (of_decide_eq_true (by kernel_rfl)) (by unfold Func.isWrapper; first | (rw [if_pos (by decide +kernel)]; kernel_rfl) | (rw [if_neg (by decide +kernel)]; exact ⟨rfl, rfl⟩))
    (fun os started H enc _ => zoneHolds_lifted os started H enc)
theorem zoneHolds_proved : Rows.ZoneHoldsSaid := zoneHolds_over
#print axioms zoneHolds_proved
end Go.Proofs.YtilofjbobmeniaaR
