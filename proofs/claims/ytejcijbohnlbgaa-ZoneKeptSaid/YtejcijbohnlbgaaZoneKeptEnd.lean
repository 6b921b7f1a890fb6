/- ZoneKept: for every input the law returns true, and each argument reads behind the call as it read before. No condition beside the row's own. -/
import Derived.Test.YtejcijbohnlbgaaEnd
import Derived.Test.YtejcijbohnlbgaaZOpen
import Derived.Test.YtejcijbohnlbgaaKeptAll
import Derived.SizedLaws
namespace Go.Proofs.Ytejcijbohnlbgaa
open Go.ChangeShapes Go.WideShapes Go.ChangeAt Go.RowKit
open Zon
set_option linter.unusedVariables false
set_option maxRecDepth 100000 in
theorem zoneKept_lifted (os : Os) (started : os.Started) (H : Type) (enc : TypeId × Value → H) :
    ReturnsInHanded {} Try.checked os 3 .any (Rows.zoneKeptSpec.pre6 enc Try.prog Try.f3 Rows.zoneKeptRow.domain false) (Rows.zoneKeptSpec.post enc Try.prog Try.f3 false true false false) := by
  refine returnsInHanded_of_change_sized (C := Try.checked) own started (by kernel_rfl) Try.func3
    (ChangeSpec.witness6 (enc := enc) (C := Try.checked) false ⟨#[], #[.slice none 0 0, .slice none 0 0, .agg #[.int .i64 0, .int .i64 0, .int .i64 0, .int .i64 0, .int .i64 0, .int .i64 0, .slice none 0 0, .slice none 0 0, .slice none 0 0, .slice none 0 0]], []⟩ 8 (by kernel_rfl) (by kernel_rfl) (by kernel_rfl) (by kernel_rfl)) ?_
  intro W base args ds gs before hval0 hW hcnd hsz0 _
  have hsz : (DataW.weightsEach Try.prog (Try.f3.params.toList ++ Rows.zoneKeptSpec.plain.varTypes Try.prog) (ds ++ gs)).all (· ≤ reachBytes) = true := hsz0
  clear hsz0
  have hval : ∀ (j : Nat) t v, Try.f3.params[j]? = some t → args[j]? = some v → Value.okWide Try.prog W .any base t v := hval0
  have hW' := hW
  obtain ⟨p, q, hAA, hV, rfl, hfz, hnd⟩ := hW
  have hA : DataW.TrodAll enc Try.prog W 0 (fun _ => true) true Try.f3.params.toList args.toList ds p := hAA
  rw [Try.params3] at hA hval hsz
  obtain ⟨v0, vs0, d0, ds0, p0, q0, hargs, rfl, rfl, h0, r0⟩ := trodAll_cons hA
  obtain ⟨v1, vs1, d1, ds1, p1, q1, rfl, rfl, rfl, h1, r1⟩ := trodAll_cons r0
  obtain ⟨v2, vs2, d2, ds2, p2, q2, rfl, rfl, rfl, h2, r2⟩ := trodAll_cons r1
  obtain ⟨rfl, rfl, rfl⟩ := trodAll_nil r2
  obtain rfl : args = #[v0, v1, v2] := by cases args; simp_all
  obtain ⟨rfl, rfl⟩ := trodVars_none hV
  obtain ⟨A0, n0, c0, L0, rfl, hL0, hR0, hA0, hcc0, hd0⟩ := open_con (hval 0 22 v0 rfl rfl) h0
  have hr0 : n0 ≤ 5864062014805 := by
    rcases hd0 with ⟨_, h⟩ | ⟨xs, ys, hx, rfl⟩
    · omega
    · have := sized_slice hsz (j := 0) (t := 22) (e := 99) rfl rfl Try.underlying22
      rw [show Try.prog.bytesOf 99 = 24 by kernel_rfl] at this
      simp only [reachBytes] at this
      omega
  obtain ⟨A1, n1, c1, L1, rfl, hL1, hR1, hA1, hcc1, hd1⟩ := open_nums (hval 1 23 v1 rfl rfl) h1
  have hr1 : n1 ≤ 17592186044416 := by
    rcases hd1 with ⟨_, h⟩ | ⟨zs, hz, hc, rfl⟩
    · omega
    · have := sized_slice hsz (j := 1) (t := 23) (e := 3) rfl rfl Try.underlying23
      rw [show Try.prog.bytesOf 3 = 8 by kernel_rfl] at this
      simp only [lits, List.length_map, List.length_take, List.length_drop, reachBytes] at this
      omega
  obtain ⟨ka2, kb2, kc2, X2, Y2, C2, Aw2, Ax2, Ay2, Az2, nw2, cw2, nx2, cx2, ny2, cy2, nz2, cz2, Ly2, Lz2, rfl, hX2, ⟨ly2, -, iy2⟩, ⟨lz2, -, iz2⟩, hw2⟩ := open_op3 (hval 2 26 v2 rfl rfl) h2
  have hr2 : ny2 ≤ 8796093022208 ∧ nz2 ≤ 8796093022208 := hw2 fun m hm => by
    have := List.all_eq_true.1 hsz _ (DataW.weights_mem_each (j := 2) (t := 26) rfl rfl m hm)
    simpa using this
  clear hAA
  refine (zoneKept_walk W A0 n0 c0 L0 ⟨hL0, hr0, hR0, hA0, hcc0⟩ A1 n1 c1 L1 ⟨hL1, hr1, hR1, hA1, hcc1⟩ ka2 kb2 kc2 X2 Y2 C2 hX2 Aw2 Ax2 Ay2 Az2 nw2 cw2 nx2 cx2 ny2 cy2 nz2 cz2 Ly2 ly2 iy2 Lz2 lz2 iz2 hr2).mono fun e W' ⟨he, hb⟩ => ?_
  subst he
  exact ⟨_, rfl, law_post laidOut Try.underlying4 rfl rfl (by decide +kernel) hW' rfl hb⟩
theorem zoneKept_over : Rows.zoneKeptRow.holds Try.pinned (OpenSpec.ofChange Rows.zoneKeptSpec) :=
  OpenClaim.holds_of_wide 3 Try.f3 rfl rfl rfl rfl rfl rfl rfl ⟨rfl, rfl, rfl, rfl, rfl⟩ rfl rfl rfl rfl rfl (by kernel_rfl) Try.func3 (by kernel_rfl)
    (of_decide_eq_true (by kernel_rfl)) (by unfold Func.isWrapper; first | (rw [if_pos (by decide +kernel)]; kernel_rfl) | (rw [if_neg (by decide +kernel)]; exact ⟨rfl, rfl⟩))
    (fun os started H enc _ => zoneKept_lifted os started H enc)
theorem zoneKept_proved : Rows.ZoneKeptSaid := zoneKept_over
#print axioms zoneKept_proved
end Go.Proofs.Ytejcijbohnlbgaa
