/- ZoneRenews: for every input the law returns true, and each argument reads behind the call as it read before. No condition beside the row's own. -/
import Derived.Test.YtockoolcdhgopaaEnd
import Derived.Test.YtockoolcdhgopaaZOpen
import Derived.Test.YtockoolcdhgopaaZoneRenewsLaw
import Derived.SizedLaws
namespace Go.Proofs.Ytockoolcdhgopaa
open Go.ChangeShapes Go.WideShapes Go.ChangeAt Go.RowKit
open Zon
set_option linter.unusedVariables false
set_option maxRecDepth 100000 in
theorem zoneRenews_lifted (os : Os) (started : os.Started) (H : Type) (enc : TypeId × Value → H) :
    ReturnsInHanded {} Try.checked os 7 .any (Rows.zoneRenewsSpec.pre6 enc Try.prog Try.f7 Rows.zoneRenewsRow.domain false) (Rows.zoneRenewsSpec.post enc Try.prog Try.f7 false true false false) := by
  refine returnsInHanded_of_change_sized (C := Try.checked) own started (by kernel_rfl) Try.func7
    (ChangeSpec.witness6 (enc := enc) (C := Try.checked) false ⟨#[], #[.slice none 0 0, .slice none 0 0, .agg #[.int .i64 0, .int .i64 0, .int .i64 0, .int .i64 0, .int .i64 0, .int .i64 0, .slice none 0 0, .slice none 0 0, .slice none 0 0, .slice none 0 0], .int .i64 0, .int .i64 0], []⟩ 8 (by kernel_rfl) (by kernel_rfl) (by kernel_rfl) (by kernel_rfl)) ?_
  intro W base args ds gs before hval0 hW hcnd hsz0 _
  have hsz : (DataW.weightsEach Try.prog (Try.f7.params.toList ++ Rows.zoneRenewsSpec.plain.varTypes Try.prog) (ds ++ gs)).all (· ≤ reachBytes) = true := hsz0
  clear hsz0
  have hval : ∀ (j : Nat) t v, Try.f7.params[j]? = some t → args[j]? = some v → Value.okWide Try.prog W .any base t v := hval0
  have hW' := hW
  obtain ⟨p, q, hAA, hV, rfl, hfz, hnd⟩ := hW
  have hA : DataW.TrodAll enc Try.prog W 0 (fun _ => true) true Try.f7.params.toList args.toList ds p := hAA
  rw [Try.params7] at hA hval hsz
  obtain ⟨v0, vs0, d0, ds0, p0, q0, hargs, rfl, rfl, h0, r0⟩ := trodAll_cons hA
  obtain ⟨v1, vs1, d1, ds1, p1, q1, rfl, rfl, rfl, h1, r1⟩ := trodAll_cons r0
  obtain ⟨v2, vs2, d2, ds2, p2, q2, rfl, rfl, rfl, h2, r2⟩ := trodAll_cons r1
  obtain ⟨v3, vs3, d3, ds3, p3, q3, rfl, rfl, rfl, h3, r3⟩ := trodAll_cons r2
  obtain ⟨v4, vs4, d4, ds4, p4, q4, rfl, rfl, rfl, h4, r4⟩ := trodAll_cons r3
  obtain ⟨rfl, rfl, rfl⟩ := trodAll_nil r4
  obtain rfl : args = #[v0, v1, v2, v3, v4] := by cases args; simp_all
  obtain ⟨rfl, rfl⟩ := trodVars_none hV
  obtain ⟨A0, n0, c0, L0, rfl, hL0, hR0, hA0, hcc0, hd0⟩ := open_con (hval 0 23 v0 rfl rfl) h0
  have hr0 : n0 ≤ 5864062014805 := by
    rcases hd0 with ⟨_, h⟩ | ⟨xs, ys, hx, rfl⟩
    · omega
    · have := sized_slice hsz (j := 0) (t := 23) (e := 86) rfl rfl Try.underlying23
      rw [show Try.prog.bytesOf 86 = 24 by kernel_rfl] at this
      simp only [reachBytes] at this
      omega
  obtain ⟨A1, n1, c1, L1, rfl, hL1, hR1, hA1, hcc1, hd1⟩ := open_con (hval 1 23 v1 rfl rfl) h1
  have hr1 : n1 ≤ 5864062014805 := by
    rcases hd1 with ⟨_, h⟩ | ⟨xs, ys, hx, rfl⟩
    · omega
    · have := sized_slice hsz (j := 1) (t := 23) (e := 86) rfl rfl Try.underlying23
      rw [show Try.prog.bytesOf 86 = 24 by kernel_rfl] at this
      simp only [reachBytes] at this
      omega
  obtain ⟨ka2, kb2, kc2, X2, Y2, C2, Aw2, Ax2, Ay2, Az2, nw2, cw2, nx2, cx2, ny2, cy2, nz2, cz2, Ly2, Lz2, rfl, hX2, ⟨ly2, -, iy2⟩, ⟨lz2, -, iz2⟩⟩ := open_op2 (hval 2 57 v2 rfl rfl) h2
  obtain ⟨a3, rfl, rfl, rfl, w3⟩ := open_int Try.underlying3 (hval 3 3 v3 rfl rfl) h3
  obtain ⟨a4, rfl, rfl, rfl, w4⟩ := open_int Try.underlying3 (hval 4 3 v4 rfl rfl) h4
  clear hAA
  refine (zoneRenews_walk W A0 n0 c0 L0 ⟨hL0, hr0, hR0, hA0, hcc0⟩ A1 n1 c1 L1 ⟨hL1, hr1, hR1, hA1, hcc1⟩ ka2 kb2 kc2 X2 Y2 C2 hX2 Aw2 Ax2 Ay2 Az2 nw2 cw2 nx2 cx2 ny2 cy2 nz2 cz2 Ly2 ly2 iy2 Lz2 lz2 iz2 a3 (bounds_i64 w3) a4 (bounds_i64 w4)).mono fun e W' ⟨he, hb⟩ => ?_
  subst he
  exact ⟨_, rfl, law_post laidOut Try.underlying4 rfl rfl (by decide +kernel) hW' rfl hb⟩
theorem zoneRenews_over : Rows.zoneRenewsRow.holds Try.pinned (OpenSpec.ofChange Rows.zoneRenewsSpec) :=
  OpenClaim.holds_of_wide 7 Try.f7 rfl rfl rfl rfl rfl rfl rfl ⟨rfl, rfl, rfl, rfl, rfl⟩ rfl rfl rfl rfl rfl (by kernel_rfl) Try.func7 (by kernel_rfl)
    (of_decide_eq_true (by kernel_rfl)) (by unfold Func.isWrapper; first | (rw [if_pos (by decide +kernel)]; kernel_rfl) | (rw [if_neg (by decide +kernel)]; exact ⟨rfl, rfl⟩))
    (fun os started H enc _ => zoneRenews_lifted os started H enc)
theorem zoneRenews_proved : Rows.ZoneRenewsSaid := zoneRenews_over
#print axioms zoneRenews_proved
end Go.Proofs.Ytockoolcdhgopaa
