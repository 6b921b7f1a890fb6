/- DeedCut, where what it reads is of bulk at most 1048576: the law returns true, and each argument reads behind the call as it read before. Condition: the bound on the bulk of the row (with arguments of 2^47 bytes the law itself asks for a row of more than 2^47 bytes). -/
import Derived.Test.YtbomihdnnidelaaEnd
import Derived.Test.YtbomihdnnidelaaDOpen2
import Derived.Test.YtbomihdnnidelaaDSj
import Derived.SizedLaws
import Derived.JoinedCond
namespace Go.Proofs.Ytbomihdnnidelaa
open Go.ChangeShapes Go.WideShapes Go.ChangeAt Go.RowKit
open Dee
set_option linter.unusedVariables false
set_option maxRecDepth 100000 in
theorem bulk_len {H : Type} : ∀ (l : List (DataW H)), l.length ≤ Rows.uptoBulkAll l
  | [] => by simp [Rows.uptoBulkAll]
  | d :: r => by
    have h1 : 1 ≤ Rows.uptoBulk d := by
      cases d with
      | lit l => cases l <;> simp [Rows.uptoBulk]
      | nil => simp [Rows.uptoBulk]
      | ptr d => simp [Rows.uptoBulk]
      | slice a b => simp [Rows.uptoBulk]
      | agg p => simp [Rows.uptoBulk]
      | iface t d => simp [Rows.uptoBulk]
      | map m => simp [Rows.uptoBulk]
      | held h => simp [Rows.uptoBulk]
    have h2 := bulk_len r
    simp only [Rows.uptoBulkAll, List.length_cons]
    omega
theorem bulk_slice {H : Type} (a b : List (DataW H)) (r : List (DataW H)) (k : Nat) (h : Rows.uptoBulkAll (DataW.slice a b :: r) ≤ k) : a.length + Rows.uptoBulkAll r ≤ k := by
  have h1 := bulk_len a
  simp only [Rows.uptoBulkAll, Rows.uptoBulk] at h
  omega
theorem bulk_cons {H : Type} (d : DataW H) (r : List (DataW H)) (k : Nat) (h : Rows.uptoBulkAll (d :: r) ≤ k) : Rows.uptoBulkAll r ≤ k := by
  simp only [Rows.uptoBulkAll] at h
  omega
set_option linter.unusedVariables false
set_option maxRecDepth 100000 in
theorem deedCut_lifted (os : Os) (started : os.Started) (H : Type) (enc : TypeId × Value → H) (F : Stop.Interp) :
    ReturnsInHanded {} Try.checked os 10 .any ((Rows.OpenSpec.upto Rows.deedCutSpec).pre6 enc Try.prog Try.f10 Rows.deedCutUptoRow.domain false) (((Rows.OpenSpec.upto Rows.deedCutSpec).at F).post enc Try.prog Try.f10 false true false false) := by
  refine returnsInHanded_of_cond (C := Try.checked) (s := Rows.OpenSpec.upto Rows.deedCutSpec) (k := Rows.uptoSmall) rfl own started (by kernel_rfl) Try.func10
    (OpenSpec.witness (enc := enc) (C := Try.checked) (s := Rows.OpenSpec.upto Rows.deedCutSpec) (k := Rows.uptoSmall) rfl false ⟨#[], #[.agg #[.slice none 0 0, .slice none 0 0], .int .i64 0, .int .u8 0, .slice none 0 0], []⟩ 8 (by kernel_rfl) (by kernel_rfl) (by kernel_rfl)
      (x := ([.agg [.nil, .nil], .lit (.int .i64 0), .lit (.int .u8 0), .nil], [], [])) (by kernel_rfl) rfl (by kernel_rfl)) ?_
  intro W base args ds gs before hval0 hW _ hk _
  have hval : ∀ (j : Nat) t v, Try.f10.params[j]? = some t → args[j]? = some v → Value.okWide Try.prog W .any base t v := hval0
  have hW' := hW
  obtain ⟨p, q, hAA, hV, rfl, hfz, hnd⟩ := hW
  have hA : DataW.TrodAll enc Try.prog W 0 (fun _ => true) true Try.f10.params.toList args.toList ds p := hAA
  rw [Try.params10] at hA hval
  obtain ⟨v0, vs0, d0, ds0, p0, q0, hargs, rfl, rfl, h0, r0⟩ := trodAll_cons hA
  obtain ⟨v1, vs1, d1, ds1, p1, q1, rfl, rfl, rfl, h1, r1⟩ := trodAll_cons r0
  obtain ⟨v2, vs2, d2, ds2, p2, q2, rfl, rfl, rfl, h2, r2⟩ := trodAll_cons r1
  obtain ⟨v3, vs3, d3, ds3, p3, q3, rfl, rfl, rfl, h3, r3⟩ := trodAll_cons r2
  obtain ⟨rfl, rfl, rfl⟩ := trodAll_nil r3
  obtain rfl : args = #[v0, v1, v2, v3] := by cases args; simp_all
  obtain ⟨rfl, rfl⟩ := trodVars_none hV
  obtain ⟨vl0, vc0, e0, rfl, hD0, hl0, hc0⟩ := open_deed (hval 0 26 v0 rfl rfl) h0
  obtain ⟨a1, rfl, rfl, rfl, w1⟩ := open_int Try.underlying3 (hval 1 3 v1 rfl rfl) h1
  obtain ⟨a2, rfl, rfl, rfl, w2⟩ := open_int Try.underlying5 (hval 2 5 v2 rfl rfl) h2
  have hok3 := hval 3 28 v3 rfl rfl
  obtain ⟨A3, n3, c3, L3, rfl, hL3, hY3, hA3, hm3, hd3⟩ := open_bytes hok3 h3
  have hr3 : n3 ≤ 1048576 ∧ n3 ≤ c3 := by
    rcases hd3 with ⟨_, h⟩ | ⟨zs, hz, hc, rfl⟩
    · omega
    · have hb := of_decide_eq_true hk
      have := bulk_slice _ _ _ _ (bulk_cons _ _ _ (bulk_cons _ _ _ (bulk_cons _ _ _ hb)))
      simp only [lits, List.length_map, List.length_take] at this
      omega
  clear hAA
  refine (deedCut_any W vl0 vc0 e0 a1 a2 A3 n3 c3 L3 hD0 (bounds_i64 w1) (bounds_u8 w2) hL3 hr3.2 hr3.1 hA3 (slice_block Try.underlying28 hok3) (byt_deed hY3) hl0 hc0).mono fun e W' ⟨he, hb⟩ => ?_
  subst he
  exact ⟨_, rfl, law_post laidOut Try.underlying4 rfl rfl (by decide +kernel) hW' rfl hb⟩
theorem deedCut_over : Rows.deedCutUptoRow.holds Try.pinned (Rows.OpenSpec.upto Rows.deedCutSpec) :=
  OpenClaim.holds_of_cond 10 Try.f10 rfl rfl rfl rfl rfl rfl rfl ⟨rfl, rfl, rfl, rfl, rfl⟩ rfl rfl rfl rfl rfl (by kernel_rfl) Try.func10 (by kernel_rfl)
    (of_decide_eq_true (by kernel_rfl)) (by unfold Func.isWrapper; first | (rw [if_pos (by decide +kernel)]; kernel_rfl) | (rw [if_neg (by decide +kernel)]; exact ⟨rfl, rfl⟩))
    (fun os started H enc _ F => deedCut_lifted os started H enc F)
theorem deedCut_proved : Rows.DeedCutUptoSaid := deedCut_over
#print axioms deedCut_proved
end Go.Proofs.Ytbomihdnnidelaa
