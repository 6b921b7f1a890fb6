/- HelpSums, where what it reads is of bulk at most 1048576: the law returns true, and each argument reads behind the call as it read before. Condition: the bound on the bulk of the row (with 2^46 bytes and more the law itself asks for a slice of over 2^48 bytes). -/
import Derived.Test.YtmdblhgnncfooaaEnd
import Derived.Test.YtmdblhgnncfooaaHelpSumsLaw
import Derived.Test.YtmdblhgnncfooaaHO
import Derived.SizedLaws
import Derived.JoinedCond
namespace Go.Proofs.Ytmdblhgnncfooaa
open Go.ChangeShapes Go.WideShapes Go.ChangeAt Go.RowKit
set_option linter.unusedVariables false
set_option maxRecDepth 100000 in
theorem bulk_len {H : Type} : ∀ (l : List (DataW H)), l.length ≤ Rows.uptoBulkAll l
  | [] => by simp [Rows.uptoBulkAll]
  | d :: r => by
    have h1 : 1 ≤ Rows.uptoBulk d := by
      cases d with
      | lit l => cases l <;> simp [Rows.uptoBulk]
      | nil => simp [Rows.uptoBulk]
      | ptr d => simp [Rows.uptoBulk]
      | slice a b => simp [Rows.uptoBulk]
      | agg p => simp [Rows.uptoBulk]
      | iface t d => simp [Rows.uptoBulk]
      | map m => simp [Rows.uptoBulk]
      | held h => simp [Rows.uptoBulk]
    have h2 := bulk_len r
    simp only [Rows.uptoBulkAll, List.length_cons]
    omega
theorem bulk_slice {H : Type} (a b : List (DataW H)) (r : List (DataW H)) (k : Nat) (h : Rows.uptoBulkAll (DataW.slice a b :: r) ≤ k) : a.length + Rows.uptoBulkAll r ≤ k := by
  have h1 := bulk_len a
  simp only [Rows.uptoBulkAll, Rows.uptoBulk] at h
  omega
theorem bulk_cons {H : Type} (d : DataW H) (r : List (DataW H)) (k : Nat) (h : Rows.uptoBulkAll (d :: r) ≤ k) : Rows.uptoBulkAll r ≤ k := by
  simp only [Rows.uptoBulkAll] at h
  omega
set_option linter.unusedVariables false
set_option maxRecDepth 100000 in
theorem helpSums_lifted (os : Os) (started : os.Started) (H : Type) (enc : TypeId × Value → H) (F : Stop.Interp) :
    ReturnsInHanded {} Try.checked os 5 .any ((Rows.OpenSpec.upto Rows.helpSumsSpec).pre6 enc Try.prog Try.f5 Rows.helpSumsUptoRow.domain false) (((Rows.OpenSpec.upto Rows.helpSumsSpec).at F).post enc Try.prog Try.f5 false true false false) := by
  refine returnsInHanded_of_cond (C := Try.checked) (s := Rows.OpenSpec.upto Rows.helpSumsSpec) (k := Rows.uptoSmall) rfl own started (by kernel_rfl) Try.func5
    (OpenSpec.witness (enc := enc) (C := Try.checked) (s := Rows.OpenSpec.upto Rows.helpSumsSpec) (k := Rows.uptoSmall) rfl false ⟨#[], #[.slice none 0 0, .int .i64 0], []⟩ 8 (by kernel_rfl) (by kernel_rfl) (by kernel_rfl)
      (x := ([.nil, .lit (.int .i64 0)], [], [])) (by kernel_rfl) rfl (by kernel_rfl)) ?_
  intro W base args ds gs before hval0 hW _ hk _
  have hval : ∀ (j : Nat) t v, Try.f5.params[j]? = some t → args[j]? = some v → Value.okWide Try.prog W .any base t v := hval0
  have hW' := hW
  obtain ⟨p, q, hAA, hV, rfl, hfz, hnd⟩ := hW
  have hA : DataW.TrodAll enc Try.prog W 0 (fun _ => true) true Try.f5.params.toList args.toList ds p := hAA
  rw [Try.params5] at hA hval
  obtain ⟨v0, vs0, d0, ds0, p0, q0, hargs, rfl, rfl, h0, r0⟩ := trodAll_cons hA
  obtain ⟨v1, vs1, d1, ds1, p1, q1, rfl, rfl, rfl, h1, r1⟩ := trodAll_cons r0
  obtain ⟨rfl, rfl, rfl⟩ := trodAll_nil r1
  obtain rfl : args = #[v0, v1] := by cases args; simp_all
  obtain ⟨rfl, rfl⟩ := trodVars_none hV
  obtain ⟨A0, n0, c0, L0, rfl, hL0, hY0, hA0, hm0, hmc0, hn0, hsp0, hd0⟩ := open_bytes (hval 0 37 v0 rfl rfl) h0
  have hr0 : n0 ≤ c0 ∧ c0 ≤ maxLen ∧ n0 ≤ 1048576 := by
    refine ⟨hn0, hmc0, ?_⟩
    rcases hd0 with ⟨_, h, _⟩ | ⟨zs, hz, hc, rfl⟩
    · omega
    · have hb := of_decide_eq_true hk
      have := bulk_slice _ _ _ _ hb
      simp only [lits, List.length_map, List.length_take] at this
      omega
  obtain ⟨a1, rfl, rfl, rfl, w1⟩ := open_int Try.underlying3 (hval 1 3 v1 rfl rfl) h1
  clear hAA
  refine (helpSums_walk W A0 n0 c0 L0 hL0 hr0 hY0 hA0 a1 (bounds_i64 w1)).mono fun e W' ⟨he, hb⟩ => ?_
  subst he
  exact ⟨_, rfl, law_post laidOut Try.underlying4 rfl rfl (by decide +kernel) hW' rfl hb⟩
theorem helpSums_over : Rows.helpSumsUptoRow.holds Try.pinned (Rows.OpenSpec.upto Rows.helpSumsSpec) :=
  OpenClaim.holds_of_cond 5 Try.f5 rfl rfl rfl rfl rfl rfl rfl ⟨rfl, rfl, rfl, rfl, rfl⟩ rfl rfl rfl rfl rfl (by kernel_rfl) Try.func5 (by kernel_rfl)
    (of_decide_eq_true (by kernel_rfl)) (by unfold Func.isWrapper; first | (rw [if_pos (by decide +kernel)]; kernel_rfl) | (rw [if_neg (by decide +kernel)]; exact ⟨rfl, rfl⟩))
    (fun os started H enc _ F => helpSums_lifted os started H enc F)
theorem helpSums_proved : Rows.HelpSumsUptoSaid := helpSums_over
#print axioms helpSums_proved
end Go.Proofs.Ytmdblhgnncfooaa
