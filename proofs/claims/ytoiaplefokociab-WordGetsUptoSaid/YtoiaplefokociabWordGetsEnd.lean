/- WordGets, where what it reads is of bulk at most 1048576: the law returns true, and its argument reads behind the call as it read before. Condition: the row's own bound on the bulk (with 2^46 bytes and more the law itself asks for a slice of over 2^48 bytes). -/
import Derived.Test.YtoiaplefokociabEnd
import Derived.Test.YtoiaplefokociabGetsLaw
import Derived.Test.YtoiaplefokociabOpenB
import Derived.SizedLaws
import Derived.JoinedCond
namespace Go.Proofs.Ytoiaplefokociab
open Go.ChangeShapes Go.WideShapes Go.ChangeAt Go.RowKit

theorem bulk_len {H : Type} : ∀ (l : List (DataW H)), l.length ≤ Rows.uptoBulkAll l
  | [] => by simp [Rows.uptoBulkAll]
  | d :: r => by
    have h1 : 1 ≤ Rows.uptoBulk d := by
      cases d with
      | lit l => cases l <;> simp [Rows.uptoBulk]
      | nil => simp [Rows.uptoBulk]
      | ptr d => simp [Rows.uptoBulk]
      | slice a b => simp [Rows.uptoBulk]
      | agg p => simp [Rows.uptoBulk]
      | iface t d => simp [Rows.uptoBulk]
      | map m => simp [Rows.uptoBulk]
      | held h => simp [Rows.uptoBulk]
    have h2 := bulk_len r
    simp only [Rows.uptoBulkAll, List.length_cons]
    omega
theorem bulk_slice {H : Type} (a b : List (DataW H)) (k : Nat) (h : Rows.uptoBulkAll [DataW.slice a b] ≤ k) : a.length ≤ k := by
  have h1 := bulk_len a
  simp only [Rows.uptoBulkAll, Rows.uptoBulk] at h
  omega

set_option maxRecDepth 100000 in
theorem wordGets_lifted (os : Os) (started : os.Started) (H : Type) (enc : TypeId × Value → H) (F : Stop.Interp) :
    ReturnsInHanded {} Try.checked os 4 .any ((Rows.OpenSpec.upto Rows.wordGetsSpec).pre6 enc Try.prog Try.f4 Rows.wordGetsUptoRow.domain false) (((Rows.OpenSpec.upto Rows.wordGetsSpec).at F).post enc Try.prog Try.f4 false true false false) := by
  refine returnsInHanded_of_cond (C := Try.checked) (s := Rows.OpenSpec.upto Rows.wordGetsSpec) (k := Rows.uptoSmall) rfl own started (by kernel_rfl) Try.func4
    (OpenSpec.witness (enc := enc) (C := Try.checked) (s := Rows.OpenSpec.upto Rows.wordGetsSpec) (k := Rows.uptoSmall) rfl false ⟨#[], #[.slice none 0 0], []⟩ 8 (by kernel_rfl) (by kernel_rfl) (by kernel_rfl)
      (x := ([.nil], [], [])) (by kernel_rfl) rfl (by kernel_rfl)) ?_
  intro W base args ds gs before hval0 hW _ hk _
  have hval : ∀ (j : Nat) t v, Try.f4.params[j]? = some t → args[j]? = some v → Value.okWide Try.prog W .any base t v := hval0
  have hW' := hW
  obtain ⟨p, q, hA0, hV, rfl, hfz, hnd⟩ := hW
  have hA : DataW.TrodAll enc Try.prog W 0 (fun _ => true) true Try.f4.params.toList args.toList ds p := hA0
  rw [Try.params4] at hA hval
  obtain ⟨v0, vs0, d0, ds0, p0, q0, hargs, rfl, rfl, h0, r0⟩ := trodAll_cons hA
  obtain ⟨rfl, rfl, rfl⟩ := trodAll_nil r0
  obtain rfl : args = #[v0] := by cases args; simp_all
  obtain ⟨rfl, rfl⟩ := trodVars_none hV
  obtain ⟨A1, n1, c1, L1, rfl, hL1, hY1, hA1, hm1, hd1⟩ := open_bytes (hval 0 26 v0 rfl rfl) h0
  have hr1 : n1 ≤ 1048576 ∧ n1 ≤ c1 := by
    rcases hd1 with ⟨_, h⟩ | ⟨zs, hz, hc, rfl⟩
    · omega
    · have hb := of_decide_eq_true hk
      have := bulk_slice _ _ _ hb
      simp only [lits, List.length_map, List.length_take] at this
      omega
  clear hA0
  refine (wordGets_walk A1 n1 c1 L1 hL1 hr1.1 hY1 hr1.2 W hA1).mono fun e W' ⟨he, hb⟩ => ?_
  subst he
  exact ⟨_, rfl, law_post laidOut Try.underlying4 rfl rfl (by decide +kernel) hW' rfl hb⟩

theorem wordGets_over : Rows.wordGetsUptoRow.holds Try.pinned (Rows.OpenSpec.upto Rows.wordGetsSpec) :=
  OpenClaim.holds_of_cond 4 Try.f4 rfl rfl rfl rfl rfl rfl rfl ⟨rfl, rfl, rfl, rfl, rfl⟩ rfl rfl rfl rfl rfl (by kernel_rfl) Try.func4 (by kernel_rfl)
    (of_decide_eq_true (by kernel_rfl)) (by unfold Func.isWrapper; first | (rw [if_pos (by decide +kernel)]; kernel_rfl) | (rw [if_neg (by decide +kernel)]; exact ⟨rfl, rfl⟩))
    (fun os started H enc _ F => wordGets_lifted os started H enc F)

theorem wordGets_proved : Rows.WordGetsUptoSaid := wordGets_over
#print axioms wordGets_proved
end Go.Proofs.Ytoiaplefokociab
