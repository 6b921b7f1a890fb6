/- The law's turned; the order of bounds makes no difference. -/
import Derived.Test.YtejcijbohnlbgaaZRc
import Derived.Test.YtejcijbohnlbgaaZLw
import Derived.Test.YtejcijbohnlbgaaZI
namespace Go.Proofs.Ytejcijbohnlbgaa
open Go.ChangeShapes Go.WideShapes Go.ChangeAt Go.RowKit
open Zon
set_option linter.unusedVariables false
set_option maxRecDepth 100000
theorem same_perm {L K : List Con} (hL : SmallR L) (hLK : ∀ x, x ∈ L ↔ x ∈ K) : sameZB (withZ (some topT) L) (withZ (some topT) K) = true := by
  have hK : SmallR K := fun x hx => hL x ((hLK x).mpr hx)
  rcases with_cl L hL with ⟨M, h1, h2⟩ | ⟨h1, r1⟩ <;> rcases with_cl K hK with ⟨N, g1, g2⟩ | ⟨g1, r2⟩
  · rw [h1, g1]; exact sameTB_true.mpr (h2.uniq g2 hL.small hL.right hLK)
  · exact absurd (r2.mono fun x hx => (hLK x).mpr hx) (h2.noRound hL.small hL.right)
  · exact absurd (r1.mono fun x hx => (hLK x).mp hx) (g2.noRound hK.small hK.right)
  · rw [h1, g1]; rfl
theorem same_close {L : List Con} (hL : SmallR L) : sameZB (withZ (some topT) L) (closeZ L) = true := by
  have h := close_cl L hL
  cases e1 : closeZ L with
  | none =>
    cases e2 : withZ (some topT) L with
    | none => rfl
    | some M => rw [e1, e2] at h; exact h.elim
  | some N =>
    cases e2 : withZ (some topT) L with
    | none => rw [e1, e2] at h; exact h.elim
    | some M => rw [e1, e2] at h; exact sameTB_true.mpr fun p q hp hq => (h p q hp hq).symm
theorem same_void {z o : Zn} (h : sameZB z o = true) : voidB z = voidB o := by
  cases z <;> cases o
  · rfl
  · cases h
  · cases h
  · rfl
theorem smallR_perm {L K : List Con} (h : SmallR L) (hs : ∀ x ∈ K, x ∈ L) : wrongL K = 0 := wrongL_all fun x hx => (h x (hs x hx)).1
end Go.Proofs.Ytejcijbohnlbgaa
