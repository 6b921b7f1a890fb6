/- A slice of bytes that came in: its cells. -/
import Derived.Test.YtmdblhgnncfooaaEnd
import Derived.Test.YtmdblhgnncfooaaCore
import Derived.Deep.Slices
import Derived.SizedLaws
namespace Go.Proofs.Ytmdblhgnncfooaa
open Go.ChangeShapes Go.WideShapes Go.ChangeAt Go.RowKit Go.Deep
set_option linter.unusedVariables false
set_option linter.unusedSimpArgs false
set_option maxRecDepth 100000
section
variable {H : Type} {enc : TypeId × Value → H}
theorem open_bytes {W : World} {base : Nat} {v1 : Value} {d1 : DataW H} {p1 : List MemPlace} (hval : Value.okWide Try.prog W .any base 37 v1) (h1 : DataW.Trod enc Try.prog W 0 (fun _ => true) true 37 v1 d1 p1) :
    ∃ (A : Option Addr) (n c : Nat) (L : List Int), v1 = .slice A n c ∧ L.length = n ∧ Byt L ∧ BytesAt W A L ∧ n ≤ maxLen ∧ c ≤ maxLen ∧ n ≤ c ∧ (0 < c → ∃ b off, A = some ⟨b, off, none⟩) ∧
      ((d1 = .nil ∧ n = 0 ∧ c = 0) ∨ ∃ zs : List Int, zs.length = c ∧ n ≤ c ∧ d1 = .slice (lits .u8 (zs.take n)) (lits .u8 (zs.drop n))) := by
  obtain ⟨a1, len, cap, rfl⟩ := okWide_slice Try.underlying37 hval
  obtain ⟨fuel, hf⟩ := h1
  rcases open_ints Try.underlying37 Try.underlying5 (by kernel_rfl) hf with ⟨hcs, hx⟩ | ⟨a, len', cap', zs, hcs, _, hl, hm, hz, hx, hcell, hwz⟩
  · simp [Value.cells] at hcs
    obtain ⟨rfl, rfl, rfl⟩ := hcs
    simp only [Prod.mk.injEq] at hx
    obtain ⟨rfl, rfl⟩ := hx
    exact ⟨none, 0, 0, [], rfl, rfl, (fun x hx => by simp at hx), (fun h => by simp at h), Nat.zero_le _, Nat.zero_le _, Nat.le_refl _, (fun h => absurd h (Nat.lt_irrefl 0)), .inl ⟨rfl, rfl, rfl⟩⟩
  · simp [Value.cells] at hcs
    obtain ⟨rfl, rfl, rfl⟩ := hcs
    simp only [Prod.mk.injEq] at hx
    obtain ⟨rfl, rfl⟩ := hx
    simp only [if_true] at hz
    refine ⟨some a, len, cap, zs.take len, rfl, by simp; omega, fun x hx => ?_, fun hp => ?_, by omega, by omega, hl, fun hc => ?_, .inr ⟨zs, hz, hl, rfl⟩⟩
    · have hb := hwz x (List.mem_of_mem_take hx)
      simp only [Lit.wf, IntKind.min, IntKind.max, IntKind.signed, IntKind.bits, Bool.and_eq_true, decide_eq_true_eq] at hb
      simp at hb
      omega
    · have hpos : 0 < zs.length := by simp at hp; omega
      obtain ⟨ab, ao, spot⟩ := a
      have hspot : spot = none := by simpa [Addr.add] using World.cell?_spot (hcell 0 hpos)
      subst hspot
      refine ⟨ab, ao, rfl, ?_, fun i hi => ?_⟩
      · have h0 := hcell 0 hpos
        rw [Addr.add_lit] at h0
        rcases Nat.lt_or_ge ab W.heap.size with h2 | h2
        · exact h2
        · exfalso
          simp [World.cell?, Array.getElem?_eq_none h2] at h0
      · have hi' : i < len := by simp at hi; omega
        have hci := hcell i (by omega)
        rw [Addr.add_lit] at hci
        rw [hci]
        simp [List.getD_eq_getElem?_getD, List.getElem?_take, hi']
    · obtain ⟨ab, ao, spot⟩ := a
      have hspot : spot = none := by simpa [Addr.add] using World.cell?_spot (hcell 0 (by omega))
      exact ⟨ab, ao, by rw [hspot]⟩
end
end Go.Proofs.Ytmdblhgnncfooaa
