/- Package deed: a slice of bytes that came in: its cells, its block. -/
import Derived.Test.YtbomihdnnidelaaEnd
import Derived.Test.YtbomihdnnidelaaDSf
import Derived.Deep.Slices
import Derived.SizedLaws
namespace Go.Proofs.Ytbomihdnnidelaa
open Go.ChangeShapes Go.WideShapes Go.ChangeAt Go.RowKit Go.Deep
set_option linter.unusedVariables false
set_option linter.unusedSimpArgs false
set_option maxRecDepth 100000
section
variable {H : Type} {enc : TypeId × Value → H}
theorem open_bytes {W : World} {base : Nat} {v1 : Value} {d1 : DataW H} {p1 : List MemPlace} (hval : Value.okWide Try.prog W .any base 28 v1) (h1 : DataW.Trod enc Try.prog W 0 (fun _ => true) true 28 v1 d1 p1) :
    ∃ (A : Option Addr) (n c : Nat) (L : List Int), v1 = .slice A n c ∧ L.length = n ∧ Byt L ∧ BytesAt W A L ∧ n ≤ maxLen ∧
      ((d1 = .nil ∧ n = 0) ∨ ∃ zs : List Int, zs.length = c ∧ n ≤ c ∧ d1 = .slice (lits .u8 (zs.take n)) (lits .u8 (zs.drop n))) := by
  obtain ⟨a1, len, cap, rfl⟩ := okWide_slice Try.underlying28 hval
  obtain ⟨fuel, hf⟩ := h1
  rcases open_ints Try.underlying28 Try.underlying5 (by kernel_rfl) hf with ⟨hcs, hx⟩ | ⟨a, len', cap', zs, hcs, _, hl, hm, hz, hx, hcell, hwz⟩
  · simp [Value.cells] at hcs
    obtain ⟨rfl, rfl, rfl⟩ := hcs
    simp only [Prod.mk.injEq] at hx
    obtain ⟨rfl, rfl⟩ := hx
    exact ⟨none, 0, 0, [], rfl, rfl, (fun x hx => by simp at hx), (fun h => by simp at h), Nat.zero_le _, .inl ⟨rfl, rfl⟩⟩
  · simp [Value.cells] at hcs
    obtain ⟨rfl, rfl, rfl⟩ := hcs
    simp only [Prod.mk.injEq] at hx
    obtain ⟨rfl, rfl⟩ := hx
    simp only [if_true] at hz
    refine ⟨some a, len, cap, zs.take len, rfl, by simp; omega, fun x hx => ?_, fun hp => ?_, by omega, .inr ⟨zs, hz, hl, rfl⟩⟩
    · have hb := hwz x (List.mem_of_mem_take hx)
      simp only [Lit.wf, IntKind.min, IntKind.max, IntKind.signed, IntKind.bits, Bool.and_eq_true, decide_eq_true_eq] at hb
      simp at hb
      omega
    · have hpos : 0 < zs.length := by simp at hp; omega
      obtain ⟨ab, ao, spot⟩ := a
      have hspot : spot = none := by simpa [Addr.add] using World.cell?_spot (hcell 0 hpos)
      subst hspot
      refine ⟨ab, ao, rfl, ?_, fun i hi => ?_⟩
      · have h0 := hcell 0 hpos
        rw [Addr.add_lit] at h0
        rcases Nat.lt_or_ge ab W.heap.size with h2 | h2
        · exact h2
        · exfalso
          simp [World.cell?, Array.getElem?_eq_none h2] at h0
      · have hi' : i < len := by simp at hi; omega
        have hci := hcell i (by omega)
        rw [Addr.add_lit] at hci
        rw [hci]
        simp [List.getD_eq_getElem?_getD, List.getElem?_take, hi']
end
theorem slice_block {W : World} {base : Nat} {t e : TypeId} (ht : Try.prog.underlying t = some (.slice e)) {A : Option Addr} {n c : Nat} (h : Value.okWide Try.prog W .any base t (.slice A n c)) : ∀ b off, A = some ⟨b, off, none⟩ → b < W.heap.size := by
  rintro b off rfl
  simp only [Value.okWide, ht, Cell.okWide, Cell.ok, World.has, World.shape?] at h
  obtain ⟨_, _, _, _, row, cells, hs, _⟩ := h
  rcases Nat.lt_or_ge b W.heap.size with h1 | h1
  · exact h1
  · rw [Array.getElem?_eq_none h1] at hs
    simp at hs
theorem byt_deed {L : List Int} (h : Byt L) : Dee.Bytes L := fun x hx => by have := h x hx; unfold Dee.IsB; omega
end Go.Proofs.Ytbomihdnnidelaa
