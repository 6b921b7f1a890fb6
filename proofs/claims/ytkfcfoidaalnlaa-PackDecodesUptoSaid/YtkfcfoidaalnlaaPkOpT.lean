/- Package pack: bytes and numbers that came in, of bounded bulk. -/
import Derived.Test.YtkfcfoidaalnlaaPkOpV
import Derived.Test.YtkfcfoidaalnlaaPkRl
namespace Go.Proofs.Ytkfcfoidaalnlaa.Pak
open Go.ChangeShapes Go.WideShapes Go.ChangeAt Go.RowKit Go.Deep
set_option linter.unusedVariables false
set_option linter.unusedSimpArgs false
set_option maxRecDepth 100000
section
variable {H : Type} {enc : TypeId × Value → H}
theorem open_bytesT {W : World} {base : Nat} {v1 : Value} {d1 : DataW H} {p1 : List MemPlace} (hval : Value.okWide Try.prog W .any base 22 v1) (h1 : DataW.Trod enc Try.prog W 0 (fun _ => true) true 22 v1 d1 p1) :
    ∃ (A : Option Addr) (n c : Nat) (L : List Int), v1 = .slice A n c ∧ Sl W A n c L ∧ Bytes L ∧ (Rows.uptoBulk d1 ≤ 1048576 → n ≤ 1048576) := by
  obtain ⟨a1, len, cap, rfl⟩ := okWide_slice Try.underlying22 hval
  obtain ⟨fuel, hf⟩ := h1
  obtain ⟨A, n, c, L, hcs, hL, hY, hA, hc, hd⟩ := bytes_of_cells hf
  simp [Value.cells] at hcs
  obtain ⟨rfl, rfl, rfl⟩ := hcs
  refine ⟨a1, len, cap, L, rfl, ⟨Lib.hid hL, hc, hA, cell_block hval⟩, hY, fun hw => ?_⟩
  rcases hd with ⟨_, h0⟩ | ⟨zs, hz, hcc, hy⟩
  · omega
  · have h5 := bulk_len (lits (H := H) .u8 (zs.take len))
    change d1 = _ at hy
    rw [hy] at hw
    simp only [Rows.uptoBulk] at hw
    simp only [lits, List.length_map, List.length_take] at h5
    simp only [lits] at hw
    omega
theorem open_turnT {W : World} {base : Nat} {v1 : Value} {d1 : DataW H} {p1 : List MemPlace} (hval : Value.okWide Try.prog W .any base 31 v1) (h1 : DataW.Trod enc Try.prog W 0 (fun _ => true) true 31 v1 d1 p1) :
    ∃ (A : Option Addr) (n c : Nat), v1 = .slice A n c ∧ TurnAt W A n ∧ (Rows.uptoBulk d1 ≤ 1048576 → n ≤ 1048576) := by
  obtain ⟨a1, len, cap, rfl⟩ := okWide_slice Try.underlying31 hval
  obtain ⟨fuel, hf⟩ := h1
  rcases open_ints Try.underlying31 Try.underlying3 (by kernel_rfl) hf with ⟨hcs, hx⟩ | ⟨a, len', cap', zs, hcs, _, hl, hm, hz, hx, hcell, hwz⟩
  · simp [Value.cells] at hcs
    obtain ⟨rfl, rfl, rfl⟩ := hcs
    exact ⟨none, 0, 0, rfl, ⟨fun i hi => by omega⟩, fun _ => by omega⟩
  · simp [Value.cells] at hcs
    obtain ⟨rfl, rfl, rfl⟩ := hcs
    simp only [Prod.mk.injEq] at hx
    obtain ⟨rfl, rfl⟩ := hx
    simp only [if_true] at hz
    refine ⟨some a, len, cap, rfl, ⟨fun i hi => ?_⟩, fun hw => ?_⟩
    · have hpos : 0 < zs.length := by omega
      obtain ⟨ab, ao, spot⟩ := a
      have hspot : spot = none := by simpa [Addr.add] using World.cell?_spot (hcell 0 hpos)
      subst hspot
      have hci := hcell i (by omega)
      rw [Addr.add_lit] at hci
      have hw := hwz (zs[i]?.getD 0) (by rw [List.getElem?_eq_getElem (by omega)]; exact List.getElem_mem _)
      simp only [Lit.wf, IntKind.min, IntKind.max, IntKind.signed, IntKind.bits, Bool.and_eq_true, decide_eq_true_eq] at hw
      simp at hw
      refine ⟨ab, ao, zs[i]?.getD 0, rfl, ?_, ?_, by omega, by omega⟩
      · have h0 := hcell 0 hpos
        rw [Addr.add_lit] at h0
        rcases Nat.lt_or_ge ab W.heap.size with h2 | h2
        · exact h2
        · exfalso
          simp [World.cell?, Array.getElem?_eq_none h2] at h0
      · rw [hci]
        simp [List.getD_eq_getElem?_getD]
    · have h5 := bulk_len (lits (H := H) .i64 (zs.take len))
      simp only [Rows.uptoBulk] at hw
      simp only [lits, List.length_map, List.length_take] at h5
      simp only [lits] at hw
      omega
end
end Go.Proofs.Ytkfcfoidaalnlaa.Pak
