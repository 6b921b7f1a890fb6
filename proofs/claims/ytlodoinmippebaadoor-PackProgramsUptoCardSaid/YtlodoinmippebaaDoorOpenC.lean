/- A slice of instructions that came in: its cells. -/
import Derived.Test.YtlodoinmippebaaDoorEnd
import Derived.Test.YtlodoinmippebaaDoorCodeV
import Derived.Deep.Slices
import Derived.SizedLaws
namespace Go.Proofs.YtlodoinmippebaaDoor
open Go.ChangeShapes Go.WideShapes Go.ChangeAt Go.RowKit Go.Deep
open Cod Bits
set_option linter.unusedVariables false
set_option linter.unusedSimpArgs false
set_option maxRecDepth 100000
instance : Inhabited Ins := ⟨⟨0, false, false, 0, 0, 0, 0, 0⟩⟩
section
variable {H : Type} {enc : TypeId × Value → H}
theorem open_bytes {W : World} {base : Nat} {v1 : Value} {d1 : DataW H} {p1 : List MemPlace} (hval : Value.okWide Tryd.prog W .any base 22 v1) (h1 : DataW.Trod enc Tryd.prog W 0 (fun _ => true) true 22 v1 d1 p1) :
    ∃ (A : Option Addr) (n c : Nat) (L : List Int), v1 = .slice A n c ∧ L.length = n ∧ Byt L ∧ BytesAt W A L ∧ n ≤ maxLen ∧
      ((d1 = .nil ∧ n = 0) ∨ ∃ zs : List Int, zs.length = c ∧ n ≤ c ∧ d1 = .slice (lits .u8 (zs.take n)) (lits .u8 (zs.drop n))) := by
  obtain ⟨a1, len, cap, rfl⟩ := okWide_slice Tryd.underlying22 hval
  obtain ⟨fuel, hf⟩ := h1
  rcases open_ints Tryd.underlying22 Tryd.underlying5 (by kernel_rfl) hf with ⟨hcs, hx⟩ | ⟨a, len', cap', zs, hcs, _, hl, hm, hz, hx, hcell, hwz⟩
  · simp [Value.cells] at hcs
    obtain ⟨rfl, rfl, rfl⟩ := hcs
    simp only [Prod.mk.injEq] at hx
    obtain ⟨rfl, rfl⟩ := hx
    exact ⟨none, 0, 0, [], rfl, rfl, (fun x hx => by simp at hx), (fun h => by simp at h), Nat.zero_le _, .inl ⟨rfl, rfl⟩⟩
  · simp [Value.cells] at hcs
    obtain ⟨rfl, rfl, rfl⟩ := hcs
    simp only [Prod.mk.injEq] at hx
    obtain ⟨rfl, rfl⟩ := hx
    simp only [if_true] at hz
    refine ⟨some a, len, cap, zs.take len, rfl, by simp; omega, fun x hx => ?_, fun hp => ?_, by omega, .inr ⟨zs, hz, hl, rfl⟩⟩
    · have hb := hwz x (List.mem_of_mem_take hx)
      simp only [Lit.wf, IntKind.min, IntKind.max, IntKind.signed, IntKind.bits, Bool.and_eq_true, decide_eq_true_eq] at hb
      simp at hb
      omega
    · have hpos : 0 < zs.length := by simp at hp; omega
      obtain ⟨ab, ao, spot⟩ := a
      have hspot : spot = none := by simpa [Addr.add] using World.cell?_spot (hcell 0 hpos)
      subst hspot
      refine ⟨ab, ao, rfl, ?_, fun i hi => ?_⟩
      · have h0 := hcell 0 hpos
        rw [Addr.add_lit] at h0
        rcases Nat.lt_or_ge ab W.heap.size with h2 | h2
        · exact h2
        · exfalso
          simp [World.cell?, Array.getElem?_eq_none h2] at h0
      · have hi' : i < len := by simp at hi; omega
        have hci := hcell i (by omega)
        rw [Addr.add_lit] at hci
        rw [hci]
        simp [List.getD_eq_getElem?_getD, List.getElem?_take, hi']
theorem ins_of_cells {W : World} {n : Nat} {cs : List Value} {x : DataW H × List MemPlace} (hlen : cs.length = 8) (h : DataW.trod enc Tryd.prog W 0 (fun _ => true) true n 71 cs = some x) : ∃ i : Ins, i.rng ∧ cs = i.cells := by
  obtain ⟨xs, k, hk, hxy, _, hxl, hf⟩ := DataW.trod_struct Tryd.underlying71 h
  have c3 : Tryd.prog.cellsOf 3 = 1 := by kernel_rfl
  have c4 : Tryd.prog.cellsOf 4 = 1 := by kernel_rfl
  match xs, hxl, cs, hlen with
  | [y0, y1, y2, y3, y4, y5, y6, y7], _, [v0, v1, v2, v3, v4, v5, v6, v7], _ =>
    have g0 := hf 0 _ rfl
    have g1 := hf 1 _ rfl
    have g2 := hf 2 _ rfl
    have g3 := hf 3 _ rfl
    have g4 := hf 4 _ rfl
    have g5 := hf 5 _ rfl
    have g6 := hf 6 _ rfl
    have g7 := hf 7 _ rfl
    simp [c3, c4] at g0 g1 g2 g3 g4 g5 g6 g7
    obtain ⟨n0, e0, -, -⟩ := DataW.trod_int Tryd.underlying3 g0
    obtain ⟨n1, e1, -⟩ := DataW.trod_bool Tryd.underlying4 g1
    obtain ⟨n2, e2, -⟩ := DataW.trod_bool Tryd.underlying4 g2
    obtain ⟨n3, e3, -, -⟩ := DataW.trod_int Tryd.underlying3 g3
    obtain ⟨n4, e4, -, -⟩ := DataW.trod_int Tryd.underlying3 g4
    obtain ⟨n5, e5, -, -⟩ := DataW.trod_int Tryd.underlying3 g5
    obtain ⟨n6, e6, -, -⟩ := DataW.trod_int Tryd.underlying3 g6
    obtain ⟨n7, e7, -, w7⟩ := DataW.trod_int Tryd.underlying3 g7
    simp only [List.cons.injEq, and_true] at e0 e1 e2 e3 e4 e5 e6 e7
    refine ⟨⟨n0, n1, n2, n3, n4, n5, n6, n7⟩, ?_, by rw [e0, e1, e2, e3, e4, e5, e6, e7]; rfl⟩
    simp only [Lit.wf, IntKind.min, IntKind.max, IntKind.signed, IntKind.bits, Bool.and_eq_true, decide_eq_true_eq] at w7
    simp at w7
    unfold Ins.rng
    show -9223372036854775808 ≤ n7 ∧ n7 < 9223372036854775808
    omega
theorem open_code {W : World} {base : Nat} {v1 : Value} {d1 : DataW H} {p1 : List MemPlace} (hval : Value.okWide Tryd.prog W .any base 31 v1) (h1 : DataW.Trod enc Tryd.prog W 0 (fun _ => true) true 31 v1 d1 p1) :
    ∃ (A : Option Addr) (n c : Nat) (L : List Ins), v1 = .slice A n c ∧ L.length = n ∧ (∀ i ∈ L, i.rng) ∧ CodeAt W A L ∧ n ≤ c ∧
      ((d1 = .nil ∧ n = 0) ∨ ∃ xs ys : List (DataW H), xs.length = n ∧ d1 = .slice xs ys) := by
  obtain ⟨a1, len, cap, rfl⟩ := okWide_slice Tryd.underlying31 hval
  obtain ⟨fuel, hf⟩ := h1
  rcases open_slice Tryd.underlying31 hf with ⟨hcs, hx⟩ | ⟨a, len', cap', m, n, D, Pl, hcs, _, hl, hm, hmm, hx, hel⟩
  · simp [Value.cells] at hcs
    obtain ⟨rfl, rfl, rfl⟩ := hcs
    simp only [Prod.mk.injEq] at hx
    obtain ⟨rfl, rfl⟩ := hx
    exact ⟨none, 0, 0, [], rfl, rfl, (fun x hx => by simp at hx), (fun h => by simp at h), Nat.le_refl _, .inl ⟨rfl, rfl⟩⟩
  · simp [Value.cells] at hcs
    obtain ⟨rfl, rfl, rfl⟩ := hcs
    simp only [Prod.mk.injEq] at hx
    obtain ⟨rfl, rfl⟩ := hx
    simp only [if_true] at hmm
    subst hmm
    have c8 : Tryd.prog.cellsOf 71 = 8 := by kernel_rfl
    rw [c8] at hel
    obtain ⟨I, hI⟩ := choose_lt (α := Ins) (n := m) (p := fun j i => i.rng ∧ ∀ k (hk : k < 8), W.cell? (a.add (j * 8 + k)) = i.cells[k]?) (fun j hj => by
      obtain ⟨cs', k1, k2⟩ := hel j hj
      obtain ⟨_, hlen, hcell⟩ := World.cells?_some k1
      obtain ⟨i, hr, rfl⟩ := ins_of_cells hlen k2
      refine ⟨i, hr, fun k hk => ?_⟩
      have := hcell k (by omega)
      rw [add_add] at this
      exact this)
    refine ⟨some a, len, m, (List.range len).map I, rfl, by simp, fun i hi => ?_, fun hp => ?_, hl, .inr ⟨_, _, by simp, rfl⟩⟩
    · obtain ⟨j, hj, rfl⟩ := List.mem_map.1 hi
      exact (hI j (by have := List.mem_range.1 hj; omega)).1
    · have hpos : 0 < len := by simpa using hp
      obtain ⟨ab, ao, spot⟩ := a
      have h00 := (hI 0 (by omega)).2 0 (by decide)
      have hspot : spot = none := by simpa [Addr.add] using World.cell?_spot (show W.cell? _ = some _ from h00)
      subst hspot
      rw [Addr.add_lit] at h00
      refine ⟨ab, ao, rfl, ?_, fun j i hi => ?_⟩
      · rcases Nat.lt_or_ge ab W.heap.size with h2 | h2
        · exact h2
        · exfalso
          simp [World.cell?, Array.getElem?_eq_none h2, Ins.cells] at h00
      · have hj : j < len := by
          rcases Nat.lt_or_ge j len with h2 | h2
          · exact h2
          · rw [List.getElem?_eq_none (by simpa using h2)] at hi; cases hi
        have hii : I j = i := by
          rw [List.getElem?_map, List.getElem?_range hj] at hi
          exact Option.some.inj hi
        have key : ∀ k, k < 8 → W.cell? ⟨ab, ao + j * 8 + k, none⟩ = i.cells[k]? := fun k hk => by
          have := (hI j (by omega)).2 k hk
          rw [Addr.add_lit, hii, ← Nat.add_assoc] at this
          exact this
        exact ⟨key 0 (by decide), key 1 (by decide), key 2 (by decide), key 3 (by decide), key 4 (by decide), key 5 (by decide), key 6 (by decide), key 7 (by decide)⟩
end
end Go.Proofs.YtlodoinmippebaaDoor
