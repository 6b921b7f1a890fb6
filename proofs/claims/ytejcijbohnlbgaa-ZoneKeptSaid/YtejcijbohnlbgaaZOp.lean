/- The law's call, handed in as a struct: its cells. -/
import Derived.Test.YtejcijbohnlbgaaZCo
namespace Go.Proofs.Ytejcijbohnlbgaa
open Go.ChangeShapes Go.WideShapes Go.ChangeAt Go.RowKit Go.Deep
open Zon
set_option linter.unusedVariables false
set_option linter.unusedSimpArgs false
set_option maxRecDepth 100000
section
variable {H : Type} {enc : TypeId × Value → H}
theorem nums_of_cells {W : World} {fuel : Nat} {cs : List Value} {x : DataW H × List MemPlace} (hf : DataW.trod enc Try.prog W 0 (fun _ => true) true fuel 23 cs = some x) :
    ∃ (A : Option Addr) (n c : Nat) (L : List Int), cs = [.slice A n c] ∧ L.length = n ∧ (∀ x ∈ L, I64 x) ∧ NumsAt W A L ∧ n ≤ c ∧
      ((x.1 = .nil ∧ n = 0) ∨ ∃ zs : List Int, zs.length = c ∧ n ≤ c ∧ x.1 = .slice (lits .i64 (zs.take n)) (lits .i64 (zs.drop n))) := by
  rcases open_ints Try.underlying23 Try.underlying3 (by kernel_rfl) hf with ⟨hcs, hx⟩ | ⟨a, len, cap, zs, hcs, _, hl, hm, hz, hx, hcell, hwz⟩
  · subst hcs; subst hx
    exact ⟨none, 0, 0, [], rfl, rfl, (fun x hx => by simp at hx), (fun h => by simp at h), Nat.zero_le _, .inl ⟨rfl, rfl⟩⟩
  · subst hcs; subst hx
    simp only [if_true] at hz
    refine ⟨some a, len, cap, zs.take len, rfl, by simp; omega, fun x hx => ?_, fun hp => ?_, by omega, .inr ⟨zs, hz, hl, rfl⟩⟩
    · exact i64_wf (hwz x (List.mem_of_mem_take hx))
    · have hpos : 0 < zs.length := by simp at hp; omega
      obtain ⟨ab, ao, spot⟩ := a
      have hspot : spot = none := by simpa [Addr.add] using World.cell?_spot (hcell 0 hpos)
      subst hspot
      refine ⟨ab, ao, rfl, ?_, fun i x hi => ?_⟩
      · have h0 := hcell 0 hpos
        rw [Addr.add_lit] at h0
        rcases Nat.lt_or_ge ab W.heap.size with h2 | h2
        · exact h2
        · exfalso
          simp [World.cell?, Array.getElem?_eq_none h2] at h0
      · have hi' : i < len := by
          rcases Nat.lt_or_ge i len with h2 | h2
          · exact h2
          · rw [List.getElem?_eq_none (by simp; omega)] at hi; cases hi
        rw [List.getElem?_take, if_pos hi'] at hi
        have hci := hcell i (by omega)
        rw [Addr.add_lit] at hci
        rw [hci]
        simp [List.getD_eq_getElem?_getD, hi]
theorem slice_of_cells {W : World} {fuel : Nat} {t e : TypeId} (ht : Try.prog.underlying t = some (.slice e)) {cs : List Value} {x : DataW H × List MemPlace} (hf : DataW.trod enc Try.prog W 0 (fun _ => true) true fuel t cs = some x) : ∃ A n c, cs = [.slice A n c] := by
  rcases DataW.trod_slice ht hf with ⟨hcs, _⟩ | ⟨a, len, cap, _, _, _, _, hcs, _⟩
  · exact ⟨none, 0, 0, hcs⟩
  · exact ⟨some a, len, cap, hcs⟩
theorem open_op {W : World} {base : Nat} {v1 : Value} {d1 : DataW H} {p1 : List MemPlace} (hval : Value.okWide Try.prog W .any base 26 v1) (h1 : DataW.Trod enc Try.prog W 0 (fun _ => true) true 26 v1 d1 p1) :
    ∃ (k0 k1 k2 X Y C : Int) (A : Option Addr) (n c : Nat) (L : List Int) (A7 A8 A9 : Option Addr) (n7 c7 n8 c8 n9 c9 : Nat),
      v1 = .agg #[.int .i64 k0, .int .i64 k1, .int .i64 k2, .int .i64 X, .int .i64 Y, .int .i64 C, .slice A n c, .slice A7 n7 c7, .slice A8 n8 c8, .slice A9 n9 c9] ∧ I64 X ∧ I64 Y ∧ I64 C ∧
      L.length = n ∧ (∀ x ∈ L, I64 x) ∧ NumsAt W A L ∧ n ≤ c ∧ ((∀ m ∈ d1.weights Try.prog 26, m ≤ reachBytes) → n ≤ 17592186044416) := by
  obtain ⟨cs, rfl, hsz⟩ := okWide_struct Try.underlying26 hval
  obtain ⟨fuel, h⟩ := h1
  have c10 : Try.prog.cellsOf 26 = 10 := by kernel_rfl
  rw [c10] at hsz
  obtain ⟨xs, k, hk, hxy, _, hxl, hf⟩ := DataW.trod_struct Try.underlying26 h
  have c3 : Try.prog.cellsOf 3 = 1 := by kernel_rfl
  have s1 : Try.prog.cellsOf 23 = 1 := by kernel_rfl
  have s2 : Try.prog.cellsOf 22 = 1 := by kernel_rfl
  have s3 : Try.prog.cellsOf 24 = 1 := by kernel_rfl
  obtain ⟨l, rfl⟩ : ∃ l : List Value, cs = l.toArray := ⟨cs.toList, by simp⟩
  have hl : l.length = 10 := by simpa using hsz
  match xs, hxl, l, hl with
  | [y0, y1, y2, y3, y4, y5, y6, y7, y8, y9], _, [v0, v1, v2, v3, v4, v5, v6, v7, v8, v9], _ =>
    have g0 := hf 0 _ rfl
    have g1 := hf 1 _ rfl
    have g2 := hf 2 _ rfl
    have g3 := hf 3 _ rfl
    have g4 := hf 4 _ rfl
    have g5 := hf 5 _ rfl
    have g6 := hf 6 _ rfl
    have g7 := hf 7 _ rfl
    have g8 := hf 8 _ rfl
    have g9 := hf 9 _ rfl
    simp [c3, s1, s2, s3, Value.cells] at g0 g1 g2 g3 g4 g5 g6 g7 g8 g9
    obtain ⟨n0, e0, -, w0⟩ := DataW.trod_int Try.underlying3 g0
    obtain ⟨n1, e1, -, w1⟩ := DataW.trod_int Try.underlying3 g1
    obtain ⟨n2, e2, -, w2⟩ := DataW.trod_int Try.underlying3 g2
    obtain ⟨n3, e3, -, w3⟩ := DataW.trod_int Try.underlying3 g3
    obtain ⟨n4, e4, -, w4⟩ := DataW.trod_int Try.underlying3 g4
    obtain ⟨n5, e5, -, w5⟩ := DataW.trod_int Try.underlying3 g5
    obtain ⟨A, n, c, L, e6, hL, hR, hA, hc, hd⟩ := nums_of_cells g6
    obtain ⟨A7, n7, c7, e7⟩ := slice_of_cells Try.underlying22 g7
    obtain ⟨A8, n8, c8, e8⟩ := slice_of_cells Try.underlying24 g8
    obtain ⟨A9, n9, c9, e9⟩ := slice_of_cells Try.underlying24 g9
    simp only [List.cons.injEq, and_true] at e0 e1 e2 e3 e4 e5 e6 e7 e8 e9
    refine ⟨n0, n1, n2, n3, n4, n5, A, n, c, L, A7, A8, A9, n7, c7, n8, c8, n9, c9, by rw [e0, e1, e2, e3, e4, e5, e6, e7, e8, e9], i64_wf w3, i64_wf w4, i64_wf w5, hL, hR, hA, hc, fun hw => ?_⟩
    rcases hd with ⟨_, h0⟩ | ⟨zs, hz, hcc, hy⟩
    · omega
    · simp only [Prod.mk.injEq] at hxy
      have hm : ((lits (H := H) .i64 (zs.take n)).length + (lits (H := H) .i64 (zs.drop n)).length) * Try.prog.bytesOf 3 ≤ reachBytes := by
        refine hw _ ?_
        rw [hxy.1]
        simp only [List.map_cons, List.map_nil, hy]
        simp only [DataW.weights, Try.underlying26, DataW.weightsEach, Try.underlying23, List.map_cons, List.map_nil, List.mem_append, List.mem_cons]
        simp
      rw [show Try.prog.bytesOf 3 = 8 by kernel_rfl] at hm
      simp only [lits, List.length_map, List.length_take, List.length_drop, reachBytes] at hm
      omega
end
end Go.Proofs.Ytejcijbohnlbgaa
