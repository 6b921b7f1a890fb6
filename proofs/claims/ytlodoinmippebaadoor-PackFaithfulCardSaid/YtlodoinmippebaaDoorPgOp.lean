/- Package pack: a program that came in. Laid by wip/tools/mkpgop.py. -/
import Derived.Test.YtlodoinmippebaaDoorPkOp
import Derived.Test.YtlodoinmippebaaDoorOpenC
import Derived.Test.YtlodoinmippebaaDoorPkPc
namespace Go.Proofs.YtlodoinmippebaaDoor.Pak
open Go.ChangeShapes Go.WideShapes Go.ChangeAt Go.RowKit Go.Deep
open Cod
set_option linter.unusedVariables false
set_option linter.unusedSimpArgs false
set_option maxRecDepth 100000
section
variable {H : Type} {enc : TypeId × Value → H}
theorem code_of_cells {W : World} {fuel : Nat} {cs : List Value} {x : DataW H × List MemPlace} (hf : DataW.trod enc Tryd.prog W 0 (fun _ => true) true fuel 31 cs = some x) :
    ∃ (A : Option Addr) (n c : Nat) (L : List Ins), cs = [.slice A n c] ∧ L.length = n ∧ (∀ i ∈ L, i.rng) ∧ CodeAt W A L ∧ n ≤ c ∧
      ((x.1 = .nil ∧ n = 0) ∨ ∃ es ss : List (DataW H), es.length = n ∧ x.1 = .slice es ss) := by
  rcases open_slice Tryd.underlying31 hf with ⟨hcs, hx⟩ | ⟨a, len, cap, m, n, D, Pl, hcs, _, hl, hm, hmm, hx, hel⟩
  · subst hcs; subst hx
    exact ⟨none, 0, 0, [], rfl, rfl, (fun x hx => by simp at hx), (fun h => by simp at h), Nat.le_refl _, .inl ⟨rfl, rfl⟩⟩
  · simp only [if_true] at hmm
    subst hmm
    subst hx
    rw [show Tryd.prog.cellsOf 71 = 8 by kernel_rfl] at hel
    obtain ⟨I, hI⟩ := choose_lt (α := Ins) (n := m) (p := fun j i => i.rng ∧ ∀ k (hk : k < 8), W.cell? (a.add (j * 8 + k)) = i.cells[k]?) (fun j hj => by
      obtain ⟨cs', k1, k2⟩ := hel j hj
      obtain ⟨_, hlen, hcell⟩ := World.cells?_some k1
      obtain ⟨i, hr, rfl⟩ := ins_of_cells hlen k2
      refine ⟨i, hr, fun k hk => ?_⟩
      have := hcell k (by omega)
      rw [add_add] at this
      exact this)
    refine ⟨some a, len, m, (List.range len).map I, hcs, by simp, fun i hi => ?_, fun hp => ?_, hl, .inr ⟨_, _, by simp, rfl⟩⟩
    · obtain ⟨j, hj, rfl⟩ := List.mem_map.1 hi
      exact (hI j (by have := List.mem_range.1 hj; omega)).1
    · have hpos : 0 < len := by simpa using hp
      obtain ⟨ab, ao, spot⟩ := a
      have h00 := (hI 0 (by omega)).2 0 (by decide)
      have hspot : spot = none := by simpa [Addr.add] using World.cell?_spot (show W.cell? _ = some _ from h00)
      subst hspot
      rw [Addr.add_lit] at h00
      refine ⟨ab, ao, rfl, ?_, fun j i hi => ?_⟩
      · rcases Nat.lt_or_ge ab W.heap.size with h2 | h2
        · exact h2
        · exfalso
          simp [World.cell?, Array.getElem?_eq_none h2, Ins.cells] at h00
      · have hj : j < len := by
          rcases Nat.lt_or_ge j len with h2 | h2
          · exact h2
          · rw [List.getElem?_eq_none (by simpa using h2)] at hi; cases hi
        have hii : I j = i := by
          rw [List.getElem?_map, List.getElem?_range hj] at hi
          exact Option.some.inj hi
        have key : ∀ k, k < 8 → W.cell? ⟨ab, ao + j * 8 + k, none⟩ = i.cells[k]? := fun k hk => by
          have := (hI j (by omega)).2 k hk
          rw [Addr.add_lit, hii, ← Nat.add_assoc] at this
          exact this
        exact ⟨key 0 (by decide), key 1 (by decide), key 2 (by decide), key 3 (by decide), key 4 (by decide), key 5 (by decide), key 6 (by decide), key 7 (by decide)⟩
theorem typesPg : Tryd.prog.cellTypes Tryd.prog.depth 33 = some [3, 3, 22, 23, 31] := by kernel_rfl
theorem open_program {W : World} {base : Nat} {v1 : Value} {d1 : DataW H} {p1 : List MemPlace} (hval : Value.okWide Tryd.prog W .any base 33 v1) (h1 : DataW.Trod enc Tryd.prog W 0 (fun _ => true) true 33 v1 d1 p1) :
    ∃ (vd vt vc : Value) (k : Pg), v1 = .agg (arr 5 (pkF k.lo k.hi vd vt vc)) ∧ PgAt W vd vt vc k ∧ ((∀ m ∈ d1.weights Tryd.prog 33, m ≤ reachBytes) → SmallG k) := by
  obtain ⟨cs, rfl, hsz, hrow⟩ : ∃ cs, v1 = .agg cs ∧ cs.size = Tryd.prog.cellsOf 33 ∧ Row.okWide Tryd.prog W .any base 33 cs := by
    simpa only [Value.okWide, Tryd.underlying33] using hval
  obtain ⟨fuel, h⟩ := h1
  have c5 : Tryd.prog.cellsOf 33 = 5 := by kernel_rfl
  rw [c5] at hsz
  obtain ⟨xs, k, hk, hxy, _, hxl, hf⟩ := DataW.trod_struct Tryd.underlying33 h
  have c3 : Tryd.prog.cellsOf 3 = 1 := by kernel_rfl
  have s1 : Tryd.prog.cellsOf 22 = 1 := by kernel_rfl
  have s2 : Tryd.prog.cellsOf 23 = 1 := by kernel_rfl
  have s3 : Tryd.prog.cellsOf 31 = 1 := by kernel_rfl
  obtain ⟨l, rfl⟩ : ∃ l : List Value, cs = l.toArray := ⟨cs.toList, by simp⟩
  have hl : l.length = 5 := by simpa using hsz
  obtain ⟨ts, hts, -, hce⟩ := hrow
  rw [typesPg] at hts
  injection hts with hts
  subst hts
  match xs, hxl, l, hl with
  | [y0, y1, y2, y3, y4], _, [v0, v1, v2, v3, v4], _ =>
    have g0 := hf 0 _ rfl
    have g1 := hf 1 _ rfl
    have g2 := hf 2 _ rfl
    have g3 := hf 3 _ rfl
    have g4 := hf 4 _ rfl
    simp [c3, s1, s2, s3, Value.cells] at g0 g1 g2 g3 g4
    obtain ⟨n0, e0, -, w0⟩ := DataW.trod_int Tryd.underlying3 g0
    obtain ⟨n1, e1, -, w1⟩ := DataW.trod_int Tryd.underlying3 g1
    obtain ⟨A, n, c, L, e2, hL, hR, hA, hc, hd⟩ := bytes_of_cells g2
    obtain ⟨A3, n3, k3, L3, e3, hL3, hA3, hc3, hd3⟩ := tables_of_cells g3
    obtain ⟨A4, n4, k4, L4, e4, hL4, hR4, hA4, hc4, hd4⟩ := code_of_cells g4
    simp only [List.cons.injEq, and_true] at e0 e1 e2 e3 e4
    obtain ⟨u2, hu2, ho2⟩ := hce 2 v2 rfl
    have hu2' : u2 = 22 := by have : some u2 = some 22 := hu2.symm.trans rfl; injection this
    rw [hu2', e2] at ho2
    refine ⟨.slice A n c, .slice A3 n3 k3, .slice A4 n4 k4, ⟨n0, n1, L, L3, L4⟩, by rw [e0, e1, e2, e3, e4]; rfl, ⟨⟨A, n, c, rfl, ⟨Lib.hid hL, hc, hA, cell_block ho2⟩⟩, ⟨A3, n3, k3, rfl, ⟨Lib.hid hL3, hc3, hA3⟩⟩, ⟨A4, n4, k4, rfl, ⟨Lib.hid hL4, hc4, hA4⟩⟩⟩, fun hw => ?_⟩
    simp only [Prod.mk.injEq] at hxy
    rw [hxy.1] at hw
    refine ⟨?_, ?_, ?_, hR, hR4⟩
    · show L.length ≤ _
      rcases hd with ⟨_, h0⟩ | ⟨zs, hz, hcc, hy⟩
      · omega
      · have hm : ((lits (H := H) .u8 (zs.take n)).length + (lits (H := H) .u8 (zs.drop n)).length) * Tryd.prog.bytesOf 5 ≤ reachBytes := by
          refine hw _ ?_
          simp only [List.map_cons, List.map_nil, hy]
          simp only [DataW.weights, Tryd.underlying33, DataW.weightsEach, Tryd.underlying22, List.map_cons, List.map_nil, List.mem_append, List.mem_cons]
          simp
        rw [show Tryd.prog.bytesOf 5 = 1 by kernel_rfl] at hm
        simp only [lits, List.length_map, List.length_take, List.length_drop, reachBytes] at hm
        omega
    · show L4.length ≤ _
      rcases hd4 with ⟨_, h0⟩ | ⟨es, ss, hz, hy⟩
      · omega
      · have hm : (es.length + ss.length) * Tryd.prog.bytesOf 71 ≤ reachBytes := by
          refine hw _ ?_
          simp only [List.map_cons, List.map_nil, hy]
          simp only [DataW.weights, Tryd.underlying33, DataW.weightsEach, Tryd.underlying31, List.map_cons, List.map_nil, List.mem_append, List.mem_cons]
          simp
        rw [show Tryd.prog.bytesOf 71 = 56 by kernel_rfl] at hm
        simp only [reachBytes] at hm
        omega
    · show L3.length ≤ _
      rcases hd3 with ⟨_, h0⟩ | ⟨es, ss, hz, hy⟩
      · omega
      · have hm : (es.length + ss.length) * Tryd.prog.bytesOf 69 ≤ reachBytes := by
          refine hw _ ?_
          simp only [List.map_cons, List.map_nil, hy]
          simp only [DataW.weights, Tryd.underlying33, DataW.weightsEach, Tryd.underlying23, List.map_cons, List.map_nil, List.mem_append, List.mem_cons]
          simp
        rw [show Tryd.prog.bytesOf 69 = 16 by kernel_rfl] at hm
        simp only [reachBytes] at hm
        omega
end
end Go.Proofs.YtlodoinmippebaaDoor.Pak
