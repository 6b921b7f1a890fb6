/- Package pack: a container that came in. -/
import Derived.Test.YtkfcfoidaalnlaaEnd
import Derived.Test.YtkfcfoidaalnlaaPkW
import Derived.Deep.Slices
import Derived.SizedLaws
namespace Go.Proofs.Ytkfcfoidaalnlaa.Pak
open Go.ChangeShapes Go.WideShapes Go.ChangeAt Go.RowKit Go.Deep
set_option linter.unusedVariables false
set_option linter.unusedSimpArgs false
set_option maxRecDepth 100000
section
variable {H : Type} {enc : TypeId × Value → H}
theorem bytes_of_cells {W : World} {fuel : Nat} {cs : List Value} {x : DataW H × List MemPlace} (hf : DataW.trod enc Try.prog W 0 (fun _ => true) true fuel 22 cs = some x) :
    ∃ (A : Option Addr) (n c : Nat) (L : List Int), cs = [.slice A n c] ∧ L.length = n ∧ Bytes L ∧ BytesAt W A L ∧ n ≤ c ∧
      ((x.1 = .nil ∧ n = 0) ∨ ∃ zs : List Int, zs.length = c ∧ n ≤ c ∧ x.1 = .slice (lits .u8 (zs.take n)) (lits .u8 (zs.drop n))) := by
  rcases open_ints Try.underlying22 Try.underlying5 (by kernel_rfl) hf with ⟨hcs, hx⟩ | ⟨a, len, cap, zs, hcs, _, hl, hm, hz, hx, hcell, hwz⟩
  · subst hcs; subst hx
    exact ⟨none, 0, 0, [], rfl, rfl, Bytes.nil, (fun h => by simp at h), Nat.zero_le _, .inl ⟨rfl, rfl⟩⟩
  · subst hcs; subst hx
    simp only [if_true] at hz
    refine ⟨some a, len, cap, zs.take len, rfl, by simp; omega, fun x hx => ?_, fun hp => ?_, by omega, .inr ⟨zs, hz, hl, rfl⟩⟩
    · have hb := hwz x (List.mem_of_mem_take hx)
      simp only [Lit.wf, IntKind.min, IntKind.max, IntKind.signed, IntKind.bits, Bool.and_eq_true, decide_eq_true_eq] at hb
      simp at hb
      unfold IsB
      omega
    · have hpos : 0 < zs.length := by simp at hp; omega
      obtain ⟨ab, ao, spot⟩ := a
      have hspot : spot = none := by simpa [Addr.add] using World.cell?_spot (hcell 0 hpos)
      subst hspot
      refine ⟨ab, ao, rfl, ?_, fun i hi => ?_⟩
      · have h0 := hcell 0 hpos
        rw [Addr.add_lit] at h0
        rcases Nat.lt_or_ge ab W.heap.size with h2 | h2
        · exact h2
        · exfalso
          simp [World.cell?, Array.getElem?_eq_none h2] at h0
      · have hi' : i < len := by simp at hi; omega
        have hci := hcell i (by omega)
        rw [Addr.add_lit] at hci
        rw [hci]
        simp [List.getD_eq_getElem?_getD, List.getElem?_take, hi']
theorem table_of_cells {W : World} (n : Nat) (cs : List Value) (x : DataW H × List MemPlace) (hlen : cs.length = 2) (h : DataW.trod enc Try.prog W 0 (fun _ => true) true n 60 cs = some x) : ∃ a : Int × Int, ∀ k, k < 2 → cs[k]? = some (tabF a k) := by
  obtain ⟨xs, k, hk, hxy, _, hxl, hf⟩ := DataW.trod_struct Try.underlying60 h
  have c3 : Try.prog.cellsOf 3 = 1 := by kernel_rfl
  match xs, hxl, cs, hlen with
  | [y0, y1], _, [v0, v1], _ =>
    have g0 := hf 0 _ rfl
    have g1 := hf 1 _ rfl
    simp [c3] at g0 g1
    obtain ⟨n0, e0, -, -⟩ := DataW.trod_int Try.underlying3 g0
    obtain ⟨n1, e1, -, -⟩ := DataW.trod_int Try.underlying3 g1
    simp only [List.cons.injEq, and_true] at e0 e1
    refine ⟨(n0, n1), fun k hk => ?_⟩
    rcases (show k = 0 ∨ k = 1 by omega) with rfl | rfl
    · rw [e0]; rfl
    · rw [e1]; rfl
theorem tables_of_cells {W : World} {fuel : Nat} {cs : List Value} {x : DataW H × List MemPlace} (hf : DataW.trod enc Try.prog W 0 (fun _ => true) true fuel 23 cs = some x) :
    ∃ (A : Option Addr) (n c : Nat) (L : List (Int × Int)), cs = [.slice A n c] ∧ L.length = n ∧ RowsAt W A 2 tabF L ∧ n ≤ c ∧
      ((x.1 = .nil ∧ n = 0) ∨ ∃ es ss : List (DataW H), es.length = n ∧ x.1 = .slice es ss) := by
  rcases open_slice Try.underlying23 hf with ⟨hcs, hx⟩ | ⟨a, len, cap, m, n, D, Pl, hcs, _, hl, hm, hmm, hx, hel⟩
  · subst hcs; subst hx
    exact ⟨none, 0, 0, [], rfl, rfl, (fun h => by simp at h), Nat.le_refl _, .inl ⟨rfl, rfl⟩⟩
  · simp only [if_true] at hmm
    subst hmm
    subst hx
    rw [show Try.prog.cellsOf 60 = 2 by kernel_rfl] at hel
    obtain ⟨I, hI⟩ := choose_lt (α := Int × Int) (n := m) (p := fun j i => ∀ k, k < 2 → W.cell? (a.add (j * 2 + k)) = some (tabF i k)) (fun j hj => by
      obtain ⟨cs', k1, k2⟩ := hel j hj
      obtain ⟨_, hlen, hcell⟩ := World.cells?_some k1
      obtain ⟨i, hk⟩ := table_of_cells _ _ _ hlen k2
      refine ⟨i, fun k hks => ?_⟩
      have := hcell k (by omega)
      rw [add_add, hk k hks] at this
      exact this)
    refine ⟨some a, len, m, (List.range len).map I, hcs, by simp, fun hp => ?_, hl, .inr ⟨_, _, by simp, rfl⟩⟩
    have hpos : 0 < len := by simpa using hp
    obtain ⟨ab, ao, spot⟩ := a
    have h00 := hI 0 (by omega) 0 (by decide)
    have hspot : spot = none := by simpa [Addr.add] using World.cell?_spot h00
    subst hspot
    rw [Addr.add_lit] at h00
    refine ⟨ab, ao, rfl, ?_, fun j i hi k hk => ?_⟩
    · rcases Nat.lt_or_ge ab W.heap.size with h2 | h2
      · exact h2
      · exfalso
        simp [World.cell?, Array.getElem?_eq_none h2] at h00
    · have hj : j < len := by
        rcases Nat.lt_or_ge j len with h2 | h2
        · exact h2
        · rw [List.getElem?_eq_none (by simpa using h2)] at hi; cases hi
      have hii : I j = i := by
        rw [List.getElem?_map, List.getElem?_range hj] at hi
        exact Option.some.inj hi
      have := hI j (by omega) k hk
      rw [Addr.add_lit, hii, ← Nat.add_assoc] at this
      exact this
theorem cell_block {W : World} {base : Nat} {A : Option Addr} {n c : Nat} (h : Cell.okWide Try.prog W .any base 22 (.slice A n c)) : ∀ b off, A = some ⟨b, off, none⟩ → b < W.heap.size := by
  rintro b off rfl
  simp only [Try.underlying22, Cell.okWide, Cell.ok, World.has, World.shape?] at h
  obtain ⟨_, _, _, _, row, cells, hs, _⟩ := h
  rcases Nat.lt_or_ge b W.heap.size with h1 | h1
  · exact h1
  · rw [Array.getElem?_eq_none h1] at hs
    simp at hs
theorem typesPk : Try.prog.cellTypes Try.prog.depth 25 = some [3, 3, 22, 23, 22] := by kernel_rfl
theorem open_pack {W : World} {base : Nat} {v1 : Value} {d1 : DataW H} {p1 : List MemPlace} (hval : Value.okWide Try.prog W .any base 25 v1) (h1 : DataW.Trod enc Try.prog W 0 (fun _ => true) true 25 v1 d1 p1) :
    ∃ (vd vt vc : Value) (k : Pk), v1 = .agg (arr 5 (pkF k.lo k.hi vd vt vc)) ∧ PkAt W vd vt vc k ∧ ((∀ m ∈ d1.weights Try.prog 25, m ≤ reachBytes) → Small k) := by
  obtain ⟨cs, rfl, hsz, hrow⟩ : ∃ cs, v1 = .agg cs ∧ cs.size = Try.prog.cellsOf 25 ∧ Row.okWide Try.prog W .any base 25 cs := by
    simpa only [Value.okWide, Try.underlying25] using hval
  obtain ⟨fuel, h⟩ := h1
  have c5 : Try.prog.cellsOf 25 = 5 := by kernel_rfl
  rw [c5] at hsz
  obtain ⟨xs, k, hk, hxy, _, hxl, hf⟩ := DataW.trod_struct Try.underlying25 h
  have c3 : Try.prog.cellsOf 3 = 1 := by kernel_rfl
  have s1 : Try.prog.cellsOf 22 = 1 := by kernel_rfl
  have s2 : Try.prog.cellsOf 23 = 1 := by kernel_rfl
  obtain ⟨l, rfl⟩ : ∃ l : List Value, cs = l.toArray := ⟨cs.toList, by simp⟩
  have hl : l.length = 5 := by simpa using hsz
  obtain ⟨ts, hts, -, hce⟩ := hrow
  rw [typesPk] at hts
  injection hts with hts
  subst hts
  match xs, hxl, l, hl with
  | [y0, y1, y2, y3, y4], _, [v0, v1, v2, v3, v4], _ =>
    have g0 := hf 0 _ rfl
    have g1 := hf 1 _ rfl
    have g2 := hf 2 _ rfl
    have g3 := hf 3 _ rfl
    have g4 := hf 4 _ rfl
    simp [c3, s1, s2, Value.cells] at g0 g1 g2 g3 g4
    obtain ⟨n0, e0, -, w0⟩ := DataW.trod_int Try.underlying3 g0
    obtain ⟨n1, e1, -, w1⟩ := DataW.trod_int Try.underlying3 g1
    obtain ⟨A, n, c, L, e2, hL, hR, hA, hc, hd⟩ := bytes_of_cells g2
    obtain ⟨A3, n3, k3, L3, e3, hL3, hA3, hc3, hd3⟩ := tables_of_cells g3
    obtain ⟨A4, n4, k4, L4, e4, hL4, hR4, hA4, hc4, hd4⟩ := bytes_of_cells g4
    simp only [List.cons.injEq, and_true] at e0 e1 e2 e3 e4
    obtain ⟨u2, hu2, ho2⟩ := hce 2 v2 rfl
    obtain ⟨u4, hu4, ho4⟩ := hce 4 v4 rfl
    have hu2' : u2 = 22 := by have : some u2 = some 22 := hu2.symm.trans rfl; injection this
    have hu4' : u4 = 22 := by have : some u4 = some 22 := hu4.symm.trans rfl; injection this
    rw [hu2', e2] at ho2
    rw [hu4', e4] at ho4
    refine ⟨.slice A n c, .slice A3 n3 k3, .slice A4 n4 k4, ⟨n0, n1, L, L3, L4⟩, by rw [e0, e1, e2, e3, e4]; rfl, ⟨⟨A, n, c, rfl, ⟨Lib.hid hL, hc, hA, cell_block ho2⟩⟩, ⟨A3, n3, k3, rfl, ⟨Lib.hid hL3, hc3, hA3⟩⟩, ⟨A4, n4, k4, rfl, ⟨Lib.hid hL4, hc4, hA4, cell_block ho4⟩⟩⟩, fun hw => ?_⟩
    simp only [Prod.mk.injEq] at hxy
    rw [hxy.1] at hw
    refine ⟨?_, ?_, ?_, hR, hR4⟩
    · show L.length ≤ _
      rcases hd with ⟨_, h0⟩ | ⟨zs, hz, hcc, hy⟩
      · omega
      · have hm : ((lits (H := H) .u8 (zs.take n)).length + (lits (H := H) .u8 (zs.drop n)).length) * Try.prog.bytesOf 5 ≤ reachBytes := by
          refine hw _ ?_
          simp only [List.map_cons, List.map_nil, hy]
          simp only [DataW.weights, Try.underlying25, DataW.weightsEach, Try.underlying22, List.map_cons, List.map_nil, List.mem_append, List.mem_cons]
          simp
        rw [show Try.prog.bytesOf 5 = 1 by kernel_rfl] at hm
        simp only [lits, List.length_map, List.length_take, List.length_drop, reachBytes] at hm
        omega
    · show L4.length ≤ _
      rcases hd4 with ⟨_, h0⟩ | ⟨zs, hz, hcc, hy⟩
      · omega
      · have hm : ((lits (H := H) .u8 (zs.take n4)).length + (lits (H := H) .u8 (zs.drop n4)).length) * Try.prog.bytesOf 5 ≤ reachBytes := by
          refine hw _ ?_
          simp only [List.map_cons, List.map_nil, hy]
          simp only [DataW.weights, Try.underlying25, DataW.weightsEach, Try.underlying22, List.map_cons, List.map_nil, List.mem_append, List.mem_cons]
          simp
        rw [show Try.prog.bytesOf 5 = 1 by kernel_rfl] at hm
        simp only [lits, List.length_map, List.length_take, List.length_drop, reachBytes] at hm
        omega
    · show L3.length ≤ _
      rcases hd3 with ⟨_, h0⟩ | ⟨es, ss, hz, hy⟩
      · omega
      · have hm : (es.length + ss.length) * Try.prog.bytesOf 60 ≤ reachBytes := by
          refine hw _ ?_
          simp only [List.map_cons, List.map_nil, hy]
          simp only [DataW.weights, Try.underlying25, DataW.weightsEach, Try.underlying23, List.map_cons, List.map_nil, List.mem_append, List.mem_cons]
          simp
        rw [show Try.prog.bytesOf 60 = 16 by kernel_rfl] at hm
        simp only [reachBytes] at hm
        omega
end
end Go.Proofs.Ytkfcfoidaalnlaa.Pak
