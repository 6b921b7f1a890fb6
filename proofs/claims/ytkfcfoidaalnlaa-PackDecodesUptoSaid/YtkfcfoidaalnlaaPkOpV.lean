/- Package pack: a container that came in, of bounded bulk. Laid by wip/tools/mkpup.py. -/
import Derived.Test.YtkfcfoidaalnlaaPkOp
namespace Go.Proofs.Ytkfcfoidaalnlaa.Pak
open Go.ChangeShapes Go.WideShapes Go.ChangeAt Go.RowKit Go.Deep
set_option linter.unusedVariables false
set_option linter.unusedSimpArgs false
set_option maxRecDepth 100000
theorem bulk_len {H : Type} : ∀ (l : List (DataW H)), l.length ≤ Rows.uptoBulkAll l
  | [] => by simp [Rows.uptoBulkAll]
  | d :: t => by
    have h1 : 1 ≤ Rows.uptoBulk d := by
      cases d with
      | lit l => cases l <;> simp [Rows.uptoBulk]
      | nil => simp [Rows.uptoBulk]
      | ptr d => simp [Rows.uptoBulk]
      | slice a b => simp [Rows.uptoBulk]
      | agg p => simp [Rows.uptoBulk]
      | iface t d => simp [Rows.uptoBulk]
      | map m => simp [Rows.uptoBulk]
      | held h => simp [Rows.uptoBulk]
    have := bulk_len t
    simp only [Rows.uptoBulkAll, List.length_cons]
    omega
theorem bulk_small {H : Type} {ds : List (DataW H)} (h : Rows.uptoSmall H ds = true) : Rows.uptoBulkAll ds ≤ 1048576 := of_decide_eq_true h
section
variable {H : Type} {enc : TypeId × Value → H}
theorem open_pack_up {W : World} {base : Nat} {v1 : Value} {d1 : DataW H} {p1 : List MemPlace} (hval : Value.okWide Try.prog W .any base 25 v1) (h1 : DataW.Trod enc Try.prog W 0 (fun _ => true) true 25 v1 d1 p1) :
    ∃ (vd vt vc : Value) (k : Pk), v1 = .agg (arr 5 (pkF k.lo k.hi vd vt vc)) ∧ PkAt W vd vt vc k ∧ (Rows.uptoBulk d1 ≤ 1048576 → Small k ∧ (k.data.length ≤ 1048576 ∧ k.code.length ≤ 1048576)) := by
  obtain ⟨cs, rfl, hsz, hrow⟩ : ∃ cs, v1 = .agg cs ∧ cs.size = Try.prog.cellsOf 25 ∧ Row.okWide Try.prog W .any base 25 cs := by
    simpa only [Value.okWide, Try.underlying25] using hval
  obtain ⟨fuel, h⟩ := h1
  have c5 : Try.prog.cellsOf 25 = 5 := by kernel_rfl
  rw [c5] at hsz
  obtain ⟨xs, k, hk, hxy, _, hxl, hf⟩ := DataW.trod_struct Try.underlying25 h
  have c3 : Try.prog.cellsOf 3 = 1 := by kernel_rfl
  have s1 : Try.prog.cellsOf 22 = 1 := by kernel_rfl
  have s2 : Try.prog.cellsOf 23 = 1 := by kernel_rfl
  obtain ⟨l, rfl⟩ : ∃ l : List Value, cs = l.toArray := ⟨cs.toList, by simp⟩
  have hl : l.length = 5 := by simpa using hsz
  obtain ⟨ts, hts, -, hce⟩ := hrow
  rw [typesPk] at hts
  injection hts with hts
  subst hts
  match xs, hxl, l, hl with
  | [y0, y1, y2, y3, y4], _, [v0, v1, v2, v3, v4], _ =>
    have g0 := hf 0 _ rfl
    have g1 := hf 1 _ rfl
    have g2 := hf 2 _ rfl
    have g3 := hf 3 _ rfl
    have g4 := hf 4 _ rfl
    simp [c3, s1, s2, Value.cells] at g0 g1 g2 g3 g4
    obtain ⟨n0, e0, -, w0⟩ := DataW.trod_int Try.underlying3 g0
    obtain ⟨n1, e1, -, w1⟩ := DataW.trod_int Try.underlying3 g1
    obtain ⟨A, n, c, L, e2, hL, hR, hA, hc, hd⟩ := bytes_of_cells g2
    obtain ⟨A3, n3, k3, L3, e3, hL3, hA3, hc3, hd3⟩ := tables_of_cells g3
    obtain ⟨A4, n4, k4, L4, e4, hL4, hR4, hA4, hc4, hd4⟩ := bytes_of_cells g4
    simp only [List.cons.injEq, and_true] at e0 e1 e2 e3 e4
    obtain ⟨u2, hu2, ho2⟩ := hce 2 v2 rfl
    obtain ⟨u4, hu4, ho4⟩ := hce 4 v4 rfl
    have hu2' : u2 = 22 := by have : some u2 = some 22 := hu2.symm.trans rfl; injection this
    have hu4' : u4 = 22 := by have : some u4 = some 22 := hu4.symm.trans rfl; injection this
    rw [hu2', e2] at ho2
    rw [hu4', e4] at ho4
    refine ⟨.slice A n c, .slice A3 n3 k3, .slice A4 n4 k4, ⟨n0, n1, L, L3, L4⟩, by rw [e0, e1, e2, e3, e4]; rfl, ⟨⟨A, n, c, rfl, ⟨Lib.hid hL, hc, hA, cell_block ho2⟩⟩, ⟨A3, n3, k3, rfl, ⟨Lib.hid hL3, hc3, hA3⟩⟩, ⟨A4, n4, k4, rfl, ⟨Lib.hid hL4, hc4, hA4, cell_block ho4⟩⟩⟩, fun hw => ?_⟩
    simp only [Prod.mk.injEq] at hxy
    rw [hxy.1] at hw
    simp only [List.map_cons, List.map_nil, Rows.uptoBulk, Rows.uptoBulkAll] at hw
    have qL : L.length ≤ 1048576 := by
      rcases hd with ⟨_, h0⟩ | ⟨zs, hz, hcc, hy⟩
      · omega
      · have h5 := bulk_len (lits (H := H) .u8 (zs.take n))
        rw [hy] at hw
        simp only [Rows.uptoBulk] at hw
        simp only [lits, List.length_map, List.length_take] at h5
        simp only [lits] at hw
        omega
    have qL4 : L4.length ≤ 1048576 := by
      rcases hd4 with ⟨_, h0⟩ | ⟨zs, hz, hcc, hy⟩
      · omega
      · have h5 := bulk_len (lits (H := H) .u8 (zs.take n4))
        rw [hy] at hw
        simp only [Rows.uptoBulk] at hw
        simp only [lits, List.length_map, List.length_take] at h5
        simp only [lits] at hw
        omega
    have qL3 : L3.length ≤ 1048576 := by
      rcases hd3 with ⟨_, h0⟩ | ⟨es, ss, hz, hy⟩
      · omega
      · have h5 := bulk_len es
        rw [hy] at hw
        simp only [Rows.uptoBulk] at hw
        omega
    exact ⟨⟨Nat.le_trans qL (by omega), Nat.le_trans qL4 (by omega), Nat.le_trans qL3 (by omega), hR, hR4⟩, qL, qL4⟩
end
end Go.Proofs.Ytkfcfoidaalnlaa.Pak
