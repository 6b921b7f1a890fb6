/- Package deed: a deed that came in: its loops, its claims, their constraints. -/
import Derived.Test.YtbomihdnnidelaaDOpen
namespace Go.Proofs.Ytbomihdnnidelaa
open Go.ChangeShapes Go.WideShapes Go.ChangeAt Go.RowKit Go.Deep
open Dee
set_option linter.unusedVariables false
set_option linter.unusedSimpArgs false
set_option maxRecDepth 100000
instance : Inhabited Con := ⟨⟨0, 0, 0⟩⟩
instance : Inhabited Lp := ⟨⟨0, 0, 0, 0, 0⟩⟩
instance : Inhabited Tag := ⟨⟨0, 0, 0⟩⟩
instance : Inhabited (Mc × Value) := ⟨(⟨false, fun _ => ⟨0, 0, 0⟩, []⟩, .bool false)⟩
section
variable {H : Type} {enc : TypeId × Value → H}
theorem rows_open {α : Type} [Inhabited α] {W : World} {t e : TypeId} (ht : Try.prog.underlying t = some (.slice e)) (s : Nat) (hs : Try.prog.cellsOf e = s) (h0 : 0 < s) (f : α → Nat → Value) (good : α → Prop)
    (hrd : ∀ (fuel : Nat) (cs : List Value) (x : DataW H × List MemPlace), cs.length = s → DataW.trod enc Try.prog W 0 (fun _ => true) true fuel e cs = some x → ∃ a, good a ∧ ∀ k, k < s → cs[k]? = some (f a k))
    {fuel : Nat} {cs : List Value} {x : DataW H × List MemPlace} (hf : DataW.trod enc Try.prog W 0 (fun _ => true) true fuel t cs = some x) :
    ∃ (A : Option Addr) (n c : Nat) (L : List α), cs = [.slice A n c] ∧ L.length = n ∧ (∀ a ∈ L, good a) ∧ RowsB W.heap.size W A s f L ∧ n ≤ c ∧ n ≤ 9223372036854775807 := by
  rcases open_slice ht hf with ⟨hcs, hx⟩ | ⟨a, len, cap, m, n, D, Pl, hcs, _, hl, hm, hmm, hx, hel⟩
  · exact ⟨none, 0, 0, [], hcs, rfl, (fun x hx => by simp at hx), (fun h => by simp at h), Nat.le_refl _, by omega⟩
  · simp only [if_true] at hmm
    subst hmm
    rw [hs] at hel
    obtain ⟨I, hI⟩ := choose_lt (α := α) (n := m) (p := fun j i => good i ∧ ∀ k, k < s → W.cell? (a.add (j * s + k)) = some (f i k)) (fun j hj => by
      obtain ⟨cs', k1, k2⟩ := hel j hj
      obtain ⟨_, hlen, hcell⟩ := World.cells?_some k1
      obtain ⟨i, hr, hk⟩ := hrd _ _ _ hlen k2
      refine ⟨i, hr, fun k hks => ?_⟩
      have := hcell k (by omega)
      rw [add_add, hk k hks] at this
      exact this)
    refine ⟨some a, len, m, (List.range len).map I, hcs, by simp, fun i hi => ?_, fun hp => ?_, hl, ?_⟩
    · obtain ⟨j, hj, rfl⟩ := List.mem_map.1 hi
      exact (hI j (by have := List.mem_range.1 hj; omega)).1
    · have hpos : 0 < len := by simpa using hp
      obtain ⟨ab, ao, spot⟩ := a
      have h00 := (hI 0 (by omega)).2 0 h0
      have hspot : spot = none := by simpa [Addr.add] using World.cell?_spot h00
      subst hspot
      rw [Addr.add_lit] at h00
      refine ⟨ab, ao, rfl, ?_, fun j i hi k hk => ?_⟩
      · rcases Nat.lt_or_ge ab W.heap.size with h2 | h2
        · exact h2
        · exfalso
          simp [World.cell?, Array.getElem?_eq_none h2] at h00
      · have hj : j < len := by
          rcases Nat.lt_or_ge j len with h2 | h2
          · exact h2
          · rw [List.getElem?_eq_none (by simpa using h2)] at hi; cases hi
        have hii : I j = i := by
          rw [List.getElem?_map, List.getElem?_range hj] at hi
          exact Option.some.inj hi
        have := (hI j (by omega)).2 k hk
        rw [Addr.add_lit, hii, ← Nat.add_assoc] at this
        exact this
    · have : maxLen = 9223372036854775807 := rfl
      omega
theorem con_of_cells {W : World} (n : Nat) (cs : List Value) (x : DataW H × List MemPlace) (hlen : cs.length = 3) (h : DataW.trod enc Try.prog W 0 (fun _ => true) true n 63 cs = some x) : ∃ a : Con, True ∧ ∀ k, k < 3 → cs[k]? = some (coF a k) := by
  obtain ⟨xs, k, hk, hxy, _, hxl, hf⟩ := DataW.trod_struct Try.underlying63 h
  have c3 : Try.prog.cellsOf 3 = 1 := by kernel_rfl
  match xs, hxl, cs, hlen with
  | [y0, y1, y2], _, [v0, v1, v2], _ =>
    have g0 := hf 0 _ rfl
    have g1 := hf 1 _ rfl
    have g2 := hf 2 _ rfl
    simp [c3] at g0 g1 g2
    obtain ⟨n0, e0, -, -⟩ := DataW.trod_int Try.underlying3 g0
    obtain ⟨n1, e1, -, -⟩ := DataW.trod_int Try.underlying3 g1
    obtain ⟨n2, e2, -, -⟩ := DataW.trod_int Try.underlying3 g2
    simp only [List.cons.injEq, and_true] at e0 e1 e2
    refine ⟨⟨n0, n1, n2⟩, trivial, fun k hk => ?_⟩
    rcases (show k = 0 ∨ k = 1 ∨ k = 2 by omega) with rfl | rfl | rfl
    · rw [e0]; rfl
    · rw [e1]; rfl
    · rw [e2]; rfl
theorem tag_of_cells {W : World} (n : Nat) (cs : List Value) (x : DataW H × List MemPlace) (hlen : cs.length = 3) (h : DataW.trod enc Try.prog W 0 (fun _ => true) true n 56 cs = some x) : ∃ a : Tag, ∀ k, k < 3 → cs[k]? = some (tgF a k) := by
  obtain ⟨xs, k, hk, hxy, _, hxl, hf⟩ := DataW.trod_struct Try.underlying56 h
  have c3 : Try.prog.cellsOf 3 = 1 := by kernel_rfl
  match xs, hxl, cs, hlen with
  | [y0, y1, y2], _, [v0, v1, v2], _ =>
    have g0 := hf 0 _ rfl
    have g1 := hf 1 _ rfl
    have g2 := hf 2 _ rfl
    simp [c3] at g0 g1 g2
    obtain ⟨n0, e0, -, -⟩ := DataW.trod_int Try.underlying3 g0
    obtain ⟨n1, e1, -, -⟩ := DataW.trod_int Try.underlying3 g1
    obtain ⟨n2, e2, -, -⟩ := DataW.trod_int Try.underlying3 g2
    simp only [List.cons.injEq, and_true] at e0 e1 e2
    refine ⟨⟨n0, n1, n2⟩, fun k hk => ?_⟩
    rcases (show k = 0 ∨ k = 1 ∨ k = 2 by omega) with rfl | rfl | rfl
    · rw [e0]; rfl
    · rw [e1]; rfl
    · rw [e2]; rfl
theorem loop_of_cells {W : World} (n : Nat) (cs : List Value) (x : DataW H × List MemPlace) (hlen : cs.length = 5) (h : DataW.trod enc Try.prog W 0 (fun _ => true) true n 54 cs = some x) : ∃ a : Lp, True ∧ ∀ k, k < 5 → cs[k]? = some (loF a k) := by
  obtain ⟨xs, k, hk, hxy, _, hxl, hf⟩ := DataW.trod_struct Try.underlying54 h
  have c3 : Try.prog.cellsOf 3 = 1 := by kernel_rfl
  match xs, hxl, cs, hlen with
  | [y0, y1, y2, y3, y4], _, [v0, v1, v2, v3, v4], _ =>
    have g0 := hf 0 _ rfl
    have g1 := hf 1 _ rfl
    have g2 := hf 2 _ rfl
    have g3 := hf 3 _ rfl
    have g4 := hf 4 _ rfl
    simp [c3] at g0 g1 g2 g3 g4
    obtain ⟨n0, e0, -, -⟩ := DataW.trod_int Try.underlying3 g0
    obtain ⟨n1, e1, -, -⟩ := DataW.trod_int Try.underlying3 g1
    obtain ⟨n2, e2, -, -⟩ := DataW.trod_int Try.underlying3 g2
    obtain ⟨n3, e3, -, -⟩ := DataW.trod_int Try.underlying3 g3
    obtain ⟨n4, e4, -, -⟩ := DataW.trod_int Try.underlying3 g4
    simp only [List.cons.injEq, and_true] at e0 e1 e2 e3 e4
    refine ⟨⟨n0, n1, n2, n3, n4⟩, trivial, fun k hk => ?_⟩
    rcases (show k = 0 ∨ k = 1 ∨ k = 2 ∨ k = 3 ∨ k = 4 by omega) with rfl | rfl | rfl | rfl | rfl
    · rw [e0]; rfl
    · rw [e1]; rfl
    · rw [e2]; rfl
    · rw [e3]; rfl
    · rw [e4]; rfl
theorem tags_of_cells {W : World} {t : TypeId} {len : Nat} (ht : Try.prog.underlying t = some (.array len 56)) {n : Nat} {cs : List Value} {x : DataW H × List MemPlace} (hlen : cs.length = len * 3) (h : DataW.trod enc Try.prog W 0 (fun _ => true) true n t cs = some x) : ∃ T : Nat → Tag, ∀ q, q < len * 3 → cs[q]? = some (tsF T q) := by
  obtain ⟨xs, m, _, _, _, hxl, hf⟩ := DataW.trod_array ht h
  have c3 : Try.prog.cellsOf 56 = 3 := by kernel_rfl
  rw [c3] at hf
  obtain ⟨T, hT⟩ := choose_lt (α := Tag) (n := len) (p := fun i t => ∀ k, k < 3 → cs[i * 3 + k]? = some (tgF t k)) (fun i hi => by
    have h1 := hf i hi
    rw [List.getElem?_eq_getElem (by omega)] at h1
    obtain ⟨a, ha⟩ := tag_of_cells m _ _ (by rw [List.length_take, List.length_drop]; omega) h1
    refine ⟨a, fun k hk => ?_⟩
    rw [← ha k hk, List.getElem?_take, if_pos hk, List.getElem?_drop])
  refine ⟨T, fun q hq => ?_⟩
  have := hT (q / 3) (by omega) (q % 3) (by omega)
  rw [show q / 3 * 3 + q % 3 = q by omega] at this
  exact this
theorem claim_of_cells {W : World} (n : Nat) (cs : List Value) (x : DataW H × List MemPlace) (hlen : cs.length = 128) (h : DataW.trod enc Try.prog W 0 (fun _ => true) true n 61 cs = some x) : ∃ p : Mc × Value, ConV W.heap.size W p.2 p.1.cons ∧ ∀ k, k < 128 → cs[k]? = some (mcF p k) := by
  obtain ⟨xs, k, hk, hxy, _, hxl, hf⟩ := DataW.trod_struct Try.underlying61 h
  have c0 : Try.prog.cellsOf 4 = 1 := by kernel_rfl
  have c1 : Try.prog.cellsOf 57 = 30 := by kernel_rfl
  have c2 : Try.prog.cellsOf 58 = 96 := by kernel_rfl
  have c3 : Try.prog.cellsOf 59 = 1 := by kernel_rfl
  match xs, hxl with
  | [y0, y1, y2, y3], _ =>
    have g0 : DataW.trod enc Try.prog W 0 (fun _ => true) true k 4 (List.take (Try.prog.cellsOf 4) (List.drop 0 cs)) = some y0 := hf 0 _ rfl
    rw [c0] at g0
    have g1 : DataW.trod enc Try.prog W 0 (fun _ => true) true k 57 (List.take (Try.prog.cellsOf 57) (List.drop 1 cs)) = some y1 := hf 1 _ rfl
    rw [c1] at g1
    have g2 : DataW.trod enc Try.prog W 0 (fun _ => true) true k 58 (List.take (Try.prog.cellsOf 58) (List.drop 31 cs)) = some y2 := hf 2 _ rfl
    rw [c2] at g2
    have g3 : DataW.trod enc Try.prog W 0 (fun _ => true) true k 59 (List.take (Try.prog.cellsOf 59) (List.drop 127 cs)) = some y3 := hf 3 _ rfl
    rw [c3] at g3
    obtain ⟨b, e0, -⟩ := DataW.trod_bool Try.underlying4 g0
    obtain ⟨T1, h1⟩ := tags_of_cells Try.underlying57 (by rw [List.length_take, List.length_drop]; omega) g1
    obtain ⟨T2, h2⟩ := tags_of_cells Try.underlying58 (by rw [List.length_take, List.length_drop]; omega) g2
    obtain ⟨A, m, c, L, e3, hL, _, hR, hmc, hmx⟩ := rows_open Try.underlying59 3 (by kernel_rfl) (by decide) coF (fun _ => True) con_of_cells g3
    refine ⟨(⟨b, fun k => if k < 10 then T1 k else T2 (k - 10), L⟩, .slice A m c), ⟨A, m, c, rfl, Lib.hid hL, ⟨hmc, hmx⟩, hR⟩, fun k hk => ?_⟩
    show _ = some (clF b _ _ k)
    unfold clF
    by_cases hk0 : k = 0
    · subst hk0
      rw [if_pos rfl]
      have := congrArg (fun l => l[0]?) e0
      simpa [List.getElem?_take, List.getElem?_drop] using this
    · rw [if_neg hk0]
      by_cases hk1 : k < 127
      · rw [if_pos hk1]
        by_cases hk2 : k - 1 < 30
        · have := h1 (k - 1) (by omega)
          rw [List.getElem?_take, if_pos (by omega), List.getElem?_drop, show 1 + (k - 1) = k by omega] at this
          rw [this]
          show _ = some (tgF (if (k - 1) / 3 < 10 then T1 ((k - 1) / 3) else T2 ((k - 1) / 3 - 10)) ((k - 1) % 3))
          rw [if_pos (by omega)]
          rfl
        · have := h2 (k - 31) (by omega)
          rw [List.getElem?_take, if_pos (by omega), List.getElem?_drop, show 31 + (k - 31) = k by omega] at this
          rw [this]
          show _ = some (tgF (if (k - 1) / 3 < 10 then T1 ((k - 1) / 3) else T2 ((k - 1) / 3 - 10)) ((k - 1) % 3))
          rw [if_neg (by omega)]
          unfold tsF
          rw [show (k - 31) / 3 = (k - 1) / 3 - 10 by omega, show (k - 31) % 3 = (k - 1) % 3 by omega]
      · rw [if_neg hk1]
        obtain rfl : k = 127 := by omega
        have := congrArg (fun l => l[0]?) e3
        simpa [List.getElem?_take, List.getElem?_drop] using this
theorem open_deed {W : World} {base : Nat} {v1 : Value} {d1 : DataW H} {p1 : List MemPlace} (hval : Value.okWide Try.prog W .any base 26 v1) (h1 : DataW.Trod enc Try.prog W 0 (fun _ => true) true 26 v1 d1 p1) :
    ∃ (vl vc : Value) (d : Md), v1 = .agg (arr 2 (deF vl vc)) ∧ DeedAt W.heap.size W vl vc d ∧ d.loops.length ≤ 9223372036854775807 ∧ d.claims.length ≤ 9223372036854775807 := by
  obtain ⟨cs, rfl, hsz⟩ := okWide_struct Try.underlying26 hval
  obtain ⟨fuel, h⟩ := h1
  have c2 : Try.prog.cellsOf 26 = 2 := by kernel_rfl
  rw [c2] at hsz
  obtain ⟨xs, k, hk, hxy, _, hxl, hf⟩ := DataW.trod_struct Try.underlying26 h
  have s1 : Try.prog.cellsOf 23 = 1 := by kernel_rfl
  have s2 : Try.prog.cellsOf 24 = 1 := by kernel_rfl
  obtain ⟨l, rfl⟩ : ∃ l : List Value, cs = l.toArray := ⟨cs.toList, by simp⟩
  have hl : l.length = 2 := by simpa using hsz
  match xs, hxl, l, hl with
  | [y0, y1], _, [v0, v1], _ =>
    have g0 := hf 0 _ rfl
    have g1 := hf 1 _ rfl
    simp [s1, s2, Value.cells] at g0 g1
    obtain ⟨A, m, c, L, e0, hL, _, hR, _, hm⟩ := rows_open Try.underlying23 5 (by kernel_rfl) (by decide) loF (fun _ => True) loop_of_cells g0
    obtain ⟨A', m', c', ps, e1, hP, hC, hR', _, hm'⟩ := rows_open Try.underlying24 128 (by kernel_rfl) (by decide) mcF (fun p => ConV W.heap.size W p.2 p.1.cons) claim_of_cells g1
    simp only [List.cons.injEq, and_true] at e0 e1
    refine ⟨v0, v1, ⟨L, ps.map Prod.fst⟩, rfl, ⟨⟨A, m, c, e0, Lib.hid hL, hR⟩, ⟨A', m', c', ps, e1, Lib.hid hP, rfl, hR', hC⟩⟩, by show L.length ≤ _; omega, by show (ps.map Prod.fst).length ≤ _; rw [List.length_map]; omega⟩
end
end Go.Proofs.Ytbomihdnnidelaa
