/- A slice of bounds, a slice of numbers that came in: their cells. -/
import Derived.Test.YtejcijbohnlbgaaEnd
import Derived.Test.YtejcijbohnlbgaaZOwn
import Derived.Deep.Slices
import Derived.SizedLaws
namespace Go.Proofs.Ytejcijbohnlbgaa
open Go.ChangeShapes Go.WideShapes Go.ChangeAt Go.RowKit Go.Deep
open Zon
set_option linter.unusedVariables false
set_option linter.unusedSimpArgs false
set_option maxRecDepth 100000
instance : Inhabited Con := ⟨⟨0, 0, 0⟩⟩
def I64 (x : Int) : Prop := -9223372036854775808 ≤ x ∧ x ≤ 9223372036854775807
def Zon.Con.rng (x : Con) : Prop := I64 x.i ∧ I64 x.j ∧ I64 x.c
theorem i64_wf {n : Int} (w : Lit.wf (.int .i64 n) = true) : I64 n := by
  simp only [Lit.wf, IntKind.min, IntKind.max, IntKind.signed, IntKind.bits, Bool.and_eq_true, decide_eq_true_eq] at w
  simp at w
  unfold I64
  omega
section
variable {H : Type} {enc : TypeId × Value → H}
theorem con_of_cells {W : World} {n : Nat} {cs : List Value} {x : DataW H × List MemPlace} (hlen : cs.length = 3) (h : DataW.trod enc Try.prog W 0 (fun _ => true) true n 99 cs = some x) : ∃ i : Con, i.rng ∧ cs = i.cells := by
  obtain ⟨xs, k, hk, hxy, _, hxl, hf⟩ := DataW.trod_struct Try.underlying99 h
  have c3 : Try.prog.cellsOf 3 = 1 := by kernel_rfl
  match xs, hxl, cs, hlen with
  | [y0, y1, y2], _, [v0, v1, v2], _ =>
    have g0 := hf 0 _ rfl
    have g1 := hf 1 _ rfl
    have g2 := hf 2 _ rfl
    simp [c3] at g0 g1 g2
    obtain ⟨n0, e0, -, w0⟩ := DataW.trod_int Try.underlying3 g0
    obtain ⟨n1, e1, -, w1⟩ := DataW.trod_int Try.underlying3 g1
    obtain ⟨n2, e2, -, w2⟩ := DataW.trod_int Try.underlying3 g2
    simp only [List.cons.injEq, and_true] at e0 e1 e2
    exact ⟨⟨n0, n1, n2⟩, ⟨i64_wf w0, i64_wf w1, i64_wf w2⟩, by rw [e0, e1, e2]; rfl⟩
theorem open_con {W : World} {base : Nat} {v1 : Value} {d1 : DataW H} {p1 : List MemPlace} (hval : Value.okWide Try.prog W .any base 22 v1) (h1 : DataW.Trod enc Try.prog W 0 (fun _ => true) true 22 v1 d1 p1) :
    ∃ (A : Option Addr) (n c : Nat) (L : List Con), v1 = .slice A n c ∧ L.length = n ∧ (∀ i ∈ L, i.rng) ∧ ConsAt W A L ∧ n ≤ c ∧
      ((d1 = .nil ∧ n = 0) ∨ ∃ xs ys : List (DataW H), xs.length = n ∧ d1 = .slice xs ys) := by
  obtain ⟨a1, len, cap, rfl⟩ := okWide_slice Try.underlying22 hval
  obtain ⟨fuel, hf⟩ := h1
  rcases open_slice Try.underlying22 hf with ⟨hcs, hx⟩ | ⟨a, len', cap', m, n, D, Pl, hcs, _, hl, hm, hmm, hx, hel⟩
  · simp [Value.cells] at hcs
    obtain ⟨rfl, rfl, rfl⟩ := hcs
    simp only [Prod.mk.injEq] at hx
    obtain ⟨rfl, rfl⟩ := hx
    exact ⟨none, 0, 0, [], rfl, rfl, (fun x hx => by simp at hx), (fun h => by simp at h), Nat.le_refl _, .inl ⟨rfl, rfl⟩⟩
  · simp [Value.cells] at hcs
    obtain ⟨rfl, rfl, rfl⟩ := hcs
    simp only [Prod.mk.injEq] at hx
    obtain ⟨rfl, rfl⟩ := hx
    simp only [if_true] at hmm
    subst hmm
    have c8 : Try.prog.cellsOf 99 = 3 := by kernel_rfl
    rw [c8] at hel
    obtain ⟨I, hI⟩ := choose_lt (α := Con) (n := m) (p := fun j i => i.rng ∧ ∀ k (hk : k < 3), W.cell? (a.add (j * 3 + k)) = i.cells[k]?) (fun j hj => by
      obtain ⟨cs', k1, k2⟩ := hel j hj
      obtain ⟨_, hlen, hcell⟩ := World.cells?_some k1
      obtain ⟨i, hr, rfl⟩ := con_of_cells hlen k2
      refine ⟨i, hr, fun k hk => ?_⟩
      have := hcell k (by omega)
      rw [add_add] at this
      exact this)
    refine ⟨some a, len, m, (List.range len).map I, rfl, by simp, fun i hi => ?_, fun hp => ?_, hl, .inr ⟨_, _, by simp, rfl⟩⟩
    · obtain ⟨j, hj, rfl⟩ := List.mem_map.1 hi
      exact (hI j (by have := List.mem_range.1 hj; omega)).1
    · have hpos : 0 < len := by simpa using hp
      obtain ⟨ab, ao, spot⟩ := a
      have h00 := (hI 0 (by omega)).2 0 (by decide)
      have hspot : spot = none := by simpa [Addr.add] using World.cell?_spot (show W.cell? _ = some _ from h00)
      subst hspot
      rw [Addr.add_lit] at h00
      refine ⟨ab, ao, rfl, ?_, fun j i hi => ?_⟩
      · rcases Nat.lt_or_ge ab W.heap.size with h2 | h2
        · exact h2
        · exfalso
          simp [World.cell?, Array.getElem?_eq_none h2, Con.cells] at h00
      · have hj : j < len := by
          rcases Nat.lt_or_ge j len with h2 | h2
          · exact h2
          · rw [List.getElem?_eq_none (by simpa using h2)] at hi; cases hi
        have hii : I j = i := by
          rw [List.getElem?_map, List.getElem?_range hj] at hi
          exact Option.some.inj hi
        have key : ∀ k, k < 3 → W.cell? ⟨ab, ao + j * 3 + k, none⟩ = i.cells[k]? := fun k hk => by
          have := (hI j (by omega)).2 k hk
          rw [Addr.add_lit, hii, ← Nat.add_assoc] at this
          exact this
        exact ⟨key 0 (by decide), key 1 (by decide), key 2 (by decide)⟩
/-- a slice of numbers -/
def NumsAt (w : World) (A : Option Addr) (L : List Int) : Prop := 0 < L.length → ∃ b off, A = some ⟨b, off, none⟩ ∧ b < w.heap.size ∧ ∀ i x, L[i]? = some x → w.cell? ⟨b, off + i, none⟩ = some (.int .i64 x)
theorem open_nums {W : World} {base : Nat} {v1 : Value} {d1 : DataW H} {p1 : List MemPlace} (hval : Value.okWide Try.prog W .any base 23 v1) (h1 : DataW.Trod enc Try.prog W 0 (fun _ => true) true 23 v1 d1 p1) :
    ∃ (A : Option Addr) (n c : Nat) (L : List Int), v1 = .slice A n c ∧ L.length = n ∧ (∀ x ∈ L, I64 x) ∧ NumsAt W A L ∧ n ≤ c ∧
      ((d1 = .nil ∧ n = 0) ∨ ∃ zs : List Int, zs.length = c ∧ n ≤ c ∧ d1 = .slice (lits .i64 (zs.take n)) (lits .i64 (zs.drop n))) := by
  obtain ⟨a1, len, cap, rfl⟩ := okWide_slice Try.underlying23 hval
  obtain ⟨fuel, hf⟩ := h1
  rcases open_ints Try.underlying23 Try.underlying3 (by kernel_rfl) hf with ⟨hcs, hx⟩ | ⟨a, len', cap', zs, hcs, _, hl, hm, hz, hx, hcell, hwz⟩
  · simp [Value.cells] at hcs
    obtain ⟨rfl, rfl, rfl⟩ := hcs
    simp only [Prod.mk.injEq] at hx
    obtain ⟨rfl, rfl⟩ := hx
    exact ⟨none, 0, 0, [], rfl, rfl, (fun x hx => by simp at hx), (fun h => by simp at h), Nat.zero_le _, .inl ⟨rfl, rfl⟩⟩
  · simp [Value.cells] at hcs
    obtain ⟨rfl, rfl, rfl⟩ := hcs
    simp only [Prod.mk.injEq] at hx
    obtain ⟨rfl, rfl⟩ := hx
    simp only [if_true] at hz
    refine ⟨some a, len, cap, zs.take len, rfl, by simp; omega, fun x hx => ?_, fun hp => ?_, by omega, .inr ⟨zs, hz, hl, rfl⟩⟩
    · exact i64_wf (hwz x (List.mem_of_mem_take hx))
    · have hpos : 0 < zs.length := by simp at hp; omega
      obtain ⟨ab, ao, spot⟩ := a
      have hspot : spot = none := by simpa [Addr.add] using World.cell?_spot (hcell 0 hpos)
      subst hspot
      refine ⟨ab, ao, rfl, ?_, fun i x hi => ?_⟩
      · have h0 := hcell 0 hpos
        rw [Addr.add_lit] at h0
        rcases Nat.lt_or_ge ab W.heap.size with h2 | h2
        · exact h2
        · exfalso
          simp [World.cell?, Array.getElem?_eq_none h2] at h0
      · have hi' : i < len := by
          rcases Nat.lt_or_ge i len with h2 | h2
          · exact h2
          · rw [List.getElem?_eq_none (by simp; omega)] at hi; cases hi
        rw [List.getElem?_take, if_pos hi'] at hi
        have hci := hcell i (by omega)
        rw [Addr.add_lit] at hci
        rw [hci]
        simp [List.getD_eq_getElem?_getD, hi]
end
/-- what a law is handed as a list of bounds -/
structure ConIn (W : World) (A : Option Addr) (n c : Nat) (L : List Con) : Prop where
  len : L.length = n
  reach : n ≤ 5864062014805
  rng : ∀ x ∈ L, x.rng
  at_ : ConsAt W A L
  cap : n ≤ c
structure NumIn (W : World) (A : Option Addr) (n c : Nat) (L : List Int) : Prop where
  len : L.length = n
  reach : n ≤ 17592186044416
  rng : ∀ x ∈ L, I64 x
  at_ : NumsAt W A L
  cap : n ≤ c
end Go.Proofs.Ytejcijbohnlbgaa
