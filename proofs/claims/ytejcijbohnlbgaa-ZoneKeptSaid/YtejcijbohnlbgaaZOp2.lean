/- The law's call, handed in as a struct, with the bounds up and down; the law's near. -/
import Derived.Test.YtejcijbohnlbgaaZOp
import Derived.Test.YtejcijbohnlbgaaZPt
namespace Go.Proofs.Ytejcijbohnlbgaa
open Go.ChangeShapes Go.WideShapes Go.ChangeAt Go.RowKit Go.Deep
open Zon
set_option linter.unusedVariables false
set_option linter.unusedSimpArgs false
set_option maxRecDepth 100000
/-- a slice of bounds, each there or not -/
def BsAt (w : World) (A : Option Addr) (L : List (Bool × Int)) : Prop := 0 < L.length → ∃ b off, A = some ⟨b, off, none⟩ ∧ b < w.heap.size ∧ ∀ (j : Nat) (i : Bool × Int), L[j]? = some i → w.cell? ⟨b, off + j * 2, none⟩ = some (.bool i.1) ∧ w.cell? ⟨b, off + j * 2 + 1, none⟩ = some (.int .i64 i.2)
def bCells (i : Bool × Int) : List Value := [.bool i.1, .int .i64 i.2]
theorem BsAt.below {w W : World} {A : Option Addr} {L : List (Bool × Int)} (h : BsAt w A L) (hb : Below w.heap.size w W) : BsAt W A L := fun hp => by
  obtain ⟨b, off, e, hl, hc⟩ := h hp
  exact ⟨b, off, e, Nat.lt_of_lt_of_le hl hb.size, fun j i hi => ⟨(hb.cell (p := ⟨b, off + j * 2, none⟩) hl).trans (hc j i hi).1, (hb.cell (p := ⟨b, off + j * 2 + 1, none⟩) hl).trans (hc j i hi).2⟩⟩
section
variable {H : Type} {enc : TypeId × Value → H}
theorem b_of_cells {W : World} {n : Nat} {cs : List Value} {x : DataW H × List MemPlace} (hlen : cs.length = 2) (h : DataW.trod enc Try.prog W 0 (fun _ => true) true n 119 cs = some x) : ∃ i : Bool × Int, I64 i.2 ∧ cs = bCells i := by
  obtain ⟨xs, k, hk, hxy, _, hxl, hf⟩ := DataW.trod_struct Try.underlying119 h
  have c3 : Try.prog.cellsOf 3 = 1 := by kernel_rfl
  have c4 : Try.prog.cellsOf 4 = 1 := by kernel_rfl
  match xs, hxl, cs, hlen with
  | [y0, y1], _, [v0, v1], _ =>
    have g0 := hf 0 _ rfl
    have g1 := hf 1 _ rfl
    simp [c3, c4] at g0 g1
    obtain ⟨n0, e0, -⟩ := DataW.trod_bool Try.underlying4 g0
    obtain ⟨n1, e1, -, w1⟩ := DataW.trod_int Try.underlying3 g1
    simp only [List.cons.injEq, and_true] at e0 e1
    exact ⟨(n0, n1), i64_wf w1, by rw [e0, e1]; rfl⟩
theorem bs_of_cells {W : World} {fuel : Nat} {cs : List Value} {x : DataW H × List MemPlace} (hf : DataW.trod enc Try.prog W 0 (fun _ => true) true fuel 24 cs = some x) :
    ∃ (A : Option Addr) (n c : Nat) (L : List (Bool × Int)), cs = [.slice A n c] ∧ L.length = n ∧ (∀ i ∈ L, I64 i.2) ∧ BsAt W A L := by
  rcases open_slice Try.underlying24 hf with ⟨hcs, hx⟩ | ⟨a, len', cap', m, n, D, Pl, hcs, _, hl, hm, hmm, hx, hel⟩
  · exact ⟨none, 0, 0, [], hcs, rfl, (fun x hx => by simp at hx), (fun h => by simp at h)⟩
  · simp only [if_true] at hmm
    subst hmm
    have c8 : Try.prog.cellsOf 119 = 2 := by kernel_rfl
    rw [c8] at hel
    obtain ⟨I, hI⟩ := choose_lt (α := Bool × Int) (n := m) (p := fun j i => I64 i.2 ∧ ∀ k (hk : k < 2), W.cell? (a.add (j * 2 + k)) = (bCells i)[k]?) (fun j hj => by
      obtain ⟨cs', k1, k2⟩ := hel j hj
      obtain ⟨_, hlen, hcell⟩ := World.cells?_some k1
      obtain ⟨i, hr, rfl⟩ := b_of_cells hlen k2
      refine ⟨i, hr, fun k hk => ?_⟩
      have := hcell k (by omega)
      rw [add_add] at this
      exact this)
    refine ⟨some a, len', m, (List.range len').map I, hcs, by simp, fun i hi => ?_, fun hp => ?_⟩
    · obtain ⟨j, hj, rfl⟩ := List.mem_map.1 hi
      exact (hI j (by have := List.mem_range.1 hj; omega)).1
    · have hpos : 0 < len' := by simpa using hp
      obtain ⟨ab, ao, spot⟩ := a
      have h00 := (hI 0 (by omega)).2 0 (by decide)
      have hspot : spot = none := by simpa [Addr.add] using World.cell?_spot (show W.cell? _ = some _ from h00)
      subst hspot
      rw [Addr.add_lit] at h00
      refine ⟨ab, ao, rfl, ?_, fun j i hi => ?_⟩
      · rcases Nat.lt_or_ge ab W.heap.size with h2 | h2
        · exact h2
        · exfalso
          simp [World.cell?, Array.getElem?_eq_none h2, bCells] at h00
      · have hj : j < len' := by
          rcases Nat.lt_or_ge j len' with h2 | h2
          · exact h2
          · rw [List.getElem?_eq_none (by simpa using h2)] at hi; cases hi
        have hii : I j = i := by
          rw [List.getElem?_map, List.getElem?_range hj] at hi
          exact Option.some.inj hi
        have key : ∀ k, k < 2 → W.cell? ⟨ab, ao + j * 2 + k, none⟩ = (bCells i)[k]? := fun k hk => by
          have := (hI j (by omega)).2 k hk
          rw [Addr.add_lit, hii, ← Nat.add_assoc] at this
          exact this
        exact ⟨key 0 (by decide), key 1 (by decide)⟩
theorem open_op2 {W : World} {base : Nat} {v1 : Value} {d1 : DataW H} {p1 : List MemPlace} (hval : Value.okWide Try.prog W .any base 26 v1) (h1 : DataW.Trod enc Try.prog W 0 (fun _ => true) true 26 v1 d1 p1) :
    ∃ (k0 k1 k2 X Y C : Int) (A6 A7 A8 A9 : Option Addr) (n6 c6 n7 c7 n8 c8 n9 c9 : Nat) (L8 L9 : List (Bool × Int)),
      v1 = .agg #[.int .i64 k0, .int .i64 k1, .int .i64 k2, .int .i64 X, .int .i64 Y, .int .i64 C, .slice A6 n6 c6, .slice A7 n7 c7, .slice A8 n8 c8, .slice A9 n9 c9] ∧ I64 X ∧
      (L8.length = n8 ∧ (∀ i ∈ L8, I64 i.2) ∧ BsAt W A8 L8) ∧ (L9.length = n9 ∧ (∀ i ∈ L9, I64 i.2) ∧ BsAt W A9 L9) := by
  obtain ⟨cs, rfl, hsz⟩ := okWide_struct Try.underlying26 hval
  obtain ⟨fuel, h⟩ := h1
  have c10 : Try.prog.cellsOf 26 = 10 := by kernel_rfl
  rw [c10] at hsz
  obtain ⟨xs, k, hk, hxy, _, hxl, hf⟩ := DataW.trod_struct Try.underlying26 h
  have c3 : Try.prog.cellsOf 3 = 1 := by kernel_rfl
  have s1 : Try.prog.cellsOf 23 = 1 := by kernel_rfl
  have s2 : Try.prog.cellsOf 22 = 1 := by kernel_rfl
  have s3 : Try.prog.cellsOf 24 = 1 := by kernel_rfl
  obtain ⟨l, rfl⟩ : ∃ l : List Value, cs = l.toArray := ⟨cs.toList, by simp⟩
  have hl : l.length = 10 := by simpa using hsz
  match xs, hxl, l, hl with
  | [y0, y1, y2, y3, y4, y5, y6, y7, y8, y9], _, [v0, v1, v2, v3, v4, v5, v6, v7, v8, v9], _ =>
    have g0 := hf 0 _ rfl
    have g1 := hf 1 _ rfl
    have g2 := hf 2 _ rfl
    have g3 := hf 3 _ rfl
    have g4 := hf 4 _ rfl
    have g5 := hf 5 _ rfl
    have g6 := hf 6 _ rfl
    have g7 := hf 7 _ rfl
    have g8 := hf 8 _ rfl
    have g9 := hf 9 _ rfl
    simp [c3, s1, s2, s3, Value.cells] at g0 g1 g2 g3 g4 g5 g6 g7 g8 g9
    obtain ⟨n0, e0, -, w0⟩ := DataW.trod_int Try.underlying3 g0
    obtain ⟨n1, e1, -, w1⟩ := DataW.trod_int Try.underlying3 g1
    obtain ⟨n2, e2, -, w2⟩ := DataW.trod_int Try.underlying3 g2
    obtain ⟨n3, e3, -, w3⟩ := DataW.trod_int Try.underlying3 g3
    obtain ⟨n4, e4, -, w4⟩ := DataW.trod_int Try.underlying3 g4
    obtain ⟨n5, e5, -, w5⟩ := DataW.trod_int Try.underlying3 g5
    obtain ⟨A6, n6, c6, e6⟩ := slice_of_cells Try.underlying23 g6
    obtain ⟨A7, n7, c7, e7⟩ := slice_of_cells Try.underlying22 g7
    obtain ⟨A8, n8, c8, L8, e8, q1, q2, q3⟩ := bs_of_cells g8
    obtain ⟨A9, n9, c9, L9, e9, r1, r2, r3⟩ := bs_of_cells g9
    simp only [List.cons.injEq, and_true] at e0 e1 e2 e3 e4 e5 e6 e7 e8 e9
    exact ⟨n0, n1, n2, n3, n4, n5, A6, A7, A8, A9, n6, c6, n7, c7, n8, c8, n9, c9, L8, L9, by rw [e0, e1, e2, e3, e4, e5, e6, e7, e8, e9], i64_wf w3, ⟨q1, q2, q3⟩, ⟨r1, r2, r3⟩⟩
end
/-- the law's near: those within 2^40 -/
def n40 (c : Int) : Bool := decide (-1099511627776 ≤ c) && decide (c ≤ 1099511627776)
def nearF (L : List (Bool × Int)) : Nat → Bool × Int := fun q => match L[q]? with | some y => if y.1 && n40 y.2 then (true, y.2) else (false, 0) | none => (false, 0)
def nearK (b : Nat → Bool × Int) (k : Nat) : Nat → Bool × Int := fun q => if q < k then b q else (false, 0)
theorem nearK_step {b : Nat → Bool × Int} {k : Nat} {v : Bool × Int} (h : b k = v) : updB (nearK b k) k v = nearK b (k + 1) := funext fun q => by
  unfold updB nearK
  by_cases e : q = k
  · rw [if_pos e, if_pos (by omega), e, h]
  · rw [if_neg e]
    by_cases e2 : q < k
    · rw [if_pos e2, if_pos (by omega)]
    · rw [if_neg e2, if_neg (by omega)]
theorem nearK_skip {b : Nat → Bool × Int} {k : Nat} (h : b k = (false, 0)) : nearK b k = nearK b (k + 1) := funext fun q => by
  unfold nearK
  by_cases e2 : q < k
  · rw [if_pos e2, if_pos (by omega)]
  · rw [if_neg e2]
    by_cases e : q = k
    · rw [if_pos (by omega), e, h]
    · rw [if_neg (by omega)]
theorem nearF_at {L : List (Bool × Int)} {q : Nat} {y : Bool × Int} (h : L[q]? = some y) : nearF L q = if y.1 && n40 y.2 then (true, y.2) else (false, 0) := by unfold nearF; rw [h]
theorem nearF_out {L : List (Bool × Int)} {q : Nat} (h : L.length ≤ q) : nearF L q = (false, 0) := by unfold nearF; rw [List.getElem?_eq_none h]
theorem nearF_rng {L : List (Bool × Int)} {q : Nat} (h : (nearF L q).1 = true) : -1099511627776 ≤ (nearF L q).2 ∧ (nearF L q).2 ≤ 1099511627776 := by
  unfold nearF at *
  cases e : L[q]? with
  | none => rw [e] at h; cases h
  | some y =>
    rw [e] at h
    simp only at h ⊢
    by_cases g : (y.1 && n40 y.2) = true
    · rw [if_pos g]; unfold n40 at g; simp at g; omega
    · rw [if_neg g] at h; cases h
end Go.Proofs.Ytejcijbohnlbgaa
