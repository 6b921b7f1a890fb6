/- Package deed: the small deed that is told ahead of every law. -/
import Derived.Test.YtbomihdnnidelaaDSc
namespace Go.Proofs.Ytbomihdnnidelaa
open Go.ChangeShapes Go.WideShapes Go.ChangeAt Go.RowKit
open Dee
set_option linter.unusedVariables false
set_option linter.unusedSimpArgs false
set_option maxRecDepth 100000
/-! what is read, what is written -/
theorem decD_ok {L : List Int} {d : De} (hB : Bytes L) (h : decD L = .ok d) : L = deW d ∧ deG d ∧ L.length ≤ 4194304 := by
  unfold decD at h
  by_cases hl : 4194304 < L.length
  · rw [if_pos hl] at h; cases h
  · rw [if_neg hl] at h
    cases he : endR L with
    | error x => rw [he] at h; cases h
    | ok x =>
      obtain ⟨x, t⟩ := x
      rw [he] at h
      injection h with h
      subst h
      have := end_forth L x t hB he
      exact ⟨this.1, this.2.1, by omega⟩
theorem decD_back {d : De} (h : deG d) (hl : (deW d).length ≤ 4194304) : decD (deW d) = .ok d := by
  unfold decD
  rw [if_neg (by omega), end_back d h]
theorem decD_at {L : List Int} {a : Nat} {e : Int} (h : decD L = .error (a, e)) : a ≤ L.length := by
  unfold decD at h
  by_cases hl : 4194304 < L.length
  · rw [if_pos hl] at h
    injection h with h
    injection h with h1 h2
    omega
  · rw [if_neg hl] at h
    cases he : endR L with
    | ok x => rw [he] at h; cases h
    | error x =>
      obtain ⟨x, t⟩ := x
      rw [he] at h
      injection h with h
      injection h with h1 h2
      omega
theorem OwnR.rows {α : Type} {e : TypeId} {s : Nat} {f : α → Nat → Value} {w : World} {base : Nat} {v : Value} {l : List α} (h : OwnR e s f w base v l) : ∃ A m c, v = .slice A m c ∧ Hid (l.length = m) ∧ m ≤ c ∧ RowsB w.heap.size w A s f l := by
  obtain ⟨A, m, c, e, h1, h2, h3, _⟩ := h.form
  exact ⟨A, m, c, e, Lib.hid h1.out.symm, h2, h3⟩
theorem DeedIn.at_ {w : World} {base : Nat} {d : De} {vl vc : Value} {cvs : List Cv} (h : DeedIn w base d vl vc cvs) (hg : deG d) : DeedAt w.heap.size w vl vc (mdOf d) := by
  obtain ⟨A, m, c, e, h1, _, h2⟩ := h.loops.rows
  obtain ⟨A', m', c', e', h1', _, h2'⟩ := h.claims.rows
  refine ⟨⟨A, m, c, e, h1, h2⟩, ⟨A', m', c', cvs.map (fun p => (mcOf p.1, p.2)), e', Lib.hid (by rw [List.length_map]; exact h1'.out), ?_, fun hp => ?_, fun p hp => ?_⟩⟩
  · rw [List.map_map]
    show _ = d.claims.map mcOf
    rw [← h.map, List.map_map]
    rfl
  · obtain ⟨b, off, e, hl, hc⟩ := h2' (by simpa using hp)
    refine ⟨b, off, e, hl, fun j a hj k hk => ?_⟩
    rw [List.getElem?_map] at hj
    obtain ⟨q, hq, rfl⟩ := Option.map_eq_some_iff.1 hj
    exact hc j q hq k hk
  · obtain ⟨q, hq, rfl⟩ := List.mem_map.1 hp
    obtain ⟨A, m, c, e, k1, k2, k3⟩ := (h.cons q hq).rows
    refine ⟨A, m, c, e, k1, ⟨k2, ?_⟩, k3⟩
    have hqc : q.1 ∈ d.claims := by rw [← h.map]; exact List.mem_map_of_mem hq
    obtain ⟨k, hk⟩ := List.mem_iff_getElem?.1 hqc
    have hgc := hg.2.2 k _ hk
    have hk1 := k1.out
    rcases hgc with hd | ⟨_, _, _, hc, _⟩
    · rw [hd] at hk1
      have : (0 : Nat) = m := hk1
      omega
    · omega
theorem DeedAt.mono {B B' : Nat} {w : World} {vl vc : Value} {d : Md} (h : DeedAt B w vl vc d) (hb : B ≤ B') : DeedAt B' w vl vc d := by
  have hr : ∀ {α : Type} {A : Option Addr} {s : Nat} {f : α → Nat → Value} {l : List α}, RowsB B w A s f l → RowsB B' w A s f l := fun h hp => by
    obtain ⟨b, off, e, hl, hc⟩ := h hp
    exact ⟨b, off, e, by omega, hc⟩
  obtain ⟨⟨A, m, c, e, h1, h2⟩, ⟨A', m', c', ps, e', h1', hm, h2', h3⟩⟩ := h
  exact ⟨⟨A, m, c, e, h1, hr h2⟩, ⟨A', m', c', ps, e', h1', hm, hr h2', fun p hp => by obtain ⟨A, m, c, e, k1, k2, k3⟩ := h3 p hp; exact ⟨A, m, c, e, k1, k2, hr k3⟩⟩⟩
theorem DeedAt.up {w w' : World} {vl vc : Value} {d : Md} (h : DeedAt w.heap.size w vl vc d) (hb : Below w.heap.size w w') : DeedAt w'.heap.size w' vl vc d := (h.keep hb).mono hb.size
theorem DeedAt.forms {B : Nat} {w : World} {vl vc : Value} {d : Md} (h : DeedAt B w vl vc d) : ∃ A m c A' m' c', vl = .slice A m c ∧ vc = .slice A' m' c' ∧ Hid (d.loops.length = m) ∧ Hid (d.claims.length = m') := by
  obtain ⟨⟨A, m, c, e, h1, h2⟩, ⟨A', m', c', ps, e', h1', hm, h2', h3⟩⟩ := h
  exact ⟨A, m, c, A', m', c', e, e', h1, Lib.hid (by rw [← hm, List.length_map]; exact h1'.out)⟩
/-! the small deed -/
def smallG : Nat → Tag := fun k => if k = 1 then ⟨3, 0, 0⟩ else if k = 2 then ⟨1, 0, 0⟩ else if k = 41 then ⟨1, 0, 0⟩ else if k = 40 then ⟨0, 0, 15⟩ else Tag.zero
def smallMd : Md := ⟨[], [⟨false, smallG, [⟨3, 0, 100⟩]⟩]⟩
def smallB : List Int := [87, 65, 82, 49, 0, 1, 1, 0, 3, 1, 0, 0, 0, 0, 0, 0, 0, 2, 30, 0, 15, 31, 1, 1, 3, 0, 200, 1]
theorem small_good : wrongMd smallMd = 0 := by rfl
theorem small_zig : zig 100 = 200 := by rfl
theorem small_bytes : deW (toDe smallMd) = smallB := by
  have h200 : num 200 = [200, 1] := by rw [num_high (by decide), num_low (by decide)]; rfl
  have h0 : num 0 = [0] := num_low (by decide)
  have h1 : num 1 = [1] := num_low (by decide)
  have h2 : num 2 = [2] := num_low (by decide)
  have e1 : ((List.range 10).map smallG).flatMap (tagW false) = [0, 3, 1, 0, 0, 0, 0, 0, 0, 0] := by rfl
  have e2 : entsF (fun s => smallG (10 + s)) 32 = [(30, ⟨0, 0, 15⟩), (31, ⟨1, 0, 0⟩)] := by rfl
  have e3 : ([(30, ⟨0, 0, 15⟩), (31, ⟨1, 0, 0⟩)] : List Ent).flatMap entW = [30, 0, 15, 31, 1] := by rfl
  have e4 : [(⟨3, 0, 100⟩ : Con)].flatMap conW = [3, 0] ++ num 200 := by
    rw [List.flatMap_cons, List.flatMap_nil, List.append_nil]
    rfl
  have he : clW (toCl ⟨false, smallG, [⟨3, 0, 100⟩]⟩) = 1 :: ([0, 3, 1, 0, 0, 0, 0, 0, 0, 0] ++ ((num 2 ++ [30, 0, 15, 31, 1]) ++ (num 1 ++ ([3, 0] ++ num 200)))) := by
    rw [clW_live _ rfl]
    simp only [e1, e2, e3, e4, List.length_cons, List.length_nil]
  show markL ++ ((num 0 ++ []) ++ (num 1 ++ [toCl ⟨false, smallG, [⟨3, 0, 100⟩]⟩].flatMap clW)) = _
  rw [List.flatMap_cons, List.flatMap_nil, he, h0, h1, h2, h200]
  rfl
theorem small_dec : decD smallB = .ok (toDe smallMd) := by
  have h := decD_back (deed_good small_good).2 (by rw [small_bytes]; exact Nat.le_of_ble_eq_true rfl)
  rwa [small_bytes] at h
theorem nine_dec : decD [87, 65, 82, 49, 9] = .error (4, 112) := by rfl
end Go.Proofs.Ytbomihdnnidelaa
