/- Rows of bytes that a call owns, and a copy of bytes in memory of its own. -/
import Derived.Test.YtjhgjplhhhgfcaaOwn
import Derived.Test.YtjhgjplhhhgfcaaExt
import Derived.Test.YtjhgjplhhhgfcaaPut
import Derived.Laws.BytesArg
namespace Go.Proofs.Ytjhgjplhhhgfcaa
open Go.ChangeShapes Go.WideShapes Go.ChangeAt Go.RowKit
open Bits
set_option linter.unusedVariables false

def OwnB (w : World) (base : Nat) (v : Value) (L : List Int) : Prop := w.ownsRow base 5 1 v L.length (L.map (Value.int .u8))

theorem BytesAt.reads {w : World} {A : Option Addr} {L : List Int} (h : BytesAt w A L) : Reads w w.heap.size 1 A L.length (L.map (Value.int .u8)) := by
  refine ⟨by simp, fun hn => ?_⟩
  obtain ⟨b, off, rfl, hb, hc⟩ := h hn
  refine ⟨_, rfl, hb, fun j u hu => ?_⟩
  rw [List.getElem?_map] at hu
  have hj : j < L.length := by
    rcases Nat.lt_or_ge j L.length with h1 | h1
    · exact h1
    · rw [List.getElem?_eq_none h1] at hu; cases hu
  have := hc j hj
  rw [List.getElem?_eq_getElem hj] at this hu
  simp only [Option.map_some, Option.some.injEq, Option.getD_some] at hu this
  have e : ({ block := b, off := off } : Addr).add j = ⟨b, off + j, none⟩ := by
    unfold Addr.add; split
    · subst_vars; rfl
    · rfl
  rw [e, this, hu]
theorem OwnB.nil (w : World) (base : Nat) : OwnB w base (.slice none 0 0) [] := World.ownsRow_nil w base _ 1
theorem OwnB.form {w : World} {base : Nat} {v : Value} {L : List Int} (h : OwnB w base v L) : ∃ A c, v = .slice A L.length c ∧ BytesAt w A L := by
  rcases h.2 with ⟨hv, hn⟩ | ⟨g, cap, cur, hv, hg, hh, hnc, hcm, hcs, hx⟩
  · have : L = [] := List.eq_nil_of_length_eq_zero hn
    subst this
    exact ⟨none, 0, hv, fun h => by simp at h⟩
  · refine ⟨_, cap, hv, fun hp => ⟨g, 0, rfl, ?_, fun i hi => ?_⟩⟩
    · rcases Nat.lt_or_ge g w.heap.size with h1 | h1
      · exact h1
      · rw [Array.getElem?_eq_none h1] at hh; cases hh
    · have h2 : w.ownsRow base 5 1 (.slice (some ⟨g, 0, none⟩) L.length cap) L.length (L.map (Value.int .u8)) := hv ▸ h
      have := World.ownsRow.cellAt h2 i (by omega)
      rw [Nat.zero_add, this]
      simp [List.getElem?_eq_getElem hi]

theorem append_bytes {P : Program} (hu : P.underlying 43 = some (.slice 5)) (hinf : (P.info? 5).map (fun i => (i.zero, i.size, i.bytes)) = some (some (.int .u8 0), 1, 1)) (w : World) {ops : Array Oper} {rest : List Oper} {o : Oper} {a : Act} {Q : Exit → Act → World → Prop} (hgd : o.guard = none) (s x : Operand)
    (ho : o.op = .call { callee := .builtin .append, args := #[s, x], argTypes := #[43, 43] })
    (base : Nat) (v : Value) (L : List Int) (hs : a.eval s = v) (hown : OwnB w base v L)
    (A : Option Addr) (m c : Nat) (M : List Int) (hx : a.eval x = .slice A m c) (hm : M.length = m) (hr : BytesAt w A M)
    (hlen : L.length + m ≤ 140737488355328) (hbase : base ≤ w.heap.size)
    (h : ∀ v' w', OwnB w' base v' (L ++ M) → Below base w w' → wpList P ops Q rest (a.put o.dst v') w') : wpList P ops Q (o :: rest) a w := by
  subst hm
  obtain ⟨i0, hi, hz0, hz1, hz2⟩ := info_parts hinf
  refine wpList_append_any w hgd s x 43 ho base 5 i0 (.int .u8 0) 1 1 hu hi hz0 hz1 hz2 rfl (by decide) v L.length _ hs hown w.heap.size A M.length c _ hx hr.reads
    (fun u hu => ?_) (by unfold maxLen; omega) (by omega) hbase ?_
  · simp only [List.mem_map] at hu
    obtain ⟨z, _, rfl⟩ := hu
    rfl
  · intro v' w' h1 h2 _
    refine h v' w' ?_ ((Below.refl base w).grown h2 hbase fun k hk => (World.ownsRow.lt hown k hk).1)
    unfold OwnB
    rw [List.length_append, List.map_append]
    exact h1

/-- what a copy of bytes leaves -/
def Copied (w : World) (L : List Int) (e : Ending) (w' : World) : Prop := ∃ A c, e = .returned (.slice A L.length c) ∧ BytesAt w' A L ∧ Below w.heap.size w w'

theorem conv_at (w : World) (A : Option Addr) (n c : Nat) (L : List Int) (hL : L.length = n) (hp : 0 < n) (h : BytesAt w A L) :
    (convert 43 9 (.slice A n c)).run Try.prog w = .ok (.string (strOfNums L)) w := by
  obtain ⟨b, off, rfl, hlt, hc⟩ := h (by omega)
  exact run_convert_bytes_arg w 43 5 Try.underlying43 Try.underlying5 b off n c L hL (fun i hi => by rw [hc i (by omega), List.getD_eq_getElem?_getD]) 9 Try.underlying9
end Go.Proofs.Ytjhgjplhhhgfcaa
