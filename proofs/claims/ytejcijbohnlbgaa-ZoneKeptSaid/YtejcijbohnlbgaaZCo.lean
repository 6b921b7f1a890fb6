/- The law's copy of a list of numbers; the cells of the law's call. -/
import Derived.Test.YtejcijbohnlbgaaZAs
import Derived.Test.YtejcijbohnlbgaaZoneM7
namespace Go.Proofs.Ytejcijbohnlbgaa
open Go.ChangeShapes Go.WideShapes Go.ChangeAt Go.RowKit
open Zon
set_option linter.unusedVariables false
set_option maxRecDepth 100000
theorem nums_reads {w : World} {A : Option Addr} {L : List Int} (h : NumsAt w A L) : Reads w w.heap.size 1 A L.length (L.map (Value.int .i64)) := by
  refine ⟨by simp, fun hn => ?_⟩
  obtain ⟨b, off, rfl, hb, hc⟩ := h hn
  refine ⟨_, rfl, hb, fun j u hu => ?_⟩
  rw [List.getElem?_map] at hu
  cases e : L[j]? with
  | none => rw [e] at hu; cases hu
  | some x =>
    rw [e] at hu
    injection hu with hu
    rw [addr_add]
    exact (hc j x e).trans (by rw [hu])
theorem nums_own {w : World} {base : Nat} {v : Value} {L : List Int} (h : w.ownsRow base 3 1 v L.length (L.map (Value.int .i64))) : ∃ A c, v = .slice A L.length c ∧ NumsAt w A L := by
  rcases h.2 with ⟨hv, hn⟩ | ⟨g, cap, cur, hv, hg, hh, hnc, hcm, hcs, hx⟩
  · exact ⟨none, 0, by rw [hv, hn], fun hp => by omega⟩
  · have hlt : g < w.heap.size := by
      rcases Nat.lt_or_ge g w.heap.size with h1 | h1
      · exact h1
      · rw [Array.getElem?_eq_none h1] at hh; cases hh
    refine ⟨_, cap, hv, fun _ => ⟨g, 0, rfl, hlt, fun m x hm => ?_⟩⟩
    rw [Nat.zero_add, cell_of_row w g m cur _ (0, 0) hh]
    have h3 : (L.map (Value.int .i64))[m]? = some (.int .i64 x) := by rw [List.getElem?_map, hm]; rfl
    rw [← hx] at h3
    have h2 : (cur.toList.take (L.length * 1))[m]? = some (.int .i64 x) := h3
    rw [List.getElem?_take] at h2
    split at h2
    · simpa using h2
    · cases h2
theorem int_info' : (Try.prog.info? 3).map (fun i => (i.zero, i.size, i.bytes)) = some (some (.int .i64 0), 1, 8) := by kernel_rfl
theorem nums_append (w : World) {ops : Array Oper} {rest : List Oper} {o : Oper} {a : Act} {Q : Exit → Act → World → Prop} (hgd : Region.wanted o (yielded ops a.tmps) = true) (s x : Operand)
    (ho : o.op = .call { callee := .builtin .append, args := #[s, x], argTypes := #[23, 23] })
    (hs : a.eval s = .slice none 0 0)
    (A : Option Addr) (m c : Nat) (M : List Int) (hx : a.eval x = .slice A m c) (hm : M.length = m) (hr : NumsAt w A M)
    (hlen : m ≤ 20000000000000)
    (h : ∀ A' c' w', NumsAt w' A' M → Below w.heap.size w w' → wpList Try.prog ops Q rest (a.put o.dst (.slice A' m c')) w') : wpList Try.prog ops Q (o :: rest) a w := by
  subst hm
  obtain ⟨i0, hi, hz0, hz1, hz2⟩ := info_parts int_info'
  have hown : w.ownsRow w.heap.size 3 1 (.slice none 0 0) 0 [] := ⟨rfl, .inl ⟨rfl, rfl⟩⟩
  refine wpList_append_wide w hgd s x 23 ho w.heap.size 3 i0 (.int .i64 0) 1 8 Try.underlying23 hi hz0 hz1 hz2 rfl (by decide) _ 0 [] hs hown w.heap.size A M.length c _ hx (nums_reads hr)
    (fun u hu => ?_) (by unfold maxLen; omega) (by omega) (Nat.le_refl _) ?_
  · simp only [List.mem_map] at hu
    obtain ⟨z, _, rfl⟩ := hu
    rfl
  · intro v' w' h1 h2
    rw [Nat.zero_add, List.nil_append] at h1
    obtain ⟨A', c', rfl, hA⟩ := nums_own h1
    exact h A' c' w' hA ((Below.refl _ w).grown h2 (Nat.le_refl _) fun k hk => (World.ownsRow.lt hown k hk).1)
set_option maxHeartbeats 1000000 in
theorem copyInts_any (w : World) (A : Option Addr) (n c : Nat) (L : List Int) (i : NumIn w A n c L) :
    Calls Try.prog 15 #[.slice A n c] w fun e w' => ∃ A' c', e = .returned (.slice A' n c') ∧ NumsAt w' A' L ∧ Below w.heap.size w w' := by
  have I := Lib.hid i
  have hn := i.reach
  clear i
  go_enter Try.func15, Try.ntmps15
  go_wp2_with (refine nums_append w rfl _ _ rfl rfl A n c L rfl I.out.len I.out.at_ (by omega) ?_; intro A' c' w' hA hB)
  have HA := Lib.hid hA
  have HB := Lib.hid hB
  clear hA hB
  go_wp2_with fail
  go_ret
  exact ⟨A', c', rfl, HA.out, HB.out⟩
/-- what the law reads of its call, in a box -/
structure OpAt (w : World) (b : Nat) (X Y C : Int) (V : Value) : Prop where
  lt : b < w.heap.size
  x : w.cell? ⟨b, 3, none⟩ = some (.int .i64 X)
  y : w.cell? ⟨b, 4, none⟩ = some (.int .i64 Y)
  c : w.cell? ⟨b, 5, none⟩ = some (.int .i64 C)
  vs : w.cell? ⟨b, 6, none⟩ = some V
theorem OpAt.up {w w' : World} {b : Nat} {X Y C : Int} {V : Value} (h : OpAt w b X Y C V) (hb : Below w.heap.size w w') : OpAt w' b X Y C V :=
  ⟨Nat.lt_of_lt_of_le h.lt hb.size, (hb.cell (p := ⟨b, 3, none⟩) h.lt).trans h.x, (hb.cell (p := ⟨b, 4, none⟩) h.lt).trans h.y, (hb.cell (p := ⟨b, 5, none⟩) h.lt).trans h.c, (hb.cell (p := ⟨b, 6, none⟩) h.lt).trans h.vs⟩
end Go.Proofs.Ytejcijbohnlbgaa
