/- Rows of bytes that were handed out (warrantlaw00.Book): what a row of bytes keeps; the marks; SameBytes, CopyBytes. -/
import Derived.Test.YtkfcfoidaalnlaaLdO
import Derived.Test.YtkfcfoidaalnlaaDraw
namespace Go.Proofs.Ytkfcfoidaalnlaa
open Go.ChangeShapes Go.WideShapes Go.ChangeAt Go.RowKit
open Bits HM
set_option linter.unusedVariables false
set_option linter.unusedSimpArgs false

theorem OwnB.stab {w w' : World} {x : Option Nat} {base : Nat} {v : Value} {L : List Int} (h : OwnB w base v L) (hs : StabI x w w') (hne : ∀ b, v.ownBlock = some b → some b ≠ x) : OwnB w' base v L := by
  obtain ⟨h1, h2⟩ := h
  refine ⟨h1, ?_⟩
  rcases h2 with h2 | ⟨g, cap, cur, rfl, hg, hh, h3⟩
  · exact .inl h2
  · exact .inr ⟨g, cap, cur, rfl, hg, (hs.2 g cur _ (0, 0) rfl hh (hne g rfl)).trans hh, h3⟩
theorem OwnB.lt {w : World} {base : Nat} {v : Value} {L : List Int} (h : OwnB w base v L) {b : Nat} (hb : v.ownBlock = some b) : base ≤ b ∧ b < w.heap.size := World.ownsRow.lt h b hb

section
variable {w : World} {base g N cap : Nat} {L : List Int}
theorem OwnB.cellAt (h : OwnB w base (.slice (some ⟨g, 0, none⟩) N cap) L) (hL : L.length = N) (j : Nat) (hj : j < N) : w.cell? ⟨g, j, none⟩ = some (.int .u8 (L[j]?.getD 0)) := by
  unfold OwnB at h
  rw [hL] at h
  have := World.ownsRow.cellAt h j (by omega)
  rw [this]
  simp [List.getElem?_eq_getElem (show j < L.length by omega)]
theorem OwnB.frozenAt (h : OwnB w base (.slice (some ⟨g, 0, none⟩) N cap) L) (hL : L.length = N) (j : Nat) : w.frozen? ⟨g, j, none⟩ = false := by
  unfold OwnB at h
  rw [hL] at h
  exact World.ownsRow.frozenAt h j
theorem OwnB.put (h : OwnB w base (.slice (some ⟨g, 0, none⟩) N cap) L) (hL : L.length = N) (j : Nat) (hj : j < N) (z : Int) : OwnB (w.setCell ⟨g, j, none⟩ (.int .u8 z)) base (.slice (some ⟨g, 0, none⟩) N cap) (L.set j z) := by
  unfold OwnB at h ⊢
  rw [hL] at h
  rw [List.length_set, hL, List.map_set]
  exact (World.ownsRow.stored h j (.int .u8 z)).1
theorem OwnB.pre (h : OwnB w base (.slice (some ⟨g, 0, none⟩) N cap) L) (n : Nat) (hn : n ≤ N) (hL : L.length = N) : OwnB w base (.slice (some ⟨g, 0, none⟩) n cap) (L.take n) := by
  obtain ⟨h1, h2⟩ := h
  have hlen : (L.take n).length = n := by rw [List.length_take]; omega
  unfold OwnB
  rw [hlen]
  refine ⟨by rw [List.length_map, hlen]; omega, ?_⟩
  rcases h2 with ⟨e, _⟩ | ⟨g2, cap2, cur, e, hg, hh, hnc, hcm, hcs, hx⟩
  · cases e
  · injection e with e1 e2 e3
    injection e1 with e1
    injection e1 with e1 _ _
    subst e1 e3
    refine .inr ⟨g, cap, cur, rfl, hg, hh, by omega, hcm, hcs, ?_⟩
    rw [List.map_take, ← hx, List.take_take]
    congr 1
    omega
end


theorem OwnB.heap_ {w : World} {base g n cap : Nat} {L : List Int} (h : OwnB w base (.slice (some ⟨g, 0, none⟩) n cap) L) : ∃ cur, Blk w g 5 cur ∧ base ≤ g ∧ n ≤ cap ∧ n = L.length := by
  rcases h.2 with ⟨e, _⟩ | ⟨g2, cap2, cur, e, hg, hh, hnc, hcm, hcs, hx⟩
  · cases e
  · injection e with e1 e2 e3
    injection e1 with e1
    injection e1 with e1 _ _
    subst e1 e3
    exact ⟨cur, hh, hg, by omega, e2⟩

/-- append of one byte to a row of the call's own, as one step -/
theorem append_byte1 {P : Program} (hu : P.underlying 22 = some (.slice 5)) (hinf : (P.info? 5).map (fun i => (i.zero, i.size, i.bytes)) = some (some (.int .u8 0), 1, 1)) (w : World) {ops : Array Oper} {rest : List Oper} {o : Oper} {a : Act} {Q : Exit → Act → World → Prop} (hgd : o.guard = none) (s x : Operand)
    (ho : o.op = .call { callee := .builtin .append, args := #[s, x], argTypes := #[22, 22] })
    (base : Nat) (v : Value) (L : List Int) (hs : a.eval s = v) (hown : OwnB w base v L) (g c : Nat) (z : Int) (hx : a.eval x = .slice (some ⟨g, 0, none⟩) 1 c) (hc : w.cell? ⟨g, 0, none⟩ = some (.int .u8 z))
    (hlen : L.length + 1 ≤ 1099511627776) (hbase : base ≤ w.heap.size)
    (h : ∀ v' w', OwnB w' base v' (L ++ [z]) → Keep w w' v v' L.length 1 → wpList P ops Q rest (a.put o.dst v') w') : wpList P ops Q (o :: rest) a w := by
  obtain ⟨i0, hi, hz0, hz1, hz2⟩ := info_parts hinf
  refine wpList_plain hgd fun K hK => ?_
  obtain ⟨v', w', hr, h2, h3⟩ := run_append_keep (P := P) w base 22 o.type 5 i0 (.int .u8 0) 1 1 hu hi hz0 hz1 hz2 rfl (by decide) v L.length _ hown ⟨g, 0, none⟩ 1 c [.int .u8 z] rfl
    (by intro j u hj
        match j, hj with
        | 0, hj => simp at hj; subst hj; simpa [Addr.add] using hc) (by simp [Value.oneCell']) (by unfold maxLen; omega) (by omega) hbase (by decide)
  unfold Oper.wp execOp
  simp only [ho, resolve, invoke, builtin, Sem.run_bind, Sem.run_pure, Result.andThen_ok, List.map_toArray, List.map_cons, List.map_nil, hs, hx, hr]
  refine hK _ _ (h v' w' ?_ h3)
  unfold OwnB
  rw [List.length_append, List.map_append]
  exact h2

theorem OwnB.any {w : World} {base : Nat} {v : Value} {L : List Int} (h : OwnB w base v L) : ∃ A n c, v = .slice A n c := by
  obtain ⟨A, c, e, -⟩ := h.form
  exact ⟨A, _, c, e⟩

theorem bk_conv_zero (w : World) (p : Option Addr) (c : Nat) : (convert 22 9 (.slice p 0 c)).run Try.prog w = .ok (.string (strOfNums [])) w := by
  cases p with
  | none => exact run_convert_bytes_nil w 22 5 Try.underlying22 Try.underlying5 0 c 9 Try.underlying9
  | some a =>
    rw [run_convert_bytes_string w 22 9 5 _ 0 c Try.underlying22 Try.underlying5 Try.underlying9]
    simp [Conv.bytesToString, loadCells]
    rfl
theorem bk_conv_any (w : World) (A : Option Addr) (n c : Nat) (L : List Int) (hL : L.length = n) (h : BytesAt w A L) :
    (convert 22 9 (.slice A n c)).run Try.prog w = .ok (.string (strOfNums L)) w := by
  rcases Nat.eq_zero_or_pos n with h0 | h0
  · subst h0
    obtain rfl : L = [] := List.eq_nil_of_length_eq_zero hL
    exact bk_conv_zero w A c
  · exact conv_at w A n c L hL h0 h
theorem same_all (w : World) (A : Option Addr) (n c : Nat) (A' : Option Addr) (c' : Nat) (L : List Int) (hL : L.length = n) (h : BytesAt w A L) (h' : BytesAt w A' L) :
    Calls Try.prog 14 #[.slice A n c, .slice A' n c'] w fun e w' => e = .returned (.bool true) ∧ w = w' := by
  have H1 := bk_conv_any w A n c L hL h
  have H2 := bk_conv_any w A' n c' L hL h'
  clear h h' hL
  generalize strOfNums L = S at *
  go_enter Try.func14, Try.ntmps14
  go_wp2
  go_ret
  exact ⟨rfl, rfl⟩
theorem copyBytes_own (w : World) (A : Option Addr) (n c : Nat) (L : List Int) (hL : L.length = n) (hlen : n ≤ 140737488355328) (h : BytesAt w A L) :
    Calls Try.prog 17 #[.slice A n c] w fun e w' => ∃ v, e = .returned v ∧ OwnB w' w.heap.size v L ∧ Below w.heap.size w w' := by
  have hown := OwnB.nil w w.heap.size
  go_enter Try.func17, Try.ntmps17
  go_wp2_with (at_builtin; (refine append_bytes Try.underlying22 byte_info _ rfl (.const (.slice none 0 0)) (.tmp 3) rfl w.heap.size _ _ rfl hown _ n c _ rfl hL h (by simpa using hlen) (Nat.le_refl _) ?_; intro v' w' hown' hB'))
  go_ret
  exact ⟨v', rfl, hown', hB'⟩
theorem OwnB.mono {w : World} {base base2 : Nat} {v : Value} {L : List Int} (h : OwnB w base v L) (hb : base2 ≤ base) : OwnB w base2 v L := by
  obtain ⟨h1, h2⟩ := h
  refine ⟨h1, ?_⟩
  rcases h2 with h2 | ⟨g, cap, cur, rfl, hg, h3⟩
  · exact .inl h2
  · exact .inr ⟨g, cap, cur, rfl, Nat.le_trans hb hg, h3⟩
theorem ownB_bytes {w : World} {base : Nat} {A : Option Addr} {n c : Nat} {L : List Int} (h : OwnB w base (.slice A n c) L) : BytesAt w A L := by
  obtain ⟨A', c', e, h2⟩ := h.form
  injection e with e1 e2 e3
  rw [e1]; exact h2
end Go.Proofs.Ytkfcfoidaalnlaa
