/- Rows that a call owns; alu and jump of the document's answer for package code. -/
import Derived.Test.YtaglclmfjopnlaaDoorRefU
import Derived.Test.YtaglclmfjopnlaaDoorRefM
namespace Go.Proofs.YtaglclmfjopnlaaDoor
open Go.ChangeShapes Go.WideShapes Go.ChangeAt Go.RowKit
open Cod Bits
set_option linter.unusedVariables false
set_option linter.unusedSimpArgs false

abbrev row11 (code op size : Int) (nar reg : Bool) (dst src off imm second : Int) (writes : Bool) : Array Value := #[.int .i64 code, .int .i64 op, .int .i64 size, .bool nar, .bool reg, .int .i64 dst, .int .i64 src, .int .i64 off, .int .i64 imm, .int .i64 second, .bool writes]
def OwnR (w : World) (base : Nat) (v : Value) (L : List RRow) : Prop := w.ownsRow base 65 11 v L.length (L.flatMap RRow.cells)
theorem OwnR.below {w w' : World} {base : Nat} {v : Value} {L : List RRow} (h : OwnR w base v L) (hb : Below w.heap.size w w') : OwnR w' base v L := own_keep h hb
theorem OwnR.nil (w : World) (base : Nat) : OwnR w base (.slice none 0 0) [] := World.ownsRow_nil w base _ 11
theorem OwnR.form {w : World} {base : Nat} {v : Value} {L : List RRow} (h : OwnR w base v L) : ∃ A c, v = .slice A L.length c := by
  rcases h.2 with ⟨hv, hn⟩ | ⟨g, cap, cur, hv, _⟩
  · exact ⟨none, 0, by rw [hv, hn]⟩
  · exact ⟨_, _, hv⟩
/-- cells at an address are this row -/
def RowIs (w : World) (b o : Nat) (r : RRow) : Prop :=
  w.cell? ⟨b, o, none⟩ = some (.int .i64 r.code) ∧ w.cell? ⟨b, o + 1, none⟩ = some (.int .i64 r.op) ∧ w.cell? ⟨b, o + 2, none⟩ = some (.int .i64 r.size) ∧ w.cell? ⟨b, o + 3, none⟩ = some (.bool r.nar) ∧ w.cell? ⟨b, o + 4, none⟩ = some (.bool r.reg) ∧
  w.cell? ⟨b, o + 5, none⟩ = some (.int .i64 r.dst) ∧ w.cell? ⟨b, o + 6, none⟩ = some (.int .i64 r.src) ∧ w.cell? ⟨b, o + 7, none⟩ = some (.int .i64 r.off) ∧ w.cell? ⟨b, o + 8, none⟩ = some (.int .i64 r.imm) ∧ w.cell? ⟨b, o + 9, none⟩ = some (.int .i64 r.second) ∧ w.cell? ⟨b, o + 10, none⟩ = some (.bool r.writes)
def RowsAt (w : World) (A : Option Addr) (L : List RRow) : Prop := 0 < L.length → ∃ b off, A = some ⟨b, off, none⟩ ∧ b < w.heap.size ∧ ∀ j r, L[j]? = some r → RowIs w b (off + j * 11) r
theorem RowIs.below {w w' : World} {B b o : Nat} {r : RRow} (h : RowIs w b o r) (hb : Below B w w') (hl : b < B) : RowIs w' b o r := by
  obtain ⟨h0, h1, h2, h3, h4, h5, h6, h7, h8, h9, h10⟩ := h
  exact ⟨(hb.cell (p := ⟨b, o, none⟩) hl).trans h0, (hb.cell (p := ⟨b, o + 1, none⟩) hl).trans h1, (hb.cell (p := ⟨b, o + 2, none⟩) hl).trans h2, (hb.cell (p := ⟨b, o + 3, none⟩) hl).trans h3, (hb.cell (p := ⟨b, o + 4, none⟩) hl).trans h4, (hb.cell (p := ⟨b, o + 5, none⟩) hl).trans h5, (hb.cell (p := ⟨b, o + 6, none⟩) hl).trans h6, (hb.cell (p := ⟨b, o + 7, none⟩) hl).trans h7, (hb.cell (p := ⟨b, o + 8, none⟩) hl).trans h8, (hb.cell (p := ⟨b, o + 9, none⟩) hl).trans h9, (hb.cell (p := ⟨b, o + 10, none⟩) hl).trans h10⟩
theorem RowsAt.below {w w' : World} {A : Option Addr} {L : List RRow} (h : RowsAt w A L) (hb : Below w.heap.size w w') : RowsAt w' A L := fun hp => by
  obtain ⟨b, off, e, hl, hc⟩ := h hp
  exact ⟨b, off, e, Nat.lt_of_lt_of_le hl hb.size, fun j i hi => (hc j i hi).below hb hl⟩
theorem flat_len11 (L : List RRow) : (L.flatMap RRow.cells).length = L.length * 11 := by
  induction L with
  | nil => rfl
  | cons i t ih => rw [List.flatMap_cons, List.length_append, ih, List.length_cons]; simp [RRow.cells]; omega
theorem flat_get11 : ∀ (L : List RRow) (j : Nat) (i : RRow), L[j]? = some i → ∀ k, k < 11 → (L.flatMap RRow.cells)[j * 11 + k]? = i.cells[k]?
  | a :: t, 0, i, h, k, hk => by
    have e : a = i := by simpa using h
    subst e
    rw [List.flatMap_cons, List.getElem?_append_left (by simp [RRow.cells]; omega)]
    simp
  | a :: t, j + 1, i, h, k, hk => by
    have h2 : t[j]? = some i := by simpa using h
    have hl : a.cells.length = 11 := rfl
    rw [List.flatMap_cons, List.getElem?_append_right (by omega), hl, show (j + 1) * 11 + k - 11 = j * 11 + k by omega]
    exact flat_get11 t j i h2 k hk
theorem rowsAt_cells {w : World} {g : Nat} {L : List RRow} (hlt : g < w.heap.size) (h : ∀ m v, (L.flatMap RRow.cells)[m]? = some v → w.cell? ⟨g, m, none⟩ = some v) : RowsAt w (some ⟨g, 0, none⟩) L := fun _ =>
  ⟨g, 0, rfl, hlt, fun j i hi => by
    have k := flat_get11 L j i hi
    rw [Nat.zero_add]
    exact ⟨h _ _ (k 0 (by decide)), h _ _ (k 1 (by decide)), h _ _ (k 2 (by decide)), h _ _ (k 3 (by decide)), h _ _ (k 4 (by decide)), h _ _ (k 5 (by decide)), h _ _ (k 6 (by decide)), h _ _ (k 7 (by decide)), h _ _ (k 8 (by decide)), h _ _ (k 9 (by decide)), h _ _ (k 10 (by decide))⟩⟩
theorem OwnR.rowsAt {w : World} {base : Nat} {v : Value} {L : List RRow} (h : OwnR w base v L) : ∃ A c, v = .slice A L.length c ∧ RowsAt w A L := by
  rcases h.2 with ⟨hv, hn⟩ | ⟨g, cap, cur, hv, hg, hh, hnc, hcm, hcs, hx⟩
  · exact ⟨none, 0, by rw [hv, hn], fun hp => by omega⟩
  · have hlt : g < w.heap.size := by
      rcases Nat.lt_or_ge g w.heap.size with h1 | h1
      · exact h1
      · rw [Array.getElem?_eq_none h1] at hh; cases hh
    refine ⟨_, cap, hv, rowsAt_cells hlt fun m u hm => ?_⟩
    rw [cell_of_row w g m cur 65 (0, 0) hh]
    rw [← hx] at hm
    have h2 : (cur.toList.take (L.length * 11))[m]? = some u := hm
    rw [List.getElem?_take] at h2
    split at h2
    · simpa using h2
    · cases h2
theorem row_one (w : World) (r : RRow) : Reads (w.alloc (.cells r.cells.toArray 65)) (w.heap.size + 1) 11 (some ⟨w.heap.size, 0, none⟩) 1 r.cells := by
  refine ⟨rfl, fun _ => ⟨⟨w.heap.size, 0, none⟩, rfl, by simp, fun j u hu => ?_⟩⟩
  rw [Addr.add_lit, Nat.zero_add, (Blk.new w 65 r.cells.toArray).cell j]
  simpa using hu
theorem size_box (w : World) (o : Obj) : w.heap.size + 1 = (w.alloc o).heap.size := by simp
theorem row_info : (Tryd.prog.info? 65).map (fun i => (i.zero, i.size, i.bytes)) = some (some (.agg (row11 0 0 0 false false 0 0 0 0 0 false)), 11, 80) := by kernel_rfl
/-- one row more, laid in a box ahead of it -/
theorem append_row {P : Program} (hu : P.underlying 47 = some (.slice 65)) (hinf : (P.info? 65).map (fun i => (i.zero, i.size, i.bytes)) = some (some (.agg (row11 0 0 0 false false 0 0 0 0 0 false)), 11, 80)) (w w0 : World) {ops : Array Oper} {rest : List Oper} {o : Oper} {a : Act} {Q : Exit → Act → World → Prop} (hgd : Region.wanted o (yielded ops a.tmps) = true) (s x : Operand)
    (ho : o.op = .call { callee := .builtin .append, args := #[s, x], argTypes := #[47, 47] })
    (base : Nat) (v : Value) (L : List RRow) (hs : a.eval s = v) (hown : OwnR w0 base v L) (r : RRow) (hw : w = w0.alloc (.cells r.cells.toArray 65))
    (g : Nat) (hg : g = w0.heap.size) (hx : a.eval x = .slice (some ⟨g, 0, none⟩) 1 1)
    (hlen : L.length ≤ 4096) (hbase : base ≤ w0.heap.size)
    (h : ∀ v' w', OwnR w' base v' (L ++ [r]) → Below base w0 w' → (∀ b, b < w0.heap.size → some b ≠ v.ownBlock → w'.heap[b]? = w0.heap[b]?) → wpList P ops Q rest (a.put o.dst v') w') : wpList P ops Q (o :: rest) a w := by
  subst hw hg
  obtain ⟨i0, hi, hz0, hz1, hz2⟩ := info_parts hinf
  have hbx := below_box w0 (.cells r.cells.toArray 65)
  refine wpList_append_wide _ hgd s x 47 ho base 65 i0 _ 11 80 hu hi hz0 hz1 hz2 rfl (by decide) v L.length _ hs (own_keep hown hbx) (w0.heap.size + 1) (some ⟨w0.heap.size, 0, none⟩) 1 1 _ hx (row_one w0 r)
    (fun u hu => ?_) (by unfold maxLen; omega) (by omega) (Nat.le_trans hbase hbx.size) ?_
  · simp only [RRow.cells, List.mem_cons, List.not_mem_nil, or_false] at hu
    rcases hu with rfl | rfl | rfl | rfl | rfl | rfl | rfl | rfl | rfl | rfl | rfl <;> rfl
  · intro v' w' h1 h2
    refine h v' w' ?_ (((Below.refl base w0).alloc hbase _).grown h2 (Nat.le_trans hbase hbx.size) fun k hk => (World.ownsRow.lt hown k hk).1) (fun b hb hne => (h2.block b (Nat.lt_of_lt_of_le hb hbx.size) hne).trans (Below.heap_alloc w0 _ b hb))
    unfold OwnR
    rw [List.length_append, List.flatMap_append]
    simpa using h1
/-- rows, one more, in a list that goes on -/
def OwnedR (base : Nat) (w : World) (L : List RRow) (e : Ending) (w' : World) : Prop := ∃ v, e = .returned v ∧ OwnR w' base v L ∧ Below base w w'
theorem alu_steps (op digit off : Int) : aluL op digit off = [aluRow op digit off 0, aluRow op digit off 1, aluRow op digit off 2, aluRow op digit off 3] := rfl
theorem alu_take (op digit off : Int) (j : Nat) (h : j < 4) : (aluL op digit off).take (j + 1) = (aluL op digit off).take j ++ [aluRow op digit off j] := by
  refine take_next _ j _ ?_
  unfold aluL
  rw [List.getElem?_map, List.getElem?_range h]; rfl
theorem alu_len (op digit off : Int) (j : Nat) : ((aluL op digit off).take j).length ≤ 4 := by rw [List.length_take]; simp [aluL]; omega
set_option maxRecDepth 100000 in
set_option maxHeartbeats 4000000 in
theorem alu_any (w : World) (base : Nat) (v : Value) (L : List RRow) (op digit off : Int) (hd : 0 ≤ digit ∧ digit ≤ 15) (hown : OwnR w base v L) (hl : L.length ≤ 4000) (hb : base ≤ w.heap.size) :
    Calls Tryd.prog 43 #[v, .int .i64 op, .int .i64 digit, .int .i64 off] w (OwnedR base w (L ++ aluL op digit off)) := by
  have HO := Lib.hid hown
  obtain ⟨A0, c0, rfl⟩ := hown.form
  obtain ⟨hd1, hd2⟩ := hd
  have HL := Lib.hid hl
  have HB := Lib.hid hb
  clear hown hl hb
  generalize hV : Value.slice A0 L.length c0 = V at *
  have HV := Lib.hid hV
  clear hV
  go_enter Tryd.func43, Tryd.ntmps43
  go_wp2_with fail
  go_loopw [0, 9] (fun l i wr => ∃ j : Nat, j ≤ 4 ∧ i = .int .i64 j ∧ OwnR wr base l (L ++ (aluL op digit off).take j) ∧ Below base w wr) (fun _ i _ => (4 - intOf i).toNat)
  case atStart => exact ⟨0, Nat.zero_le _, rfl, by simpa using HO.out, Below.refl _ _⟩
  case round =>
    obtain ⟨j, hj, rfl, hown, hB⟩ := hrel
    by_cases hlt : j < 4
    · have hlt' : (j : Int) < 4 := by omega
      have hj0 : (0 : Int) ≤ (j : Int) := by omega
      have hlen : (L ++ (aluL op digit off).take j).length ≤ 4096 := by
        rw [List.length_append]; have := alu_len op digit off j; have := HL.out; omega
      have HT := Lib.hid (alu_take op digit off j hlt)
      have hbw : base ≤ wr.heap.size := Nat.le_trans HB.out hB.size
      have HW := Lib.hid hB
      have HOW := Lib.hid hown
      have HR := Lib.hid (show (j = 0 ∨ j = 1 ∨ j = 2 ∨ j = 3) ∧ ∀ r, aluRow op digit off j = r → L ++ (aluL op digit off).take (j + 1) = L ++ (aluL op digit off).take j ++ [r] from ⟨by omega, fun r e => by rw [HT.out, ← List.append_assoc, e]⟩)
      obtain ⟨A1, c1, rfl⟩ := hown.form
      clear hown hB
      generalize L ++ (aluL op digit off).take j = T at *
      rcases HR.out.1 with h0 | h0 | h0 | h0
      · have t1 : ((j : Int) % 2 == 1) = false := by rw [h0]; rfl
        have t2 : decide ((2 : Int) ≤ (j : Int)) = false := by rw [h0]; rfl
        have HE := Lib.hid (HR.out.2 ⟨16 * digit + 7, op, 0, false, false, -1, 0, off, -1, 0, true⟩ (by rw [h0]; simp [aluRow]))
        clear h0
        go_wp2_with (at_builtin; (refine append_row Tryd.underlying47 row_info _ (wr.alloc _) rfl (.tmp 38) (.tmp 40) rfl base _ _ rfl (HOW.out.below (below_box wr _)) ⟨16 * digit + 7, op, 0, false, false, -1, 0, off, -1, 0, true⟩ rfl _ (size_box wr _) rfl hlen (Nat.le_trans hbw (below_box wr _).size) ?_; intro v' w' hown' hB' _))
        go_roundw
        case rel => exact ⟨j + 1, by omega, by go_num, by rw [HE.out]; exact hown', HW.out.trans (((below_box wr _).mono hbw).trans hB')⟩
        case measure => simp [intOf]; omega
      · have t1 : ((j : Int) % 2 == 1) = true := by rw [h0]; rfl
        have t2 : decide ((2 : Int) ≤ (j : Int)) = false := by rw [h0]; rfl
        have HE := Lib.hid (HR.out.2 ⟨16 * digit + 7 + 8, op, 0, false, true, -1, -1, off, 0, 0, true⟩ (by rw [h0]; simp [aluRow]))
        clear h0
        go_wp2_with (at_builtin; (refine append_row Tryd.underlying47 row_info _ (wr.alloc _) rfl (.tmp 38) (.tmp 40) rfl base _ _ rfl (HOW.out.below (below_box wr _)) ⟨16 * digit + 7 + 8, op, 0, false, true, -1, -1, off, 0, 0, true⟩ rfl _ (size_box wr _) rfl hlen (Nat.le_trans hbw (below_box wr _).size) ?_; intro v' w' hown' hB' _))
        go_roundw
        case rel => exact ⟨j + 1, by omega, by go_num, by rw [HE.out]; exact hown', HW.out.trans (((below_box wr _).mono hbw).trans hB')⟩
        case measure => simp [intOf]; omega
      · have t1 : ((j : Int) % 2 == 1) = false := by rw [h0]; rfl
        have t2 : decide ((2 : Int) ≤ (j : Int)) = true := by rw [h0]; rfl
        have HE := Lib.hid (HR.out.2 ⟨16 * digit + 7 - 3, op, 0, true, false, -1, 0, off, -1, 0, true⟩ (by rw [h0]; simp [aluRow]))
        clear h0
        go_wp2_with (at_builtin; (refine append_row Tryd.underlying47 row_info _ (wr.alloc _) rfl (.tmp 38) (.tmp 40) rfl base _ _ rfl (HOW.out.below (below_box wr _)) ⟨16 * digit + 7 - 3, op, 0, true, false, -1, 0, off, -1, 0, true⟩ rfl _ (size_box wr _) rfl hlen (Nat.le_trans hbw (below_box wr _).size) ?_; intro v' w' hown' hB' _))
        go_roundw
        case rel => exact ⟨j + 1, by omega, by go_num, by rw [HE.out]; exact hown', HW.out.trans (((below_box wr _).mono hbw).trans hB')⟩
        case measure => simp [intOf]; omega
      · have t1 : ((j : Int) % 2 == 1) = true := by rw [h0]; rfl
        have t2 : decide ((2 : Int) ≤ (j : Int)) = true := by rw [h0]; rfl
        have HE := Lib.hid (HR.out.2 ⟨16 * digit + 7 + 8 - 3, op, 0, true, true, -1, -1, off, 0, 0, true⟩ (by rw [h0]; simp [aluRow]))
        clear h0
        go_wp2_with (at_builtin; (refine append_row Tryd.underlying47 row_info _ (wr.alloc _) rfl (.tmp 38) (.tmp 40) rfl base _ _ rfl (HOW.out.below (below_box wr _)) ⟨16 * digit + 7 + 8 - 3, op, 0, true, true, -1, -1, off, 0, 0, true⟩ rfl _ (size_box wr _) rfl hlen (Nat.le_trans hbw (below_box wr _).size) ?_; intro v' w' hown' hB' _))
        go_roundw
        case rel => exact ⟨j + 1, by omega, by go_num, by rw [HE.out]; exact hown', HW.out.trans (((below_box wr _).mono hbw).trans hB')⟩
        case measure => simp [intOf]; omega
    · obtain rfl : j = 4 := by omega
      have t4 : decide (((4 : Nat) : Int) < 4) = false := rfl
      have htk : (aluL op digit off).take 4 = aluL op digit off := rfl
      rw [htk] at hown
      have HOW := Lib.hid hown
      obtain ⟨A1, c1, rfl⟩ := hown.form
      clear hown htk
      go_wp2_with fail
      go_ret
      exact ⟨_, rfl, HOW.out, hB⟩
theorem jump_steps (op digit : Int) : jumpRL op digit = [jumpRow op digit 0, jumpRow op digit 1, jumpRow op digit 2, jumpRow op digit 3] := rfl
theorem jump_take (op digit : Int) (j : Nat) (h : j < 4) : (jumpRL op digit).take (j + 1) = (jumpRL op digit).take j ++ [jumpRow op digit j] := by
  refine take_next _ j _ ?_
  unfold jumpRL
  rw [List.getElem?_map, List.getElem?_range h]; rfl
theorem jump_len (op digit : Int) (j : Nat) : ((jumpRL op digit).take j).length ≤ 4 := by rw [List.length_take]; simp [jumpRL]; omega
set_option maxRecDepth 100000 in
set_option maxHeartbeats 4000000 in
theorem jump_any (w : World) (base : Nat) (v : Value) (L : List RRow) (op digit : Int) (hd : 0 ≤ digit ∧ digit ≤ 15) (hown : OwnR w base v L) (hl : L.length ≤ 4000) (hb : base ≤ w.heap.size) :
    Calls Tryd.prog 44 #[v, .int .i64 op, .int .i64 digit] w (OwnedR base w (L ++ jumpRL op digit)) := by
  have HO := Lib.hid hown
  obtain ⟨A0, c0, rfl⟩ := hown.form
  obtain ⟨hd1, hd2⟩ := hd
  have HL := Lib.hid hl
  have HB := Lib.hid hb
  clear hown hl hb
  generalize hV : Value.slice A0 L.length c0 = V at *
  have HV := Lib.hid hV
  clear hV
  go_enter Tryd.func44, Tryd.ntmps44
  go_wp2_with fail
  go_loopw [0, 7] (fun l i wr => ∃ j : Nat, j ≤ 4 ∧ i = .int .i64 j ∧ OwnR wr base l (L ++ (jumpRL op digit).take j) ∧ Below base w wr) (fun _ i _ => (4 - intOf i).toNat)
  case atStart => exact ⟨0, Nat.zero_le _, rfl, by simpa using HO.out, Below.refl _ _⟩
  case round =>
    obtain ⟨j, hj, rfl, hown, hB⟩ := hrel
    by_cases hlt : j < 4
    · have hlt' : (j : Int) < 4 := by omega
      have hj0 : (0 : Int) ≤ (j : Int) := by omega
      have hlen : (L ++ (jumpRL op digit).take j).length ≤ 4096 := by
        rw [List.length_append]; have := jump_len op digit j; have := HL.out; omega
      have HT := Lib.hid (jump_take op digit j hlt)
      have hbw : base ≤ wr.heap.size := Nat.le_trans HB.out hB.size
      have HW := Lib.hid hB
      have HOW := Lib.hid hown
      have HR := Lib.hid (show (j = 0 ∨ j = 1 ∨ j = 2 ∨ j = 3) ∧ ∀ r, jumpRow op digit j = r → L ++ (jumpRL op digit).take (j + 1) = L ++ (jumpRL op digit).take j ++ [r] from ⟨by omega, fun r e => by rw [HT.out, ← List.append_assoc, e]⟩)
      obtain ⟨A1, c1, rfl⟩ := hown.form
      clear hown hB
      generalize L ++ (jumpRL op digit).take j = T at *
      rcases HR.out.1 with h0 | h0 | h0 | h0
      · have t1 : ((j : Int) % 2 == 1) = false := by rw [h0]; rfl
        have t2 : decide ((2 : Int) ≤ (j : Int)) = false := by rw [h0]; rfl
        have HE := Lib.hid (HR.out.2 ⟨16 * digit + 5, op, 0, false, false, -1, 0, -1, -1, 0, false⟩ (by rw [h0]; simp [jumpRow]))
        clear h0
        go_wp2_with (at_builtin; (refine append_row Tryd.underlying47 row_info _ (wr.alloc _) rfl (.tmp 35) (.tmp 37) rfl base _ _ rfl (HOW.out.below (below_box wr _)) ⟨16 * digit + 5, op, 0, false, false, -1, 0, -1, -1, 0, false⟩ rfl _ (size_box wr _) rfl hlen (Nat.le_trans hbw (below_box wr _).size) ?_; intro v' w' hown' hB' _))
        go_roundw
        case rel => exact ⟨j + 1, by omega, by go_num, by rw [HE.out]; exact hown', HW.out.trans (((below_box wr _).mono hbw).trans hB')⟩
        case measure => simp [intOf]; omega
      · have t1 : ((j : Int) % 2 == 1) = true := by rw [h0]; rfl
        have t2 : decide ((2 : Int) ≤ (j : Int)) = false := by rw [h0]; rfl
        have HE := Lib.hid (HR.out.2 ⟨16 * digit + 5 + 8, op, 0, false, true, -1, -1, -1, 0, 0, false⟩ (by rw [h0]; simp [jumpRow]))
        clear h0
        go_wp2_with (at_builtin; (refine append_row Tryd.underlying47 row_info _ (wr.alloc _) rfl (.tmp 35) (.tmp 37) rfl base _ _ rfl (HOW.out.below (below_box wr _)) ⟨16 * digit + 5 + 8, op, 0, false, true, -1, -1, -1, 0, 0, false⟩ rfl _ (size_box wr _) rfl hlen (Nat.le_trans hbw (below_box wr _).size) ?_; intro v' w' hown' hB' _))
        go_roundw
        case rel => exact ⟨j + 1, by omega, by go_num, by rw [HE.out]; exact hown', HW.out.trans (((below_box wr _).mono hbw).trans hB')⟩
        case measure => simp [intOf]; omega
      · have t1 : ((j : Int) % 2 == 1) = false := by rw [h0]; rfl
        have t2 : decide ((2 : Int) ≤ (j : Int)) = true := by rw [h0]; rfl
        have HE := Lib.hid (HR.out.2 ⟨16 * digit + 5 + 1, op, 0, true, false, -1, 0, -1, -1, 0, false⟩ (by rw [h0]; simp [jumpRow]))
        clear h0
        go_wp2_with (at_builtin; (refine append_row Tryd.underlying47 row_info _ (wr.alloc _) rfl (.tmp 35) (.tmp 37) rfl base _ _ rfl (HOW.out.below (below_box wr _)) ⟨16 * digit + 5 + 1, op, 0, true, false, -1, 0, -1, -1, 0, false⟩ rfl _ (size_box wr _) rfl hlen (Nat.le_trans hbw (below_box wr _).size) ?_; intro v' w' hown' hB' _))
        go_roundw
        case rel => exact ⟨j + 1, by omega, by go_num, by rw [HE.out]; exact hown', HW.out.trans (((below_box wr _).mono hbw).trans hB')⟩
        case measure => simp [intOf]; omega
      · have t1 : ((j : Int) % 2 == 1) = true := by rw [h0]; rfl
        have t2 : decide ((2 : Int) ≤ (j : Int)) = true := by rw [h0]; rfl
        have HE := Lib.hid (HR.out.2 ⟨16 * digit + 5 + 8 + 1, op, 0, true, true, -1, -1, -1, 0, 0, false⟩ (by rw [h0]; simp [jumpRow]))
        clear h0
        go_wp2_with (at_builtin; (refine append_row Tryd.underlying47 row_info _ (wr.alloc _) rfl (.tmp 35) (.tmp 37) rfl base _ _ rfl (HOW.out.below (below_box wr _)) ⟨16 * digit + 5 + 8 + 1, op, 0, true, true, -1, -1, -1, 0, 0, false⟩ rfl _ (size_box wr _) rfl hlen (Nat.le_trans hbw (below_box wr _).size) ?_; intro v' w' hown' hB' _))
        go_roundw
        case rel => exact ⟨j + 1, by omega, by go_num, by rw [HE.out]; exact hown', HW.out.trans (((below_box wr _).mono hbw).trans hB')⟩
        case measure => simp [intOf]; omega
    · obtain rfl : j = 4 := by omega
      have t4 : decide (((4 : Nat) : Int) < 4) = false := rfl
      have htk : (jumpRL op digit).take 4 = jumpRL op digit := rfl
      rw [htk] at hown
      have HOW := Lib.hid hown
      obtain ⟨A1, c1, rfl⟩ := hown.form
      clear hown htk
      go_wp2_with fail
      go_ret
      exact ⟨_, rfl, HOW.out, hB⟩
end Go.Proofs.YtaglclmfjopnlaaDoor
