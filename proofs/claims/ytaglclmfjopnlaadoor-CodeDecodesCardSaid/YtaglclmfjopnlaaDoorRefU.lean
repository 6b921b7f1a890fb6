/- Numbers that a call owns; what the document's answer says of units. -/
import Derived.Test.YtaglclmfjopnlaaDoorLendC
namespace Go.Proofs.YtaglclmfjopnlaaDoor
open Go.ChangeShapes Go.WideShapes Go.ChangeAt Go.RowKit
open Cod Bits
set_option linter.unusedVariables false
set_option linter.unusedSimpArgs false

theorem own_keep {w w' : World} {base size n : Nat} {e : TypeId} {v : Value} {xs : List Value} (h : w.ownsRow base e size v n xs) (hb : Below w.heap.size w w') : w'.ownsRow base e size v n xs := by
  refine ⟨h.1, ?_⟩
  rcases h.2 with h1 | ⟨g, cap, cur, hv, hg, hh, h1⟩
  · exact .inl h1
  · have hgs : g < w.heap.size := by
      rcases Nat.lt_or_ge g w.heap.size with h2 | h2
      · exact h2
      · rw [Array.getElem?_eq_none h2] at hh; cases hh
    exact .inr ⟨g, cap, cur, hv, hg, (hb.block g hgs).trans hh, h1⟩
def OwnN (w : World) (base : Nat) (v : Value) (L : List Int) : Prop := w.ownsRow base 3 1 v L.length (L.map (Value.int .i64))
theorem OwnN.below {w w' : World} {base : Nat} {v : Value} {L : List Int} (h : OwnN w base v L) (hb : Below w.heap.size w w') : OwnN w' base v L := own_keep h hb
theorem OwnN.intsAt {w : World} {base : Nat} {v : Value} {L : List Int} (h : OwnN w base v L) : ∃ A c, v = .slice A L.length c ∧ IntsAt w A L := by
  rcases h.2 with ⟨hv, hn⟩ | ⟨g, cap, cur, hv, hg, hh, hnc, hcm, hcs, hx⟩
  · have : L = [] := List.eq_nil_of_length_eq_zero hn
    subst this
    exact ⟨none, 0, hv, fun h => by simp at h⟩
  · refine ⟨_, cap, hv, fun hp => ⟨g, 0, rfl, ?_, fun i hi => ?_⟩⟩
    · rcases Nat.lt_or_ge g w.heap.size with h1 | h1
      · exact h1
      · rw [Array.getElem?_eq_none h1] at hh; cases hh
    · have h2 : w.ownsRow base 3 1 (.slice (some ⟨g, 0, none⟩) L.length cap) L.length (L.map (Value.int .i64)) := hv ▸ h
      have := World.ownsRow.cellAt h2 i (by omega)
      rw [Nat.zero_add, this]
      simp [List.getElem?_eq_getElem hi]
theorem IntsAt.reads' {w : World} {A : Option Addr} {L : List Int} (h : IntsAt w A L) : Reads w w.heap.size 1 A L.length (L.map (Value.int .i64)) := by
  refine ⟨by simp, fun hn => ?_⟩
  obtain ⟨b, off, rfl, hb, hc⟩ := h hn
  refine ⟨_, rfl, hb, fun j u hu => ?_⟩
  rw [List.getElem?_map] at hu
  have hj : j < L.length := by
    rcases Nat.lt_or_ge j L.length with h1 | h1
    · exact h1
    · rw [List.getElem?_eq_none h1] at hu; cases hu
  have := hc j hj
  rw [List.getElem?_eq_getElem hj] at this hu
  simp only [Option.map_some, Option.some.injEq, Option.getD_some] at hu this
  rw [Addr.add_lit, this, hu]
theorem IntsAt.below' {w w' : World} {A : Option Addr} {L : List Int} (h : IntsAt w A L) (hb : Below w.heap.size w w') : IntsAt w' A L := fun hp => by
  obtain ⟨b, off, e, hl, hc⟩ := h hp
  exact ⟨b, off, e, Nat.lt_of_lt_of_le hl hb.size, fun i hi => (hb.cell (p := ⟨b, off + i, none⟩) hl).trans (hc i hi)⟩
theorem num_info : (Tryd.prog.info? 3).map (fun i => (i.zero, i.size, i.bytes)) = some (some (.int .i64 0), 1, 8) := by kernel_rfl
theorem append_nums {P : Program} (hu : P.underlying 49 = some (.slice 3)) (hinf : (P.info? 3).map (fun i => (i.zero, i.size, i.bytes)) = some (some (.int .i64 0), 1, 8)) (w : World) {ops : Array Oper} {rest : List Oper} {o : Oper} {a : Act} {Q : Exit → Act → World → Prop} (hgd : Region.wanted o (yielded ops a.tmps) = true) (s x : Operand)
    (ho : o.op = .call { callee := .builtin .append, args := #[s, x], argTypes := #[49, 49] })
    (base : Nat) (v : Value) (L : List Int) (hs : a.eval s = v) (hown : OwnN w base v L)
    (A : Option Addr) (m c : Nat) (M : List Int) (hx : a.eval x = .slice A m c) (hm : M.length = m) (hr : IntsAt w A M)
    (hlen : L.length + m ≤ 20000000000000) (hbase : base ≤ w.heap.size)
    (h : ∀ v' w', OwnN w' base v' (L ++ M) → Below base w w' → wpList P ops Q rest (a.put o.dst v') w') : wpList P ops Q (o :: rest) a w := by
  subst hm
  obtain ⟨i0, hi, hz0, hz1, hz2⟩ := info_parts hinf
  refine wpList_append_wide w hgd s x 49 ho base 3 i0 (.int .i64 0) 1 8 hu hi hz0 hz1 hz2 rfl (by decide) v L.length _ hs hown w.heap.size A M.length c _ hx hr.reads'
    (fun u hu => ?_) (by unfold maxLen; omega) (by omega) hbase ?_
  · simp only [List.mem_map] at hu
    obtain ⟨z, _, rfl⟩ := hu
    rfl
  · intro v' w' h1 h2
    refine h v' w' ?_ ((Below.refl base w).grown h2 hbase fun k hk => (World.ownsRow.lt hown k hk).1)
    unfold OwnN
    rw [List.length_append, List.map_append]
    exact h1
theorem units_take (L : List Ins) (j : Nat) (h : j < L.length) : (unitsL L).take (j + 1) ++ [uAt L (j + 1)] = (unitsL L).take (j + 1 + 1) := by
  refine (take_next (unitsL L) (j + 1) _ ?_).symm
  unfold unitsL
  rw [List.getElem?_map, List.getElem?_range (by omega)]
  rfl
theorem units_one (L : List Ins) : (unitsL L).take (0 + 1) = [0] := by
  unfold unitsL
  rw [List.range_succ_eq_map]
  simp [uAt]
theorem ownN_one (w : World) (x : Int) : OwnN (w.alloc (.cells #[.int .i64 x] 3)) w.heap.size (.slice (some ⟨w.heap.size, 0, none⟩) 1 1) [x] := World.ownsRow_lit w #[.int .i64 x] 1 (Nat.le_refl _) (by decide) rfl
theorem ints_one (w : World) (x : Int) : IntsAt (w.alloc (.cells #[.int .i64 x] 3)) (some ⟨w.heap.size, 0, none⟩) [x] := (IntBlk.new w [x]).at_
def Owned (P : Value → World → Prop) (w : World) (e : Ending) (w' : World) : Prop := ∃ v, e = .returned v ∧ P v w' ∧ Below w.heap.size w w'
set_option maxHeartbeats 4000000 in
theorem refUnits_any (w : World) (A : Option Addr) (n c : Nat) (L : List Ins) (hL : L.length = n) (hn : n ≤ 2513169434917) (h : CodeAt w A L) :
    Calls Tryd.prog 24 #[.slice A n c] w (Owned (fun v w' => OwnN w' w.heap.size v (unitsL L)) w) := by
  have HA := Lib.hid h
  have HL := Lib.hid hL
  clear h hL
  go_enter Tryd.func24, Tryd.ntmps24
  go_wp2_with fail
  go_loopw [3, 4, 5] (fun at_ v i wr => ∃ j : Nat, j ≤ n ∧ i = .int .i64 j ∧ at_ = .int .i64 (uAt L j) ∧ OwnN wr w.heap.size v ((unitsL L).take (j + 1)) ∧ Below w.heap.size w wr) (fun _ _ i _ => (n - intOf i).toNat)
  case atStart => exact ⟨0, Nat.zero_le _, rfl, rfl, by rw [units_one]; exact ownN_one w 0, below_box w _⟩
  case round =>
    obtain ⟨j, hj, rfl, rfl, hown, hB⟩ := hrel
    by_cases hlt : j < n
    · have hlt' : (j : Int) < n := by omega
      obtain ⟨b, off, rfl, hbl, hc⟩ := HA.out (by have := HL.out; omega)
      obtain ⟨i, hi⟩ : ∃ i, L[j]? = some i := ⟨L[j]'(by have := HL.out; omega), List.getElem?_eq_getElem _⟩
      have hx := (hc j i hi).below hB hbl
      have hus := uAt_succ L j i hi
      have hur := uAt_rng L j
      obtain ⟨x0, x1, x2, x3, x4, x5, x6, x7⟩ := hx
      have HLO := Lib.hid (show isLong i = (i.op == 20 || i.op == 21) from rfl)
      have HUS := Lib.hid hus
      have HTK := Lib.hid (units_take L j (by have := HL.out; omega))
      have hlen : ((unitsL L).take (j + 1)).length ≤ j + 1 := by rw [List.length_take]; omega
      have hlen1 : ((unitsL L).take (j + 1)).length + 1 ≤ 20000000000000 := by omega
      have HB := Lib.hid hB
      have HO := Lib.hid hown
      obtain ⟨A1, c1, rfl, -⟩ := hown.intsAt
      clear hc hi hus hB hown
      generalize isLong i = lo at *
      obtain ⟨op, nar, reg, size, dst, src, io, imm⟩ := i
      simp only at x0 x1 x2 x3 x4 x5 x6 x7 HLO
      generalize hua : uAt L j = ua at *
      generalize hT : (unitsL L).take (j + 1) = T at *
      obtain ⟨hur1, hur2⟩ := hur
      have hsz := fun o => Nat.le_trans HB.out.size (below_box wr o).size
      have HSZ := Lib.hid hsz
      have HUA := Lib.hid hua
      have HTT := Lib.hid hT
      clear hua hT x1 x2 x3 x4 x5 x6 x7 hsz hlen
      by_cases e20 : op = 20
      · have hl : lo = true := by rw [HLO.out, e20]; rfl
        have HUV := Lib.hid (show uAt L (j + 1) = ua + 1 + 1 by rw [HUS.out, hl]; rfl)
        have t20 : (op == 20) = true := by rw [e20]; rfl
        clear hl e20
        go_wp2_with (at_builtin; (refine append_nums Tryd.underlying49 num_info _ rfl (.tmp 31) (.tmp 33) rfl w.heap.size _ _ rfl (HO.out.below (below_box wr _)) _ 1 _ [_] rfl rfl (ints_one wr _) hlen1 (HSZ.out _) ?_; intro v' w' hown' hB'))
        go_roundw
        case rel => exact ⟨j + 1, by omega, by go_num, by rw [HUV.out], by rw [← HTK.out, HUV.out]; exact hown', HB.out.trans (((below_box wr _).mono HB.out.size).trans hB')⟩
        case measure => simp [intOf]; omega
      · have t20 : (op == 20) = false := by rw [beq_eq_false_iff_ne]; exact e20
        by_cases e21 : op = 21
        · have hl : lo = true := by rw [HLO.out, e21]; rfl
          have HUV := Lib.hid (show uAt L (j + 1) = ua + 1 + 1 by rw [HUS.out, hl]; rfl)
          have t21 : (op == 21) = true := by rw [e21]; rfl
          clear hl e20 e21
          go_wp2_with (at_builtin; (refine append_nums Tryd.underlying49 num_info _ rfl (.tmp 31) (.tmp 33) rfl w.heap.size _ _ rfl (HO.out.below (below_box wr _)) _ 1 _ [_] rfl rfl (ints_one wr _) hlen1 (HSZ.out _) ?_; intro v' w' hown' hB'))
          go_roundw
          case rel => exact ⟨j + 1, by omega, by go_num, by rw [HUV.out], by rw [← HTK.out, HUV.out]; exact hown', HB.out.trans (((below_box wr _).mono HB.out.size).trans hB')⟩
          case measure => simp [intOf]; omega
        · have t21 : (op == 21) = false := by rw [beq_eq_false_iff_ne]; exact e21
          have hl : lo = false := by rw [HLO.out, t20, t21]; rfl
          have HUV := Lib.hid (show uAt L (j + 1) = ua + 1 by rw [HUS.out, hl]; simp)
          clear hl e20 e21
          go_wp2_with (at_builtin; (refine append_nums Tryd.underlying49 num_info _ rfl (.tmp 31) (.tmp 33) rfl w.heap.size _ _ rfl (HO.out.below (below_box wr _)) _ 1 _ [_] rfl rfl (ints_one wr _) hlen1 (HSZ.out _) ?_; intro v' w' hown' hB'))
          go_roundw
          case rel => exact ⟨j + 1, by omega, by go_num, by rw [HUV.out], by rw [← HTK.out, HUV.out]; exact hown', HB.out.trans (((below_box wr _).mono HB.out.size).trans hB')⟩
          case measure => simp [intOf]; omega
    · obtain rfl : j = n := by omega
      have hjn : decide ((j : Int) < j) = false := decide_eq_false (by omega)
      have htk : (unitsL L).take (j + 1) = unitsL L := List.take_of_length_le (by rw [unitsL_length, HL.out]; omega)
      rw [htk] at hown
      clear htk
      go_wp2_with fail
      go_ret
      exact ⟨_, rfl, hown, hB⟩
end Go.Proofs.YtaglclmfjopnlaaDoor
