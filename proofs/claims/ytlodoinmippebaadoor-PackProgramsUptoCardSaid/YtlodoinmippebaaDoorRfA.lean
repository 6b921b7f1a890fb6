/- Texts in one: RfJ1 RfU RfM RfR RfF RfG. -/
import Derived.Test.YtlodoinmippebaaDoorCodeO
import Derived.Deep.DeepAppendWide
import Derived.Test.YtlodoinmippebaaDoorCodeV
import Derived.Test.YtlodoinmippebaaDoorCodeT
/- Appending of lists of bytes and of instructions. -/
namespace Go.Proofs.YtlodoinmippebaaDoor.Rf
open Go.ChangeShapes Go.WideShapes Go.ChangeAt Go.RowKit
open Cod Bits
set_option linter.unusedVariables false

theorem wpList_on {P : Program} {w : World} {ops : Array Oper} {rest : List Oper} {o : Oper} {a : Act} {Q : Exit → Act → World → Prop} (hw : Region.wanted o (yielded ops a.tmps) = true)
    (h : ∀ K : Act → World → Prop, (∀ a w, wpList P ops Q rest a w → K a w) → o.wp P a w K Q) : wpList P ops Q (o :: rest) a w :=
  wpList_step fun K hK => by rw [if_pos hw]; exact h K hK
theorem wpList_append_wide {P : Program} (w : World) {ops : Array Oper} {rest : List Oper} {o : Oper} {a : Act} {Q : Exit → Act → World → Prop} (hgd : Region.wanted o (yielded ops a.tmps) = true) (s x : Operand) (t : TypeId)
    (ho : o.op = .call { callee := .builtin .append, args := #[s, x], argTypes := #[t, t] })
    (base : Nat) (e : TypeId) (i : TypeInfo) (z : Value) (size bytes : Nat) (ht : P.underlying t = some (.slice e)) (hi : P.info? e = some i) (hz : i.zero = some z)
    (hsize : i.size = size) (hby : i.bytes = bytes) (hzs : z.cells.size = size) (hsz : 0 < size)
    (v : Value) (n : Nat) (xs : List Value) (hs : a.eval s = v) (hown : w.ownsRow base e size v n xs)
    (B : Nat) (A : Option Addr) (m c : Nat) (news : List Value) (hx : a.eval x = .slice A m c) (hr : Reads w B size A m news) (h1 : ∀ u ∈ news, u.oneCell' = true)
    (h63 : n + m ≤ maxLen) (hbytes : ((n + m) + (n + m) / 4 + 192) * bytes ≤ 281474976710656) (hbase : base ≤ w.heap.size)
    (h : ∀ v' w', w'.ownsRow base e size v' (n + m) (xs ++ news) → w.grownBy w' v.ownBlock → wpList P ops Q rest (a.put o.dst v') w') : wpList P ops Q (o :: rest) a w := by
  rcases A with _ | ad
  · have hm : m = 0 := by
      rcases Nat.eq_zero_or_pos m with h0 | h0
      · exact h0
      · obtain ⟨ad, h, _⟩ := hr.2 h0
        cases h
    subst hm
    have hn : news = [] := List.eq_nil_of_length_eq_zero (by simpa using hr.1)
    subst hn
    refine wpList_on hgd fun _ hK => ?_
    have hrun := run_append_of_nil (P := P) w base t o.type e i size ht hi v n xs hown c
    unfold Oper.wp execOp
    simp only [ho, resolve, invoke, builtin, Sem.run_bind, Sem.run_pure, Result.andThen_ok, List.map_toArray, List.map_cons, List.map_nil, hs, hx, hrun]
    exact hK _ _ (h v w (by simpa using hown) (World.grownBy.refl w _))
  · have hcells : ∀ j u, news[j]? = some u → w.cell? (ad.add j) = some u := by
      intro j u hu
      rcases Nat.eq_zero_or_pos m with h0 | h0
      · subst h0
        have hn : news = [] := List.eq_nil_of_length_eq_zero (by simpa using hr.1)
        subst hn
        simp at hu
      · obtain ⟨ad', h, _, hc⟩ := hr.2 h0
        injection h with h
        subst h
        exact hc j u hu
    exact wpList_on hgd fun _ hK => wp_append_own_wide w s x t ho base e i z size bytes ht hi hz hsize hby hzs hsz v n xs hs hown ad m c news hx hr.1 hcells h1 h63 hbytes hbase fun v' w' h2 h3 _ => hK _ _ (h v' w' h2 h3)
theorem append_bytes_wide {P : Program} (hu : P.underlying 22 = some (.slice 5)) (hinf : (P.info? 5).map (fun i => (i.zero, i.size, i.bytes)) = some (some (.int .u8 0), 1, 1)) (w : World) {ops : Array Oper} {rest : List Oper} {o : Oper} {a : Act} {Q : Exit → Act → World → Prop} (hgd : Region.wanted o (yielded ops a.tmps) = true) (s x : Operand)
    (ho : o.op = .call { callee := .builtin .append, args := #[s, x], argTypes := #[22, 22] })
    (base : Nat) (v : Value) (L : List Int) (hs : a.eval s = v) (hown : OwnB w base v L)
    (A : Option Addr) (m c : Nat) (M : List Int) (hx : a.eval x = .slice A m c) (hm : M.length = m) (hr : BytesAt w A M)
    (hlen : L.length + m ≤ 200000000000000) (hbase : base ≤ w.heap.size)
    (h : ∀ v' w', OwnB w' base v' (L ++ M) → Below base w w' → wpList P ops Q rest (a.put o.dst v') w') : wpList P ops Q (o :: rest) a w := by
  subst hm
  obtain ⟨i0, hi, hz0, hz1, hz2⟩ := info_parts hinf
  refine wpList_append_wide w hgd s x 22 ho base 5 i0 (.int .u8 0) 1 1 hu hi hz0 hz1 hz2 rfl (by decide) v L.length _ hs hown w.heap.size A M.length c _ hx hr.reads
    (fun u hu => ?_) (by unfold maxLen; omega) (by omega) hbase ?_
  · simp only [List.mem_map] at hu
    obtain ⟨z, _, rfl⟩ := hu
    rfl
  · intro v' w' h1 h2
    refine h v' w' ?_ ((Below.refl base w).grown h2 hbase fun k hk => (World.ownsRow.lt hown k hk).1)
    unfold OwnB
    rw [List.length_append, List.map_append]
    exact h1
theorem _root_.Go.Proofs.YtlodoinmippebaaDoor.CodeAt.reads {w : World} {A : Option Addr} {M : List Ins} (h : CodeAt w A M) : Reads w w.heap.size 8 A M.length (M.flatMap Ins.cells) := by
  refine ⟨flat_lenC M, fun hn => ?_⟩
  obtain ⟨b, off, rfl, hb, hc⟩ := h hn
  refine ⟨_, rfl, hb, fun j u hu => ?_⟩
  have hj : j < M.length * 8 := by
    rcases Nat.lt_or_ge j (M.length * 8) with h1 | h1
    · exact h1
    · rw [List.getElem?_eq_none (by rw [flat_lenC]; exact h1)] at hu; cases hu
  obtain ⟨i, hi⟩ : ∃ i, M[j / 8]? = some i := ⟨M[j / 8]'(by omega), List.getElem?_eq_getElem _⟩
  have hf := flat_getC M (j / 8) i hi (j % 8) (by omega)
  rw [show j / 8 * 8 + j % 8 = j by omega, hu] at hf
  obtain ⟨x0, x1, x2, x3, x4, x5, x6, x7⟩ := hc (j / 8) i hi
  rw [Addr.add_lit, show off + j = off + j / 8 * 8 + j % 8 by omega]
  have hr : j % 8 = 0 ∨ j % 8 = 1 ∨ j % 8 = 2 ∨ j % 8 = 3 ∨ j % 8 = 4 ∨ j % 8 = 5 ∨ j % 8 = 6 ∨ j % 8 = 7 := by omega
  rcases hr with e | e | e | e | e | e | e | e <;> rw [e] at hf ⊢
  · rw [hf]; exact x0
  · rw [hf]; exact x1
  · rw [hf]; exact x2
  · rw [hf]; exact x3
  · rw [hf]; exact x4
  · rw [hf]; exact x5
  · rw [hf]; exact x6
  · rw [hf]; exact x7
theorem append_code {P : Program} (hu : P.underlying 31 = some (.slice 71)) (hinf : (P.info? 71).map (fun i => (i.zero, i.size, i.bytes)) = some (some (.agg #[.int .i64 0, .bool false, .bool false, .int .i64 0, .int .i64 0, .int .i64 0, .int .i64 0, .int .i64 0]), 8, 56)) (w : World) {ops : Array Oper} {rest : List Oper} {o : Oper} {a : Act} {Q : Exit → Act → World → Prop} (hgd : Region.wanted o (yielded ops a.tmps) = true) (s x : Operand)
    (ho : o.op = .call { callee := .builtin .append, args := #[s, x], argTypes := #[31, 31] })
    (base : Nat) (v : Value) (L : List Ins) (hs : a.eval s = v) (hown : OwnI w base v L)
    (A : Option Addr) (m c : Nat) (M : List Ins) (hx : a.eval x = .slice A m c) (hm : M.length = m) (hr : CodeAt w A M)
    (hlen : L.length + m ≤ 2600000000000) (hbase : base ≤ w.heap.size)
    (h : ∀ v' w', OwnI w' base v' (L ++ M) → Below base w w' → wpList P ops Q rest (a.put o.dst v') w') : wpList P ops Q (o :: rest) a w := by
  subst hm
  obtain ⟨i0, hi, hz0, hz1, hz2⟩ := info_parts hinf
  refine wpList_append_wide w hgd s x 31 ho base 71 i0 _ 8 56 hu hi hz0 hz1 hz2 rfl (by decide) v L.length _ hs hown w.heap.size A M.length c _ hx hr.reads
    (fun u hu => ?_) (by unfold maxLen; omega) (by omega) hbase ?_
  · simp only [List.mem_flatMap, Ins.cells, List.mem_cons, List.not_mem_nil, or_false] at hu
    obtain ⟨z, _, hz⟩ := hu
    rcases hz with rfl | rfl | rfl | rfl | rfl | rfl | rfl | rfl <;> rfl
  · intro v' w' h1 h2
    refine h v' w' ?_ ((Below.refl base w).grown h2 hbase fun k hk => (World.ownsRow.lt hown k hk).1)
    unfold OwnI
    rw [List.length_append, List.flatMap_append]
    exact h1
theorem ownB_empty (w : World) : OwnB (w.alloc (.cells #[] 5)) w.heap.size (.slice (some ⟨w.heap.size, 0, none⟩) 0 0) [] := World.ownsRow_lit w #[] 0 (Nat.le_refl _) (by decide) rfl
theorem ownI_empty (w : World) : OwnI (w.alloc (.cells #[] 71)) w.heap.size (.slice (some ⟨w.heap.size, 0, none⟩) 0 0) [] := World.ownsRow_lit w #[] 0 (Nat.le_refl _) (by decide) rfl
end Go.Proofs.YtlodoinmippebaaDoor.Rf
/- Numbers that a call owns; what the document's answer says of units. -/
namespace Go.Proofs.YtlodoinmippebaaDoor.Rf
open Go.ChangeShapes Go.WideShapes Go.ChangeAt Go.RowKit
open Cod Bits
set_option linter.unusedVariables false
set_option linter.unusedSimpArgs false

theorem own_keep {w w' : World} {base size n : Nat} {e : TypeId} {v : Value} {xs : List Value} (h : w.ownsRow base e size v n xs) (hb : Below w.heap.size w w') : w'.ownsRow base e size v n xs := by
  refine ⟨h.1, ?_⟩
  rcases h.2 with h1 | ⟨g, cap, cur, hv, hg, hh, h1⟩
  · exact .inl h1
  · have hgs : g < w.heap.size := by
      rcases Nat.lt_or_ge g w.heap.size with h2 | h2
      · exact h2
      · rw [Array.getElem?_eq_none h2] at hh; cases hh
    exact .inr ⟨g, cap, cur, hv, hg, (hb.block g hgs).trans hh, h1⟩
def OwnN (w : World) (base : Nat) (v : Value) (L : List Int) : Prop := w.ownsRow base 3 1 v L.length (L.map (Value.int .i64))
theorem OwnN.below {w w' : World} {base : Nat} {v : Value} {L : List Int} (h : OwnN w base v L) (hb : Below w.heap.size w w') : OwnN w' base v L := own_keep h hb
theorem OwnN.intsAt {w : World} {base : Nat} {v : Value} {L : List Int} (h : OwnN w base v L) : ∃ A c, v = .slice A L.length c ∧ IntsAt w A L := by
  rcases h.2 with ⟨hv, hn⟩ | ⟨g, cap, cur, hv, hg, hh, hnc, hcm, hcs, hx⟩
  · have : L = [] := List.eq_nil_of_length_eq_zero hn
    subst this
    exact ⟨none, 0, hv, fun h => by simp at h⟩
  · refine ⟨_, cap, hv, fun hp => ⟨g, 0, rfl, ?_, fun i hi => ?_⟩⟩
    · rcases Nat.lt_or_ge g w.heap.size with h1 | h1
      · exact h1
      · rw [Array.getElem?_eq_none h1] at hh; cases hh
    · have h2 : w.ownsRow base 3 1 (.slice (some ⟨g, 0, none⟩) L.length cap) L.length (L.map (Value.int .i64)) := hv ▸ h
      have := World.ownsRow.cellAt h2 i (by omega)
      rw [Nat.zero_add, this]
      simp [List.getElem?_eq_getElem hi]
theorem _root_.Go.Proofs.YtlodoinmippebaaDoor.IntsAt.reads' {w : World} {A : Option Addr} {L : List Int} (h : IntsAt w A L) : Reads w w.heap.size 1 A L.length (L.map (Value.int .i64)) := by
  refine ⟨by simp, fun hn => ?_⟩
  obtain ⟨b, off, rfl, hb, hc⟩ := h hn
  refine ⟨_, rfl, hb, fun j u hu => ?_⟩
  rw [List.getElem?_map] at hu
  have hj : j < L.length := by
    rcases Nat.lt_or_ge j L.length with h1 | h1
    · exact h1
    · rw [List.getElem?_eq_none h1] at hu; cases hu
  have := hc j hj
  rw [List.getElem?_eq_getElem hj] at this hu
  simp only [Option.map_some, Option.some.injEq, Option.getD_some] at hu this
  rw [Addr.add_lit, this, hu]
theorem _root_.Go.Proofs.YtlodoinmippebaaDoor.IntsAt.below' {w w' : World} {A : Option Addr} {L : List Int} (h : IntsAt w A L) (hb : Below w.heap.size w w') : IntsAt w' A L := fun hp => by
  obtain ⟨b, off, e, hl, hc⟩ := h hp
  exact ⟨b, off, e, Nat.lt_of_lt_of_le hl hb.size, fun i hi => (hb.cell (p := ⟨b, off + i, none⟩) hl).trans (hc i hi)⟩
theorem num_info : (Tryd.prog.info? 3).map (fun i => (i.zero, i.size, i.bytes)) = some (some (.int .i64 0), 1, 8) := by kernel_rfl
theorem append_nums {P : Program} (hu : P.underlying 49 = some (.slice 3)) (hinf : (P.info? 3).map (fun i => (i.zero, i.size, i.bytes)) = some (some (.int .i64 0), 1, 8)) (w : World) {ops : Array Oper} {rest : List Oper} {o : Oper} {a : Act} {Q : Exit → Act → World → Prop} (hgd : Region.wanted o (yielded ops a.tmps) = true) (s x : Operand)
    (ho : o.op = .call { callee := .builtin .append, args := #[s, x], argTypes := #[49, 49] })
    (base : Nat) (v : Value) (L : List Int) (hs : a.eval s = v) (hown : OwnN w base v L)
    (A : Option Addr) (m c : Nat) (M : List Int) (hx : a.eval x = .slice A m c) (hm : M.length = m) (hr : IntsAt w A M)
    (hlen : L.length + m ≤ 20000000000000) (hbase : base ≤ w.heap.size)
    (h : ∀ v' w', OwnN w' base v' (L ++ M) → Below base w w' → wpList P ops Q rest (a.put o.dst v') w') : wpList P ops Q (o :: rest) a w := by
  subst hm
  obtain ⟨i0, hi, hz0, hz1, hz2⟩ := info_parts hinf
  refine wpList_append_wide w hgd s x 49 ho base 3 i0 (.int .i64 0) 1 8 hu hi hz0 hz1 hz2 rfl (by decide) v L.length _ hs hown w.heap.size A M.length c _ hx hr.reads'
    (fun u hu => ?_) (by unfold maxLen; omega) (by omega) hbase ?_
  · simp only [List.mem_map] at hu
    obtain ⟨z, _, rfl⟩ := hu
    rfl
  · intro v' w' h1 h2
    refine h v' w' ?_ ((Below.refl base w).grown h2 hbase fun k hk => (World.ownsRow.lt hown k hk).1)
    unfold OwnN
    rw [List.length_append, List.map_append]
    exact h1
theorem units_take (L : List Ins) (j : Nat) (h : j < L.length) : (unitsL L).take (j + 1) ++ [uAt L (j + 1)] = (unitsL L).take (j + 1 + 1) := by
  refine (take_next (unitsL L) (j + 1) _ ?_).symm
  unfold unitsL
  rw [List.getElem?_map, List.getElem?_range (by omega)]
  rfl
theorem units_one (L : List Ins) : (unitsL L).take (0 + 1) = [0] := by
  unfold unitsL
  rw [List.range_succ_eq_map]
  simp [uAt]
theorem ownN_one (w : World) (x : Int) : OwnN (w.alloc (.cells #[.int .i64 x] 3)) w.heap.size (.slice (some ⟨w.heap.size, 0, none⟩) 1 1) [x] := World.ownsRow_lit w #[.int .i64 x] 1 (Nat.le_refl _) (by decide) rfl
theorem ints_one (w : World) (x : Int) : IntsAt (w.alloc (.cells #[.int .i64 x] 3)) (some ⟨w.heap.size, 0, none⟩) [x] := (IntBlk.new w [x]).at_
def Owned (P : Value → World → Prop) (w : World) (e : Ending) (w' : World) : Prop := ∃ v, e = .returned v ∧ P v w' ∧ Below w.heap.size w w'
set_option maxHeartbeats 4000000 in
theorem refUnits_any (w : World) (A : Option Addr) (n c : Nat) (L : List Ins) (hL : L.length = n) (hn : n ≤ 2513169434917) (h : CodeAt w A L) :
    Calls Tryd.prog 42 #[.slice A n c] w (Owned (fun v w' => OwnN w' w.heap.size v (unitsL L)) w) := by
  have HA := Lib.hid h
  have HL := Lib.hid hL
  clear h hL
  go_enter Tryd.func42, Tryd.ntmps42
  go_wp2_with fail
  go_loopw [3, 4, 5] (fun at_ v i wr => ∃ j : Nat, j ≤ n ∧ i = .int .i64 j ∧ at_ = .int .i64 (uAt L j) ∧ OwnN wr w.heap.size v ((unitsL L).take (j + 1)) ∧ Below w.heap.size w wr) (fun _ _ i _ => (n - intOf i).toNat)
  case atStart => exact ⟨0, Nat.zero_le _, rfl, rfl, by rw [units_one]; exact ownN_one w 0, below_box w _⟩
  case round =>
    obtain ⟨j, hj, rfl, rfl, hown, hB⟩ := hrel
    by_cases hlt : j < n
    · have hlt' : (j : Int) < n := by omega
      obtain ⟨b, off, rfl, hbl, hc⟩ := HA.out (by have := HL.out; omega)
      obtain ⟨i, hi⟩ : ∃ i, L[j]? = some i := ⟨L[j]'(by have := HL.out; omega), List.getElem?_eq_getElem _⟩
      have hx := (hc j i hi).below hB hbl
      have hus := uAt_succ L j i hi
      have hur := uAt_rng L j
      obtain ⟨x0, x1, x2, x3, x4, x5, x6, x7⟩ := hx
      have HLO := Lib.hid (show isLong i = (i.op == 20 || i.op == 21) from rfl)
      have HUS := Lib.hid hus
      have HTK := Lib.hid (units_take L j (by have := HL.out; omega))
      have hlen : ((unitsL L).take (j + 1)).length ≤ j + 1 := by rw [List.length_take]; omega
      have hlen1 : ((unitsL L).take (j + 1)).length + 1 ≤ 20000000000000 := by omega
      have HB := Lib.hid hB
      have HO := Lib.hid hown
      obtain ⟨A1, c1, rfl, -⟩ := hown.intsAt
      clear hc hi hus hB hown
      generalize isLong i = lo at *
      obtain ⟨op, nar, reg, size, dst, src, io, imm⟩ := i
      simp only at x0 x1 x2 x3 x4 x5 x6 x7 HLO
      generalize hua : uAt L j = ua at *
      generalize hT : (unitsL L).take (j + 1) = T at *
      obtain ⟨hur1, hur2⟩ := hur
      have hsz := fun o => Nat.le_trans HB.out.size (below_box wr o).size
      have HSZ := Lib.hid hsz
      have HUA := Lib.hid hua
      have HTT := Lib.hid hT
      clear hua hT x1 x2 x3 x4 x5 x6 x7 hsz hlen
      by_cases e20 : op = 20
      · have hl : lo = true := by rw [HLO.out, e20]; rfl
        have HUV := Lib.hid (show uAt L (j + 1) = ua + 1 + 1 by rw [HUS.out, hl]; rfl)
        have t20 : (op == 20) = true := by rw [e20]; rfl
        clear hl e20
        go_wp2_with (at_builtin; (refine append_nums Tryd.underlying49 num_info _ rfl (.tmp 31) (.tmp 33) rfl w.heap.size _ _ rfl (HO.out.below (below_box wr _)) _ 1 _ [_] rfl rfl (ints_one wr _) hlen1 (HSZ.out _) ?_; intro v' w' hown' hB'))
        go_roundw
        case rel => exact ⟨j + 1, by omega, by go_num, by rw [HUV.out], by rw [← HTK.out, HUV.out]; exact hown', HB.out.trans (((below_box wr _).mono HB.out.size).trans hB')⟩
        case measure => simp [intOf]; omega
      · have t20 : (op == 20) = false := by rw [beq_eq_false_iff_ne]; exact e20
        by_cases e21 : op = 21
        · have hl : lo = true := by rw [HLO.out, e21]; rfl
          have HUV := Lib.hid (show uAt L (j + 1) = ua + 1 + 1 by rw [HUS.out, hl]; rfl)
          have t21 : (op == 21) = true := by rw [e21]; rfl
          clear hl e20 e21
          go_wp2_with (at_builtin; (refine append_nums Tryd.underlying49 num_info _ rfl (.tmp 31) (.tmp 33) rfl w.heap.size _ _ rfl (HO.out.below (below_box wr _)) _ 1 _ [_] rfl rfl (ints_one wr _) hlen1 (HSZ.out _) ?_; intro v' w' hown' hB'))
          go_roundw
          case rel => exact ⟨j + 1, by omega, by go_num, by rw [HUV.out], by rw [← HTK.out, HUV.out]; exact hown', HB.out.trans (((below_box wr _).mono HB.out.size).trans hB')⟩
          case measure => simp [intOf]; omega
        · have t21 : (op == 21) = false := by rw [beq_eq_false_iff_ne]; exact e21
          have hl : lo = false := by rw [HLO.out, t20, t21]; rfl
          have HUV := Lib.hid (show uAt L (j + 1) = ua + 1 by rw [HUS.out, hl]; simp)
          clear hl e20 e21
          go_wp2_with (at_builtin; (refine append_nums Tryd.underlying49 num_info _ rfl (.tmp 31) (.tmp 33) rfl w.heap.size _ _ rfl (HO.out.below (below_box wr _)) _ 1 _ [_] rfl rfl (ints_one wr _) hlen1 (HSZ.out _) ?_; intro v' w' hown' hB'))
          go_roundw
          case rel => exact ⟨j + 1, by omega, by go_num, by rw [HUV.out], by rw [← HTK.out, HUV.out]; exact hown', HB.out.trans (((below_box wr _).mono HB.out.size).trans hB')⟩
          case measure => simp [intOf]; omega
    · obtain rfl : j = n := by omega
      have hjn : decide ((j : Int) < j) = false := decide_eq_false (by omega)
      have htk : (unitsL L).take (j + 1) = unitsL L := List.take_of_length_le (by rw [unitsL_length, HL.out]; omega)
      rw [htk] at hown
      clear htk
      go_wp2_with fail
      go_ret
      exact ⟨_, rfl, hown, hB⟩
end Go.Proofs.YtlodoinmippebaaDoor.Rf
/- The table of rows of the document's answer for package code, plain mathematics: what it finds, and that its answer on an instruction is the one that package code gives. -/
namespace Go.Proofs.YtlodoinmippebaaDoor.Rf
open Go.RowKit
open Cod
set_option linter.unusedVariables false

structure RRow where
  code : Int
  op : Int
  size : Int
  nar : Bool
  reg : Bool
  dst : Int
  src : Int
  off : Int
  imm : Int
  second : Int
  writes : Bool
deriving DecidableEq
def RRow.cells (r : RRow) : List Value := [.int .i64 r.code, .int .i64 r.op, .int .i64 r.size, .bool r.nar, .bool r.reg, .int .i64 r.dst, .int .i64 r.src, .int .i64 r.off, .int .i64 r.imm, .int .i64 r.second, .bool r.writes]
def zeroR : RRow := ⟨0, 0, 0, false, false, 0, 0, 0, 0, 0, false⟩
def aluRow (op digit off : Int) (i : Nat) : RRow :=
  ⟨16 * digit + 7 + (if i % 2 = 1 then 8 else 0) - (if 2 ≤ i then 3 else 0), op, 0, decide (2 ≤ i), i % 2 == 1, -1, if i % 2 = 1 then -1 else 0, off, if i % 2 = 1 then 0 else -1, 0, true⟩
def aluL (op digit off : Int) : List RRow := (List.range 4).map (aluRow op digit off)
def jumpRow (op digit : Int) (i : Nat) : RRow :=
  ⟨16 * digit + 5 + (if i % 2 = 1 then 8 else 0) + (if 2 ≤ i then 1 else 0), op, 0, decide (2 ≤ i), i % 2 == 1, -1, if i % 2 = 1 then -1 else 0, -1, if i % 2 = 1 then 0 else -1, 0, false⟩
def jumpRL (op digit : Int) : List RRow := (List.range 4).map (jumpRow op digit)
def movsL : List RRow := [⟨191, 16, 8, false, true, -1, -1, 8, 0, 0, true⟩, ⟨188, 16, 8, true, true, -1, -1, 8, 0, 0, true⟩, ⟨191, 16, 16, false, true, -1, -1, 16, 0, 0, true⟩, ⟨188, 16, 16, true, true, -1, -1, 16, 0, 0, true⟩, ⟨191, 16, 32, false, true, -1, -1, 32, 0, 0, true⟩]
def negL : List RRow := [⟨135, 14, 0, false, false, -1, 0, 0, 0, 0, true⟩, ⟨132, 14, 0, true, false, -1, 0, 0, 0, 0, true⟩]
def swapL (size : Int) : List RRow := [⟨212, 17, size, false, false, -1, 0, 0, size, 0, true⟩, ⟨220, 18, size, false, false, -1, 0, 0, size, 0, true⟩, ⟨215, 19, size, false, false, -1, 0, 0, size, 0, true⟩]
def wideL : List RRow := [⟨24, 20, 0, false, false, -1, 0, 0, -1, -1, true⟩, ⟨24, 21, 0, false, false, -1, 6, 0, 0, -1, true⟩]
def memL : List RRow :=
  [⟨113, 22, 1, false, false, -1, -1, -1, 0, 0, true⟩, ⟨145, 23, 1, false, false, -1, -1, -1, 0, 0, true⟩, ⟨115, 24, 1, false, true, -1, -1, -1, 0, 0, false⟩, ⟨114, 24, 1, false, false, -1, 0, -1, -1, 0, false⟩,
   ⟨105, 22, 2, false, false, -1, -1, -1, 0, 0, true⟩, ⟨137, 23, 2, false, false, -1, -1, -1, 0, 0, true⟩, ⟨107, 24, 2, false, true, -1, -1, -1, 0, 0, false⟩, ⟨106, 24, 2, false, false, -1, 0, -1, -1, 0, false⟩,
   ⟨97, 22, 4, false, false, -1, -1, -1, 0, 0, true⟩, ⟨129, 23, 4, false, false, -1, -1, -1, 0, 0, true⟩, ⟨99, 24, 4, false, true, -1, -1, -1, 0, 0, false⟩, ⟨98, 24, 4, false, false, -1, 0, -1, -1, 0, false⟩, ⟨195, 25, 4, false, false, -1, -1, -1, -1, 0, false⟩,
   ⟨121, 22, 8, false, false, -1, -1, -1, 0, 0, true⟩, ⟨123, 24, 8, false, true, -1, -1, -1, 0, 0, false⟩, ⟨122, 24, 8, false, false, -1, 0, -1, -1, 0, false⟩, ⟨219, 25, 8, false, false, -1, -1, -1, -1, 0, false⟩]
def jaL : List RRow := [⟨5, 26, 0, false, false, 0, 0, -1, 0, 0, false⟩, ⟨6, 26, 0, true, false, 0, 0, 0, -1, 0, false⟩]
def endL : List RRow := [⟨133, 38, 0, false, false, 0, 0, 0, -1, 0, false⟩, ⟨149, 39, 0, false, false, 0, 0, 0, 0, 0, false⟩]
def rowsL : List RRow :=
  aluL 1 0 0 ++ aluL 2 1 0 ++ aluL 3 2 0 ++ aluL 4 3 0 ++ aluL 6 3 1 ++ aluL 8 4 0 ++ aluL 9 5 0 ++ aluL 11 6 0 ++ aluL 12 7 0 ++ aluL 5 9 0 ++ aluL 7 9 1 ++ aluL 10 10 0 ++ aluL 15 11 0 ++ aluL 13 12 0 ++
  movsL ++ negL ++ swapL 16 ++ swapL 32 ++ swapL 64 ++ wideL ++ memL ++ jaL ++
  jumpRL 27 1 ++ jumpRL 29 2 ++ jumpRL 30 3 ++ jumpRL 37 4 ++ jumpRL 28 5 ++ jumpRL 33 6 ++ jumpRL 34 7 ++ jumpRL 31 10 ++ jumpRL 32 11 ++ jumpRL 35 12 ++ jumpRL 36 13 ++ endL
def RRow.fitsI (r : RRow) (op : Int) (nar reg : Bool) (size : Int) : Bool := r.op == op && r.nar == nar && r.reg == reg && r.size == size
def findR (op : Int) (nar reg : Bool) (size : Int) : Option RRow := rowsL.find? fun r => r.fitsI op nar reg size
def regsR (r : RRow) (dst src imm : Int) : Bool :=
  !(r.dst == -1 && (decide (dst < 0) || (decide (10 < dst) || (dst == 10 && r.writes)))) && !(r.src == -1 && (decide (src < 0) || (decide (10 < src) || (src == 10 && (r.op == 25 && fetchesL imm)))))
def goodR (r : RRow) (imm : Int) : Bool :=
  if r.op = 20 then true else if imm < -2147483648 ∨ 2147483647 < imm then false else
  if r.op = 4 ∨ r.op = 5 ∨ r.op = 6 ∨ r.op = 7 then imm != 0 else
  if r.op = 11 ∨ r.op = 12 ∨ r.op = 13 then decide (0 ≤ imm ∧ imm < 32) || (decide (0 ≤ imm ∧ imm < 64) && !r.nar) else
  if r.op = 25 then atomL imm else if r.op = 21 then decide (0 ≤ imm) else true
def rightR (i : Ins) : Int :=
  match findR i.op i.nar i.reg i.size with
  | none => 21
  | some y => if regsR y i.dst i.src i.imm = false then 22 else
    if (y.dst != -1 && i.dst != 0) || (y.src != -1 && i.src != 0) || (y.off != -1 && i.off != 0) || decide (i.off < -32768) || decide (32767 < i.off) then 23 else
    if y.imm != -1 && y.second != -1 && i.imm != 0 then 24 else
    if (y.imm == -1 || y.second == -1) && !goodR y i.imm then 24 else 0
/-- what the table says of one form, against what package code says -/
def formOk (op : Int) (nar reg : Bool) (size : Int) : Bool :=
  match findR op nar reg size with
  | none => !operatesL op nar reg size
  | some y => operatesL op nar reg size && y.op == op && y.nar == nar && ((y.dst == -1) == (namedL op nar reg / 4 % 2 == 1)) && ((y.src == -1) == (namedL op nar reg / 8 % 2 == 1)) && ((y.off == -1) == (namedL op nar reg / 16 % 2 == 1)) &&
      ((y.imm == -1 || y.second == -1) == (namedL op nar reg / 32 % 2 == 1)) && (y.writes == (decide (1 ≤ op) && decide (op ≤ 23)))
def chkR : Bool := (List.range 40).all fun op => [true, false].all fun nar => [true, false].all fun reg => sizesA.all fun size => formOk op nar reg size
theorem chkR_ok : chkR = true := by kernel_rfl
/-- every row is of a known operation and size -/
def rowOk (r : RRow) : Bool := decide (1 ≤ r.op) && decide (r.op ≤ 39) && sizesA.contains r.size
theorem rows_ok : rowsL.all rowOk = true := by kernel_rfl
theorem form_ok (op : Int) (nar reg : Bool) (size : Int) : formOk op nar reg size = true := by
  by_cases h : (1 ≤ op ∧ op ≤ 39) ∧ size ∈ sizesA
  · obtain ⟨⟨h1, h2⟩, h3⟩ := h
    have h0 := chkR_ok
    unfold chkR at h0
    have a1 := List.all_eq_true.1 h0 op.toNat (List.mem_range.2 (by omega))
    rw [show ((op.toNat : Nat) : Int) = op by omega] at a1
    have a2 := List.all_eq_true.1 a1 nar (by cases nar <;> simp)
    have a3 := List.all_eq_true.1 a2 reg (by cases reg <;> simp)
    exact List.all_eq_true.1 a3 size h3
  · have hn : findR op nar reg size = none := by
      unfold findR
      rw [List.find?_eq_none]
      intro r hr hf
      have hk := List.all_eq_true.1 rows_ok r hr
      unfold rowOk at hk
      unfold RRow.fitsI at hf
      simp only [Bool.and_eq_true, decide_eq_true_eq, beq_iff_eq, List.contains_iff_mem] at hk hf
      refine h ⟨by omega, ?_⟩
      rw [← hf.2]; exact hk.2
    unfold formOk
    rw [hn]
    have ho : operatesL op nar reg size = false := by
      cases hop : operatesL op nar reg size with
      | false => rfl
      | true =>
        exact absurd ⟨(op_sized hop).1, sized_mem (op_sized hop).2⟩ h
    rw [ho]; rfl
theorem reg_b (d w : Bool) (r : Int) : (!(d && (decide (r < 0) || (decide (10 < r) || (r == 10 && w))))) = (!d || registerL r w) := by
  unfold registerL
  cases d
  · rfl
  · rw [Bool.eq_iff_iff]
    cases w <;> simp <;> omega
theorem bit_no (x : Int) : (x % 2 == 0) = !(x % 2 == 1) := by
  have h : x % 2 = 0 ∨ x % 2 = 1 := by omega
  rcases h with e | e <;> rw [e] <;> rfl
def immB (op : Int) (nar : Bool) (imm : Int) : Bool :=
  if op = 20 then true else if op = 21 then decide (0 ≤ imm) && decide (imm ≤ 2147483647) else if op = 25 then atomL imm else
  if op = 4 ∨ op = 5 ∨ op = 6 ∨ op = 7 then imm != 0 && fitsL imm 2147483647 else
  if op = 11 ∨ op = 12 ∨ op = 13 then decide (0 ≤ imm) && (decide (imm ≤ 31) || (decide (imm ≤ 63) && !nar)) else fitsL imm 2147483647
theorem good_imm (r : RRow) (imm : Int) : goodR r imm = immB r.op r.nar imm := by
  unfold goodR immB fitsL
  by_cases h20 : r.op = 20
  · rw [if_pos h20, if_pos h20]
  rw [if_neg h20, if_neg h20]
  by_cases hr : imm < -2147483648 ∨ 2147483647 < imm
  · rw [if_pos hr]
    by_cases h21 : r.op = 21
    · rw [if_pos h21, Bool.eq_iff_iff]; simp; omega
    rw [if_neg h21]
    by_cases h25 : r.op = 25
    · rw [if_pos h25]
      cases ha : atomL imm with
      | false => rfl
      | true => have := atom_rng ha; omega
    rw [if_neg h25]
    split
    · rw [Bool.eq_iff_iff]; simp; omega
    · split
      · rw [Bool.eq_iff_iff]; simp; omega
      · rw [Bool.eq_iff_iff]; simp; omega
  · rw [if_neg hr]
    by_cases h4 : r.op = 4 ∨ r.op = 5 ∨ r.op = 6 ∨ r.op = 7
    · rw [if_pos h4, if_neg (by omega), if_neg (by omega), if_pos h4, Bool.eq_iff_iff]; simp; omega
    rw [if_neg h4]
    by_cases h11 : r.op = 11 ∨ r.op = 12 ∨ r.op = 13
    · rw [if_pos h11, if_neg (by omega), if_neg (by omega), if_neg h4, if_pos h11]
      cases r.nar
      · rw [Bool.eq_iff_iff]; simp; omega
      · rw [Bool.eq_iff_iff]; simp; omega
    rw [if_neg h11]
    by_cases h25 : r.op = 25
    · rw [if_pos h25, if_neg (by omega), if_pos h25]
    rw [if_neg h25]
    by_cases h21 : r.op = 21
    · rw [if_pos h21, if_pos h21, Bool.eq_iff_iff]; simp; omega
    rw [if_neg h21, if_neg h21, if_neg h25, if_neg h4, if_neg h11, Bool.eq_iff_iff]; simp; omega
theorem immediate_b (op : Int) (nar reg : Bool) (imm : Int) : immediateL op nar reg imm = if (namedL op nar reg / 32 % 2 == 1) = true then immB op nar imm else imm == 0 := by
  unfold immediateL immB
  have h : namedL op nar reg / 32 % 2 = 0 ∨ namedL op nar reg / 32 % 2 = 1 := by omega
  rcases h with e | e
  · rw [if_pos e, e]; rfl
  · rw [if_neg (by omega), e]; rfl
/-- a row that is found: its fields are those that are named -/
structure Found (i : Ins) (y : RRow) : Prop where
  ops : operatesL i.op i.nar i.reg i.size = true
  op : y.op = i.op
  nar : y.nar = i.nar
  dst : (y.dst == -1) = (i.p / 4 % 2 == 1)
  src : (y.src == -1) = (i.p / 8 % 2 == 1)
  off : (y.off == -1) = (i.p / 16 % 2 == 1)
  imm : (y.imm == -1 || y.second == -1) = (i.p / 32 % 2 == 1)
  writes : y.writes = (decide (1 ≤ i.op) && decide (i.op ≤ 23))
theorem found_some {i : Ins} {y : RRow} (h : findR i.op i.nar i.reg i.size = some y) : Found i y := by
  have hf := form_ok i.op i.nar i.reg i.size
  unfold formOk at hf
  rw [h] at hf
  simp only [Bool.and_eq_true, beq_iff_eq] at hf
  obtain ⟨⟨⟨⟨⟨⟨⟨f0, f1⟩, f2⟩, f3⟩, f4⟩, f5⟩, f6⟩, f7⟩ := hf
  exact ⟨f0, f1, f2, f3, f4, f5, f6, f7⟩
theorem found_none {i : Ins} (h : findR i.op i.nar i.reg i.size = none) : operatesL i.op i.nar i.reg i.size = false := by
  have hf := form_ok i.op i.nar i.reg i.size
  unfold formOk at hf
  rw [h] at hf
  simpa using hf
theorem Found.regs {i : Ins} {y : RRow} (F : Found i y) (dst src imm : Int) : regsR y dst src imm = registersL i.op i.nar i.reg dst src imm := by
  unfold regsR registersL
  rw [reg_b, reg_b, F.dst, F.src, F.op, F.writes, bit_no (namedL i.op i.nar i.reg / 4), bit_no (namedL i.op i.nar i.reg / 8)]
  rfl
theorem fields_b (a b c : Bool) (dst src off : Int) : ((a || dst == 0) && (b || src == 0) && (c || off == 0) && (decide (-32768 ≤ off) && decide (off ≤ 32767))) =
    !((!a && dst != 0) || (!b && src != 0) || (!c && off != 0) || decide (off < -32768) || decide (32767 < off)) := by
  rw [Bool.eq_iff_iff]
  cases a <;> cases b <;> cases c <;> simp <;> omega
theorem Found.fields {i : Ins} {y : RRow} (F : Found i y) : fieldsL i.op i.nar i.reg i.dst i.src i.off = !((y.dst != -1 && i.dst != 0) || (y.src != -1 && i.src != 0) || (y.off != -1 && i.off != 0) || decide (i.off < -32768) || decide (32767 < i.off)) := by
  unfold fieldsL
  rw [fields_b]
  have e1 : (y.dst != -1) = !(namedL i.op i.nar i.reg / 4 % 2 == 1) := congrArg not F.dst
  have e2 : (y.src != -1) = !(namedL i.op i.nar i.reg / 8 % 2 == 1) := congrArg not F.src
  have e3 : (y.off != -1) = !(namedL i.op i.nar i.reg / 16 % 2 == 1) := congrArg not F.off
  rw [e1, e2, e3]
theorem right_ref (i : Ins) : rightR i = i.wrong := by
  unfold rightR Ins.wrong wrongL
  cases hy : findR i.op i.nar i.reg i.size with
  | none => rw [if_pos (found_none hy)]
  | some y =>
    have F := found_some hy
    simp only
    rw [F.regs, F.fields, immediate_b]
    simp only [F.ops, Bool.true_eq_false, if_false]
    generalize registersL i.op i.nar i.reg i.dst i.src i.imm = rg
    generalize ((y.dst != -1 && i.dst != 0) || (y.src != -1 && i.src != 0) || (y.off != -1 && i.off != 0) || decide (i.off < -32768) || decide (32767 < i.off)) = fl
    have e32 : (namedL i.op i.nar i.reg / 32 % 2 == 1) = (y.imm == -1 || y.second == -1) := F.imm.symm
    rw [e32, good_imm, F.op, F.nar]
    have en : (y.imm != -1 && y.second != -1) = !(y.imm == -1 || y.second == -1) := by
      unfold bne
      cases (y.imm == -1) <;> cases (y.second == -1) <;> rfl
    rw [en]
    generalize (y.imm == -1 || y.second == -1) = b
    generalize immB i.op i.nar i.imm = q
    cases rg <;> cases fl <;> cases b <;> cases q <;> simp [bne]
end Go.Proofs.YtlodoinmippebaaDoor.Rf
/- Rows that a call owns; alu and jump of the document's answer for package code. -/
namespace Go.Proofs.YtlodoinmippebaaDoor.Rf
open Go.ChangeShapes Go.WideShapes Go.ChangeAt Go.RowKit
open Cod Bits
set_option linter.unusedVariables false
set_option linter.unusedSimpArgs false

abbrev row11 (code op size : Int) (nar reg : Bool) (dst src off imm second : Int) (writes : Bool) : Array Value := #[.int .i64 code, .int .i64 op, .int .i64 size, .bool nar, .bool reg, .int .i64 dst, .int .i64 src, .int .i64 off, .int .i64 imm, .int .i64 second, .bool writes]
def OwnR (w : World) (base : Nat) (v : Value) (L : List RRow) : Prop := w.ownsRow base 125 11 v L.length (L.flatMap RRow.cells)
theorem OwnR.below {w w' : World} {base : Nat} {v : Value} {L : List RRow} (h : OwnR w base v L) (hb : Below w.heap.size w w') : OwnR w' base v L := own_keep h hb
theorem OwnR.nil (w : World) (base : Nat) : OwnR w base (.slice none 0 0) [] := World.ownsRow_nil w base _ 11
theorem OwnR.form {w : World} {base : Nat} {v : Value} {L : List RRow} (h : OwnR w base v L) : ∃ A c, v = .slice A L.length c := by
  rcases h.2 with ⟨hv, hn⟩ | ⟨g, cap, cur, hv, _⟩
  · exact ⟨none, 0, by rw [hv, hn]⟩
  · exact ⟨_, _, hv⟩
/-- cells at an address are this row -/
def RowIs (w : World) (b o : Nat) (r : RRow) : Prop :=
  w.cell? ⟨b, o, none⟩ = some (.int .i64 r.code) ∧ w.cell? ⟨b, o + 1, none⟩ = some (.int .i64 r.op) ∧ w.cell? ⟨b, o + 2, none⟩ = some (.int .i64 r.size) ∧ w.cell? ⟨b, o + 3, none⟩ = some (.bool r.nar) ∧ w.cell? ⟨b, o + 4, none⟩ = some (.bool r.reg) ∧
  w.cell? ⟨b, o + 5, none⟩ = some (.int .i64 r.dst) ∧ w.cell? ⟨b, o + 6, none⟩ = some (.int .i64 r.src) ∧ w.cell? ⟨b, o + 7, none⟩ = some (.int .i64 r.off) ∧ w.cell? ⟨b, o + 8, none⟩ = some (.int .i64 r.imm) ∧ w.cell? ⟨b, o + 9, none⟩ = some (.int .i64 r.second) ∧ w.cell? ⟨b, o + 10, none⟩ = some (.bool r.writes)
def RowsAt (w : World) (A : Option Addr) (L : List RRow) : Prop := 0 < L.length → ∃ b off, A = some ⟨b, off, none⟩ ∧ b < w.heap.size ∧ ∀ j r, L[j]? = some r → RowIs w b (off + j * 11) r
theorem RowIs.below {w w' : World} {B b o : Nat} {r : RRow} (h : RowIs w b o r) (hb : Below B w w') (hl : b < B) : RowIs w' b o r := by
  obtain ⟨h0, h1, h2, h3, h4, h5, h6, h7, h8, h9, h10⟩ := h
  exact ⟨(hb.cell (p := ⟨b, o, none⟩) hl).trans h0, (hb.cell (p := ⟨b, o + 1, none⟩) hl).trans h1, (hb.cell (p := ⟨b, o + 2, none⟩) hl).trans h2, (hb.cell (p := ⟨b, o + 3, none⟩) hl).trans h3, (hb.cell (p := ⟨b, o + 4, none⟩) hl).trans h4, (hb.cell (p := ⟨b, o + 5, none⟩) hl).trans h5, (hb.cell (p := ⟨b, o + 6, none⟩) hl).trans h6, (hb.cell (p := ⟨b, o + 7, none⟩) hl).trans h7, (hb.cell (p := ⟨b, o + 8, none⟩) hl).trans h8, (hb.cell (p := ⟨b, o + 9, none⟩) hl).trans h9, (hb.cell (p := ⟨b, o + 10, none⟩) hl).trans h10⟩
theorem RowsAt.below {w w' : World} {A : Option Addr} {L : List RRow} (h : RowsAt w A L) (hb : Below w.heap.size w w') : RowsAt w' A L := fun hp => by
  obtain ⟨b, off, e, hl, hc⟩ := h hp
  exact ⟨b, off, e, Nat.lt_of_lt_of_le hl hb.size, fun j i hi => (hc j i hi).below hb hl⟩
theorem flat_len11 (L : List RRow) : (L.flatMap RRow.cells).length = L.length * 11 := by
  induction L with
  | nil => rfl
  | cons i t ih => rw [List.flatMap_cons, List.length_append, ih, List.length_cons]; simp [RRow.cells]; omega
theorem flat_get11 : ∀ (L : List RRow) (j : Nat) (i : RRow), L[j]? = some i → ∀ k, k < 11 → (L.flatMap RRow.cells)[j * 11 + k]? = i.cells[k]?
  | a :: t, 0, i, h, k, hk => by
    have e : a = i := by simpa using h
    subst e
    rw [List.flatMap_cons, List.getElem?_append_left (by simp [RRow.cells]; omega)]
    simp
  | a :: t, j + 1, i, h, k, hk => by
    have h2 : t[j]? = some i := by simpa using h
    have hl : a.cells.length = 11 := rfl
    rw [List.flatMap_cons, List.getElem?_append_right (by omega), hl, show (j + 1) * 11 + k - 11 = j * 11 + k by omega]
    exact flat_get11 t j i h2 k hk
theorem rowsAt_cells {w : World} {g : Nat} {L : List RRow} (hlt : g < w.heap.size) (h : ∀ m v, (L.flatMap RRow.cells)[m]? = some v → w.cell? ⟨g, m, none⟩ = some v) : RowsAt w (some ⟨g, 0, none⟩) L := fun _ =>
  ⟨g, 0, rfl, hlt, fun j i hi => by
    have k := flat_get11 L j i hi
    rw [Nat.zero_add]
    exact ⟨h _ _ (k 0 (by decide)), h _ _ (k 1 (by decide)), h _ _ (k 2 (by decide)), h _ _ (k 3 (by decide)), h _ _ (k 4 (by decide)), h _ _ (k 5 (by decide)), h _ _ (k 6 (by decide)), h _ _ (k 7 (by decide)), h _ _ (k 8 (by decide)), h _ _ (k 9 (by decide)), h _ _ (k 10 (by decide))⟩⟩
theorem OwnR.rowsAt {w : World} {base : Nat} {v : Value} {L : List RRow} (h : OwnR w base v L) : ∃ A c, v = .slice A L.length c ∧ RowsAt w A L := by
  rcases h.2 with ⟨hv, hn⟩ | ⟨g, cap, cur, hv, hg, hh, hnc, hcm, hcs, hx⟩
  · exact ⟨none, 0, by rw [hv, hn], fun hp => by omega⟩
  · have hlt : g < w.heap.size := by
      rcases Nat.lt_or_ge g w.heap.size with h1 | h1
      · exact h1
      · rw [Array.getElem?_eq_none h1] at hh; cases hh
    refine ⟨_, cap, hv, rowsAt_cells hlt fun m u hm => ?_⟩
    rw [cell_of_row w g m cur 125 (0, 0) hh]
    rw [← hx] at hm
    have h2 : (cur.toList.take (L.length * 11))[m]? = some u := hm
    rw [List.getElem?_take] at h2
    split at h2
    · simpa using h2
    · cases h2
theorem row_one (w : World) (r : RRow) : Reads (w.alloc (.cells r.cells.toArray 125)) (w.heap.size + 1) 11 (some ⟨w.heap.size, 0, none⟩) 1 r.cells := by
  refine ⟨rfl, fun _ => ⟨⟨w.heap.size, 0, none⟩, rfl, by simp, fun j u hu => ?_⟩⟩
  rw [Addr.add_lit, Nat.zero_add, (Blk.new w 125 r.cells.toArray).cell j]
  simpa using hu
theorem size_box (w : World) (o : Obj) : w.heap.size + 1 = (w.alloc o).heap.size := by simp
theorem row_info : (Tryd.prog.info? 125).map (fun i => (i.zero, i.size, i.bytes)) = some (some (.agg (row11 0 0 0 false false 0 0 0 0 0 false)), 11, 80) := by kernel_rfl
/-- one row more, laid in a box ahead of it -/
theorem append_row {P : Program} (hu : P.underlying 118 = some (.slice 125)) (hinf : (P.info? 125).map (fun i => (i.zero, i.size, i.bytes)) = some (some (.agg (row11 0 0 0 false false 0 0 0 0 0 false)), 11, 80)) (w w0 : World) {ops : Array Oper} {rest : List Oper} {o : Oper} {a : Act} {Q : Exit → Act → World → Prop} (hgd : Region.wanted o (yielded ops a.tmps) = true) (s x : Operand)
    (ho : o.op = .call { callee := .builtin .append, args := #[s, x], argTypes := #[118, 118] })
    (base : Nat) (v : Value) (L : List RRow) (hs : a.eval s = v) (hown : OwnR w0 base v L) (r : RRow) (hw : w = w0.alloc (.cells r.cells.toArray 125))
    (g : Nat) (hg : g = w0.heap.size) (hx : a.eval x = .slice (some ⟨g, 0, none⟩) 1 1)
    (hlen : L.length ≤ 4096) (hbase : base ≤ w0.heap.size)
    (h : ∀ v' w', OwnR w' base v' (L ++ [r]) → Below base w0 w' → (∀ b, b < w0.heap.size → some b ≠ v.ownBlock → w'.heap[b]? = w0.heap[b]?) → wpList P ops Q rest (a.put o.dst v') w') : wpList P ops Q (o :: rest) a w := by
  subst hw hg
  obtain ⟨i0, hi, hz0, hz1, hz2⟩ := info_parts hinf
  have hbx := below_box w0 (.cells r.cells.toArray 125)
  refine wpList_append_wide _ hgd s x 118 ho base 125 i0 _ 11 80 hu hi hz0 hz1 hz2 rfl (by decide) v L.length _ hs (own_keep hown hbx) (w0.heap.size + 1) (some ⟨w0.heap.size, 0, none⟩) 1 1 _ hx (row_one w0 r)
    (fun u hu => ?_) (by unfold maxLen; omega) (by omega) (Nat.le_trans hbase hbx.size) ?_
  · simp only [RRow.cells, List.mem_cons, List.not_mem_nil, or_false] at hu
    rcases hu with rfl | rfl | rfl | rfl | rfl | rfl | rfl | rfl | rfl | rfl | rfl <;> rfl
  · intro v' w' h1 h2
    refine h v' w' ?_ (((Below.refl base w0).alloc hbase _).grown h2 (Nat.le_trans hbase hbx.size) fun k hk => (World.ownsRow.lt hown k hk).1) (fun b hb hne => (h2.block b (Nat.lt_of_lt_of_le hb hbx.size) hne).trans (Below.heap_alloc w0 _ b hb))
    unfold OwnR
    rw [List.length_append, List.flatMap_append]
    simpa using h1
/-- rows, one more, in a list that goes on -/
def OwnedR (base : Nat) (w : World) (L : List RRow) (e : Ending) (w' : World) : Prop := ∃ v, e = .returned v ∧ OwnR w' base v L ∧ Below base w w'
theorem alu_steps (op digit off : Int) : aluL op digit off = [aluRow op digit off 0, aluRow op digit off 1, aluRow op digit off 2, aluRow op digit off 3] := rfl
theorem alu_take (op digit off : Int) (j : Nat) (h : j < 4) : (aluL op digit off).take (j + 1) = (aluL op digit off).take j ++ [aluRow op digit off j] := by
  refine take_next _ j _ ?_
  unfold aluL
  rw [List.getElem?_map, List.getElem?_range h]; rfl
theorem alu_len (op digit off : Int) (j : Nat) : ((aluL op digit off).take j).length ≤ 4 := by rw [List.length_take]; simp [aluL]; omega
set_option maxRecDepth 100000 in
set_option maxHeartbeats 4000000 in
theorem alu_any (w : World) (base : Nat) (v : Value) (L : List RRow) (op digit off : Int) (hd : 0 ≤ digit ∧ digit ≤ 15) (hown : OwnR w base v L) (hl : L.length ≤ 4000) (hb : base ≤ w.heap.size) :
    Calls Tryd.prog 98 #[v, .int .i64 op, .int .i64 digit, .int .i64 off] w (OwnedR base w (L ++ aluL op digit off)) := by
  have HO := Lib.hid hown
  obtain ⟨A0, c0, rfl⟩ := hown.form
  obtain ⟨hd1, hd2⟩ := hd
  have HL := Lib.hid hl
  have HB := Lib.hid hb
  clear hown hl hb
  generalize hV : Value.slice A0 L.length c0 = V at *
  have HV := Lib.hid hV
  clear hV
  go_enter Tryd.func98, Tryd.ntmps98
  go_wp2_with fail
  go_loopw [0, 9] (fun l i wr => ∃ j : Nat, j ≤ 4 ∧ i = .int .i64 j ∧ OwnR wr base l (L ++ (aluL op digit off).take j) ∧ Below base w wr) (fun _ i _ => (4 - intOf i).toNat)
  case atStart => exact ⟨0, Nat.zero_le _, rfl, by simpa using HO.out, Below.refl _ _⟩
  case round =>
    obtain ⟨j, hj, rfl, hown, hB⟩ := hrel
    by_cases hlt : j < 4
    · have hlt' : (j : Int) < 4 := by omega
      have hj0 : (0 : Int) ≤ (j : Int) := by omega
      have hlen : (L ++ (aluL op digit off).take j).length ≤ 4096 := by
        rw [List.length_append]; have := alu_len op digit off j; have := HL.out; omega
      have HT := Lib.hid (alu_take op digit off j hlt)
      have hbw : base ≤ wr.heap.size := Nat.le_trans HB.out hB.size
      have HW := Lib.hid hB
      have HOW := Lib.hid hown
      have HR := Lib.hid (show (j = 0 ∨ j = 1 ∨ j = 2 ∨ j = 3) ∧ ∀ r, aluRow op digit off j = r → L ++ (aluL op digit off).take (j + 1) = L ++ (aluL op digit off).take j ++ [r] from ⟨by omega, fun r e => by rw [HT.out, ← List.append_assoc, e]⟩)
      obtain ⟨A1, c1, rfl⟩ := hown.form
      clear hown hB
      generalize L ++ (aluL op digit off).take j = T at *
      rcases HR.out.1 with h0 | h0 | h0 | h0
      · have t1 : ((j : Int) % 2 == 1) = false := by rw [h0]; rfl
        have t2 : decide ((2 : Int) ≤ (j : Int)) = false := by rw [h0]; rfl
        have HE := Lib.hid (HR.out.2 ⟨16 * digit + 7, op, 0, false, false, -1, 0, off, -1, 0, true⟩ (by rw [h0]; simp [aluRow]))
        clear h0
        go_wp2_with (at_builtin; (refine append_row Tryd.underlying118 row_info _ (wr.alloc _) rfl (.tmp 38) (.tmp 40) rfl base _ _ rfl (HOW.out.below (below_box wr _)) ⟨16 * digit + 7, op, 0, false, false, -1, 0, off, -1, 0, true⟩ rfl _ (size_box wr _) rfl hlen (Nat.le_trans hbw (below_box wr _).size) ?_; intro v' w' hown' hB' _))
        go_roundw
        case rel => exact ⟨j + 1, by omega, by go_num, by rw [HE.out]; exact hown', HW.out.trans (((below_box wr _).mono hbw).trans hB')⟩
        case measure => simp [intOf]; omega
      · have t1 : ((j : Int) % 2 == 1) = true := by rw [h0]; rfl
        have t2 : decide ((2 : Int) ≤ (j : Int)) = false := by rw [h0]; rfl
        have HE := Lib.hid (HR.out.2 ⟨16 * digit + 7 + 8, op, 0, false, true, -1, -1, off, 0, 0, true⟩ (by rw [h0]; simp [aluRow]))
        clear h0
        go_wp2_with (at_builtin; (refine append_row Tryd.underlying118 row_info _ (wr.alloc _) rfl (.tmp 38) (.tmp 40) rfl base _ _ rfl (HOW.out.below (below_box wr _)) ⟨16 * digit + 7 + 8, op, 0, false, true, -1, -1, off, 0, 0, true⟩ rfl _ (size_box wr _) rfl hlen (Nat.le_trans hbw (below_box wr _).size) ?_; intro v' w' hown' hB' _))
        go_roundw
        case rel => exact ⟨j + 1, by omega, by go_num, by rw [HE.out]; exact hown', HW.out.trans (((below_box wr _).mono hbw).trans hB')⟩
        case measure => simp [intOf]; omega
      · have t1 : ((j : Int) % 2 == 1) = false := by rw [h0]; rfl
        have t2 : decide ((2 : Int) ≤ (j : Int)) = true := by rw [h0]; rfl
        have HE := Lib.hid (HR.out.2 ⟨16 * digit + 7 - 3, op, 0, true, false, -1, 0, off, -1, 0, true⟩ (by rw [h0]; simp [aluRow]))
        clear h0
        go_wp2_with (at_builtin; (refine append_row Tryd.underlying118 row_info _ (wr.alloc _) rfl (.tmp 38) (.tmp 40) rfl base _ _ rfl (HOW.out.below (below_box wr _)) ⟨16 * digit + 7 - 3, op, 0, true, false, -1, 0, off, -1, 0, true⟩ rfl _ (size_box wr _) rfl hlen (Nat.le_trans hbw (below_box wr _).size) ?_; intro v' w' hown' hB' _))
        go_roundw
        case rel => exact ⟨j + 1, by omega, by go_num, by rw [HE.out]; exact hown', HW.out.trans (((below_box wr _).mono hbw).trans hB')⟩
        case measure => simp [intOf]; omega
      · have t1 : ((j : Int) % 2 == 1) = true := by rw [h0]; rfl
        have t2 : decide ((2 : Int) ≤ (j : Int)) = true := by rw [h0]; rfl
        have HE := Lib.hid (HR.out.2 ⟨16 * digit + 7 + 8 - 3, op, 0, true, true, -1, -1, off, 0, 0, true⟩ (by rw [h0]; simp [aluRow]))
        clear h0
        go_wp2_with (at_builtin; (refine append_row Tryd.underlying118 row_info _ (wr.alloc _) rfl (.tmp 38) (.tmp 40) rfl base _ _ rfl (HOW.out.below (below_box wr _)) ⟨16 * digit + 7 + 8 - 3, op, 0, true, true, -1, -1, off, 0, 0, true⟩ rfl _ (size_box wr _) rfl hlen (Nat.le_trans hbw (below_box wr _).size) ?_; intro v' w' hown' hB' _))
        go_roundw
        case rel => exact ⟨j + 1, by omega, by go_num, by rw [HE.out]; exact hown', HW.out.trans (((below_box wr _).mono hbw).trans hB')⟩
        case measure => simp [intOf]; omega
    · obtain rfl : j = 4 := by omega
      have t4 : decide (((4 : Nat) : Int) < 4) = false := rfl
      have htk : (aluL op digit off).take 4 = aluL op digit off := rfl
      rw [htk] at hown
      have HOW := Lib.hid hown
      obtain ⟨A1, c1, rfl⟩ := hown.form
      clear hown htk
      go_wp2_with fail
      go_ret
      exact ⟨_, rfl, HOW.out, hB⟩
theorem jump_steps (op digit : Int) : jumpRL op digit = [jumpRow op digit 0, jumpRow op digit 1, jumpRow op digit 2, jumpRow op digit 3] := rfl
theorem jump_take (op digit : Int) (j : Nat) (h : j < 4) : (jumpRL op digit).take (j + 1) = (jumpRL op digit).take j ++ [jumpRow op digit j] := by
  refine take_next _ j _ ?_
  unfold jumpRL
  rw [List.getElem?_map, List.getElem?_range h]; rfl
theorem jump_len (op digit : Int) (j : Nat) : ((jumpRL op digit).take j).length ≤ 4 := by rw [List.length_take]; simp [jumpRL]; omega
set_option maxRecDepth 100000 in
set_option maxHeartbeats 4000000 in
theorem jump_any (w : World) (base : Nat) (v : Value) (L : List RRow) (op digit : Int) (hd : 0 ≤ digit ∧ digit ≤ 15) (hown : OwnR w base v L) (hl : L.length ≤ 4000) (hb : base ≤ w.heap.size) :
    Calls Tryd.prog 99 #[v, .int .i64 op, .int .i64 digit] w (OwnedR base w (L ++ jumpRL op digit)) := by
  have HO := Lib.hid hown
  obtain ⟨A0, c0, rfl⟩ := hown.form
  obtain ⟨hd1, hd2⟩ := hd
  have HL := Lib.hid hl
  have HB := Lib.hid hb
  clear hown hl hb
  generalize hV : Value.slice A0 L.length c0 = V at *
  have HV := Lib.hid hV
  clear hV
  go_enter Tryd.func99, Tryd.ntmps99
  go_wp2_with fail
  go_loopw [0, 7] (fun l i wr => ∃ j : Nat, j ≤ 4 ∧ i = .int .i64 j ∧ OwnR wr base l (L ++ (jumpRL op digit).take j) ∧ Below base w wr) (fun _ i _ => (4 - intOf i).toNat)
  case atStart => exact ⟨0, Nat.zero_le _, rfl, by simpa using HO.out, Below.refl _ _⟩
  case round =>
    obtain ⟨j, hj, rfl, hown, hB⟩ := hrel
    by_cases hlt : j < 4
    · have hlt' : (j : Int) < 4 := by omega
      have hj0 : (0 : Int) ≤ (j : Int) := by omega
      have hlen : (L ++ (jumpRL op digit).take j).length ≤ 4096 := by
        rw [List.length_append]; have := jump_len op digit j; have := HL.out; omega
      have HT := Lib.hid (jump_take op digit j hlt)
      have hbw : base ≤ wr.heap.size := Nat.le_trans HB.out hB.size
      have HW := Lib.hid hB
      have HOW := Lib.hid hown
      have HR := Lib.hid (show (j = 0 ∨ j = 1 ∨ j = 2 ∨ j = 3) ∧ ∀ r, jumpRow op digit j = r → L ++ (jumpRL op digit).take (j + 1) = L ++ (jumpRL op digit).take j ++ [r] from ⟨by omega, fun r e => by rw [HT.out, ← List.append_assoc, e]⟩)
      obtain ⟨A1, c1, rfl⟩ := hown.form
      clear hown hB
      generalize L ++ (jumpRL op digit).take j = T at *
      rcases HR.out.1 with h0 | h0 | h0 | h0
      · have t1 : ((j : Int) % 2 == 1) = false := by rw [h0]; rfl
        have t2 : decide ((2 : Int) ≤ (j : Int)) = false := by rw [h0]; rfl
        have HE := Lib.hid (HR.out.2 ⟨16 * digit + 5, op, 0, false, false, -1, 0, -1, -1, 0, false⟩ (by rw [h0]; simp [jumpRow]))
        clear h0
        go_wp2_with (at_builtin; (refine append_row Tryd.underlying118 row_info _ (wr.alloc _) rfl (.tmp 35) (.tmp 37) rfl base _ _ rfl (HOW.out.below (below_box wr _)) ⟨16 * digit + 5, op, 0, false, false, -1, 0, -1, -1, 0, false⟩ rfl _ (size_box wr _) rfl hlen (Nat.le_trans hbw (below_box wr _).size) ?_; intro v' w' hown' hB' _))
        go_roundw
        case rel => exact ⟨j + 1, by omega, by go_num, by rw [HE.out]; exact hown', HW.out.trans (((below_box wr _).mono hbw).trans hB')⟩
        case measure => simp [intOf]; omega
      · have t1 : ((j : Int) % 2 == 1) = true := by rw [h0]; rfl
        have t2 : decide ((2 : Int) ≤ (j : Int)) = false := by rw [h0]; rfl
        have HE := Lib.hid (HR.out.2 ⟨16 * digit + 5 + 8, op, 0, false, true, -1, -1, -1, 0, 0, false⟩ (by rw [h0]; simp [jumpRow]))
        clear h0
        go_wp2_with (at_builtin; (refine append_row Tryd.underlying118 row_info _ (wr.alloc _) rfl (.tmp 35) (.tmp 37) rfl base _ _ rfl (HOW.out.below (below_box wr _)) ⟨16 * digit + 5 + 8, op, 0, false, true, -1, -1, -1, 0, 0, false⟩ rfl _ (size_box wr _) rfl hlen (Nat.le_trans hbw (below_box wr _).size) ?_; intro v' w' hown' hB' _))
        go_roundw
        case rel => exact ⟨j + 1, by omega, by go_num, by rw [HE.out]; exact hown', HW.out.trans (((below_box wr _).mono hbw).trans hB')⟩
        case measure => simp [intOf]; omega
      · have t1 : ((j : Int) % 2 == 1) = false := by rw [h0]; rfl
        have t2 : decide ((2 : Int) ≤ (j : Int)) = true := by rw [h0]; rfl
        have HE := Lib.hid (HR.out.2 ⟨16 * digit + 5 + 1, op, 0, true, false, -1, 0, -1, -1, 0, false⟩ (by rw [h0]; simp [jumpRow]))
        clear h0
        go_wp2_with (at_builtin; (refine append_row Tryd.underlying118 row_info _ (wr.alloc _) rfl (.tmp 35) (.tmp 37) rfl base _ _ rfl (HOW.out.below (below_box wr _)) ⟨16 * digit + 5 + 1, op, 0, true, false, -1, 0, -1, -1, 0, false⟩ rfl _ (size_box wr _) rfl hlen (Nat.le_trans hbw (below_box wr _).size) ?_; intro v' w' hown' hB' _))
        go_roundw
        case rel => exact ⟨j + 1, by omega, by go_num, by rw [HE.out]; exact hown', HW.out.trans (((below_box wr _).mono hbw).trans hB')⟩
        case measure => simp [intOf]; omega
      · have t1 : ((j : Int) % 2 == 1) = true := by rw [h0]; rfl
        have t2 : decide ((2 : Int) ≤ (j : Int)) = true := by rw [h0]; rfl
        have HE := Lib.hid (HR.out.2 ⟨16 * digit + 5 + 8 + 1, op, 0, true, true, -1, -1, -1, 0, 0, false⟩ (by rw [h0]; simp [jumpRow]))
        clear h0
        go_wp2_with (at_builtin; (refine append_row Tryd.underlying118 row_info _ (wr.alloc _) rfl (.tmp 35) (.tmp 37) rfl base _ _ rfl (HOW.out.below (below_box wr _)) ⟨16 * digit + 5 + 8 + 1, op, 0, true, true, -1, -1, -1, 0, 0, false⟩ rfl _ (size_box wr _) rfl hlen (Nat.le_trans hbw (below_box wr _).size) ?_; intro v' w' hown' hB' _))
        go_roundw
        case rel => exact ⟨j + 1, by omega, by go_num, by rw [HE.out]; exact hown', HW.out.trans (((below_box wr _).mono hbw).trans hB')⟩
        case measure => simp [intOf]; omega
    · obtain rfl : j = 4 := by omega
      have t4 : decide (((4 : Nat) : Int) < 4) = false := rfl
      have htk : (jumpRL op digit).take 4 = jumpRL op digit := rfl
      rw [htk] at hown
      have HOW := Lib.hid hown
      obtain ⟨A1, c1, rfl⟩ := hown.form
      clear hown htk
      go_wp2_with fail
      go_ret
      exact ⟨_, rfl, HOW.out, hB⟩
end Go.Proofs.YtlodoinmippebaaDoor.Rf
/- Single questions of the document's answer for package code: registers, immediates, the row of an instruction, an instruction's error. -/
namespace Go.Proofs.YtlodoinmippebaaDoor.Rf
open Go.ChangeShapes Go.WideShapes Go.ChangeAt Go.RowKit
open Cod Bits
set_option linter.unusedVariables false
set_option linter.unusedSimpArgs false

theorem ret_bool {a b : Bool} (h : a = b) : Ending.returned (.bool a) = Ending.returned (.bool b) := by rw [h]
set_option maxHeartbeats 1000000 in
theorem rfetches_any (imm : Int) (w : World) : Calls Tryd.prog 123 #[.int .i64 imm] w fun e w' => e = .returned (.bool (fetchesL imm)) ∧ w = w' := by
  by_cases h1 : imm = 1
  · subst h1
    go_enter Tryd.func123, Tryd.ntmps123
    go_wp2_with fail
    go_ret
    exact ⟨rfl, rfl⟩
  · have t1 : (imm == 1) = false := by rw [beq_eq_false_iff_ne]; exact h1
    clear h1
    by_cases h65 : imm = 65
    · subst h65
      go_enter Tryd.func123, Tryd.ntmps123
      go_wp2_with fail
      go_ret
      exact ⟨rfl, rfl⟩
    · have t65 : (imm == 65) = false := by rw [beq_eq_false_iff_ne]; exact h65
      clear h65
      by_cases h81 : imm = 81
      · subst h81
        go_enter Tryd.func123, Tryd.ntmps123
        go_wp2_with fail
        go_ret
        exact ⟨rfl, rfl⟩
      · have t81 : (imm == 81) = false := by rw [beq_eq_false_iff_ne]; exact h81
        clear h81
        by_cases h161 : imm = 161
        · subst h161
          go_enter Tryd.func123, Tryd.ntmps123
          go_wp2_with fail
          go_ret
          exact ⟨rfl, rfl⟩
        · have t161 : (imm == 161) = false := by rw [beq_eq_false_iff_ne]; exact h161
          clear h161
          by_cases h225 : imm = 225
          · subst h225
            go_enter Tryd.func123, Tryd.ntmps123
            go_wp2_with fail
            go_ret
            exact ⟨rfl, rfl⟩
          · have t225 : (imm == 225) = false := by rw [beq_eq_false_iff_ne]; exact h225
            clear h225
            have HE := Lib.hid (show fetchesL imm = false by unfold fetchesL; rw [t1, t65, t81, t161, t225]; rfl)
            go_enter Tryd.func123, Tryd.ntmps123
            go_wp2_with fail
            go_ret
            exact ⟨by rw [HE.out]; rfl, rfl⟩
set_option maxHeartbeats 1000000 in
theorem ratom_any (imm : Int) (w : World) : Calls Tryd.prog 127 #[.int .i64 imm] w fun e w' => e = .returned (.bool (atomL imm)) ∧ w = w' := by
  have HF := Lib.hid (rfetches_any imm w)
  have HA := Lib.hid (show atomL imm = (imm == 0 || imm == 64 || imm == 80 || imm == 160 || imm == 241 || fetchesL imm) from rfl)
  generalize fetchesL imm = f at *
  cases f
  · rcases (show (imm == 0) = true ∨ ((imm == 0) = false ∧ (imm == 64) = true) ∨ ((imm == 0) = false ∧ (imm == 64) = false ∧ (imm == 80) = true) ∨ ((imm == 0) = false ∧ (imm == 64) = false ∧ (imm == 80) = false ∧ (imm == 160) = true) ∨ ((imm == 0) = false ∧ (imm == 64) = false ∧ (imm == 80) = false ∧ (imm == 160) = false ∧ (imm == 241) = true) ∨ ((imm == 0) = false ∧ (imm == 64) = false ∧ (imm == 80) = false ∧ (imm == 160) = false ∧ (imm == 241) = false) by
      cases (imm == 0) <;> cases (imm == 64) <;> cases (imm == 80) <;> cases (imm == 160) <;> cases (imm == 241) <;> simp) with t0 | ⟨t0, t1⟩ | ⟨t0, t1, t2⟩ | ⟨t0, t1, t2, t3⟩ | ⟨t0, t1, t2, t3, t4⟩ | ⟨t0, t1, t2, t3, t4⟩
    · have HE := Lib.hid (show atomL imm = true by rw [HA.out, t0]; simp)
      clear HA
      go_enter Tryd.func127, Tryd.ntmps127
      go_wp2_with fail
      go_at_call 123
      refine HF.out.mono ?_
      rintro e w' ⟨rfl, rfl⟩
      go_wp2_with fail
      go_ret
      exact ⟨by rw [HE.out]; rfl, rfl⟩
    · have HE := Lib.hid (show atomL imm = true by rw [HA.out, t0, t1]; simp)
      clear HA
      go_enter Tryd.func127, Tryd.ntmps127
      go_wp2_with fail
      go_at_call 123
      refine HF.out.mono ?_
      rintro e w' ⟨rfl, rfl⟩
      go_wp2_with fail
      go_ret
      exact ⟨by rw [HE.out]; rfl, rfl⟩
    · have HE := Lib.hid (show atomL imm = true by rw [HA.out, t0, t1, t2]; simp)
      clear HA
      go_enter Tryd.func127, Tryd.ntmps127
      go_wp2_with fail
      go_at_call 123
      refine HF.out.mono ?_
      rintro e w' ⟨rfl, rfl⟩
      go_wp2_with fail
      go_ret
      exact ⟨by rw [HE.out]; rfl, rfl⟩
    · have HE := Lib.hid (show atomL imm = true by rw [HA.out, t0, t1, t2, t3]; simp)
      clear HA
      go_enter Tryd.func127, Tryd.ntmps127
      go_wp2_with fail
      go_at_call 123
      refine HF.out.mono ?_
      rintro e w' ⟨rfl, rfl⟩
      go_wp2_with fail
      go_ret
      exact ⟨by rw [HE.out]; rfl, rfl⟩
    · have HE := Lib.hid (show atomL imm = true by rw [HA.out, t0, t1, t2, t3, t4]; rfl)
      clear HA
      go_enter Tryd.func127, Tryd.ntmps127
      go_wp2_with fail
      go_at_call 123
      refine HF.out.mono ?_
      rintro e w' ⟨rfl, rfl⟩
      go_wp2_with fail
      go_ret
      exact ⟨by rw [HE.out]; rfl, rfl⟩
    · have HE := Lib.hid (show atomL imm = false by rw [HA.out, t0, t1, t2, t3, t4]; rfl)
      clear HA
      go_enter Tryd.func127, Tryd.ntmps127
      go_wp2_with fail
      go_at_call 123
      refine HF.out.mono ?_
      rintro e w' ⟨rfl, rfl⟩
      go_wp2_with fail
      go_ret
      exact ⟨by rw [HE.out]; rfl, rfl⟩
  · have HE := Lib.hid (show atomL imm = true by rw [HA.out]; simp)
    clear HA
    go_enter Tryd.func127, Tryd.ntmps127
    go_wp2_with fail
    go_at_call 123
    refine HF.out.mono ?_
    rintro e w' ⟨rfl, rfl⟩
    go_wp2_with fail
    go_ret
    exact ⟨by rw [HE.out]; rfl, rfl⟩
set_option maxRecDepth 100000 in
set_option maxHeartbeats 4000000 in
theorem rregs_any (code op size : Int) (nar reg : Bool) (rd rs ro ri r2 : Int) (wr : Bool) (dst src imm : Int) (w : World) :
    Calls Tryd.prog 101 #[.agg (row11 code op size nar reg rd rs ro ri r2 wr), .int .i64 dst, .int .i64 src, .int .i64 imm] w fun e w' => e = .returned (.bool (regsR ⟨code, op, size, nar, reg, rd, rs, ro, ri, r2, wr⟩ dst src imm)) ∧ Below w.heap.size w w' := by
  have HF := Lib.hid (fun w => rfetches_any imm w)
  have HR := Lib.hid (show regsR ⟨code, op, size, nar, reg, rd, rs, ro, ri, r2, wr⟩ dst src imm = (!(rd == -1 && (decide (dst < 0) || (decide (10 < dst) || (dst == 10 && wr)))) && !(rs == -1 && (decide (src < 0) || (decide (10 < src) || (src == 10 && (op == 25 && fetchesL imm)))))) from rfl)
  generalize regsR ⟨code, op, size, nar, reg, rd, rs, ro, ri, r2, wr⟩ dst src imm = out at *
  generalize fetchesL imm = fe at *
  have HB := Lib.hid (below_box w (.cells (row11 code op size nar reg rd rs ro ri r2 wr) 125))
  go_enter Tryd.func101, Tryd.ntmps101
  go_wp2_with (go_at_call 123; (with_reducible refine (HF.out _).mono ?_); rintro e w' ⟨rfl, rfl⟩)
  all_goals
    clear HF HB
    have hr := HR.out
    clear HR
    go_ret
    refine ⟨ret_bool ?_, below_box _ _⟩
    rw [hr]
    clear hr
    simp_all
set_option maxRecDepth 100000 in
set_option maxHeartbeats 4000000 in
theorem rgood_any (code op size : Int) (nar reg : Bool) (rd rs ro ri r2 : Int) (wr : Bool) (imm : Int) (w : World) :
    Calls Tryd.prog 124 #[.agg (row11 code op size nar reg rd rs ro ri r2 wr), .int .i64 imm] w fun e w' => e = .returned (.bool (goodR ⟨code, op, size, nar, reg, rd, rs, ro, ri, r2, wr⟩ imm)) ∧ Below w.heap.size w w' := by
  have HF := Lib.hid (fun w => ratom_any imm w)
  have HR := Lib.hid (show goodR ⟨code, op, size, nar, reg, rd, rs, ro, ri, r2, wr⟩ imm = (if op = 20 then true else if imm < -2147483648 ∨ 2147483647 < imm then false else
    if op = 4 ∨ op = 5 ∨ op = 6 ∨ op = 7 then imm != 0 else if op = 11 ∨ op = 12 ∨ op = 13 then decide (0 ≤ imm ∧ imm < 32) || (decide (0 ≤ imm ∧ imm < 64) && !nar) else
    if op = 25 then atomL imm else if op = 21 then decide (0 ≤ imm) else true) from rfl)
  generalize goodR ⟨code, op, size, nar, reg, rd, rs, ro, ri, r2, wr⟩ imm = out at *
  generalize atomL imm = fe at *
  go_enter Tryd.func124, Tryd.ntmps124
  go_wp2_with (go_at_call 127; (with_reducible refine (HF.out _).mono ?_); rintro e w' ⟨rfl, rfl⟩)
  all_goals
    clear HF
    have hr := HR.out
    clear HR
    go_ret
    refine ⟨ret_bool ?_, below_box _ _⟩
    rw [hr]
    clear hr
    first
      | (simp_all; done)
      | (simp_all; (first | (exact ⟨fun h => by omega, fun h1 h2 => by omega⟩) | (cases nar <;> rw [Bool.eq_iff_iff] <;> simp <;> omega)))
end Go.Proofs.YtlodoinmippebaaDoor.Rf
/- The row of an instruction, and an instruction's error, of the document's answer for package code. -/
namespace Go.Proofs.YtlodoinmippebaaDoor.Rf
open Go.ChangeShapes Go.WideShapes Go.ChangeAt Go.RowKit
open Cod Bits
set_option linter.unusedVariables false
set_option linter.unusedSimpArgs false

abbrev zero11 : Array Value := row11 0 0 0 false false 0 0 0 0 0 false
def RRow.val (r : RRow) : Value := .agg (row11 r.code r.op r.size r.nar r.reg r.dst r.src r.off r.imm r.second r.writes)
theorem results_cell_tmp {P : Program} {fn : Func} {p q : Tmp} {ty : TypeId} (h : fn.results = #[.cell p ty, .tmp q]) (tmps : Array Value) (w : World) (g : Nat) (t : TypeId) (cs : Array Value) (fr : Nat × Nat) (d : TypeDesc) (v : Value)
    (hp : tmps.getD p undef = .pointer (some ⟨g, 0, none⟩)) (hq : tmps.getD q undef = v) (hg : w.heap[g]? = some (.cells cs t fr))
    (hu : P.underlying ty = some d) (hd : (match d with | .struct _ | .array _ _ => true | _ => false) = true) (hi : (P.info? ty).map (·.size) = some cs.size) :
    (results fn tmps).run P w = .ok (.tuple #[.agg cs, v]) w := by
  have hp' : tmps[p]?.getD undef = .pointer (some ⟨g, 0, none⟩) := by simpa using hp
  have hq' : tmps[q]?.getD undef = v := by simpa using hq
  simp [results, h, hp', hq', asAddr, run_loadVar_row w g t ty cs fr d hg hu hd hi]
def FindEnd (w : World) (r : Option RRow) (e : Ending) (w' : World) : Prop := e = .returned (.tuple #[(r.getD zeroR).val, .bool r.isSome]) ∧ Below w.heap.size w w'
theorem find_step {T : List RRow} {j : Nat} {r : RRow} (hr : T[j]? = some r) (p : RRow → Bool) : (T.drop j).find? p = if p r = true then some r else (T.drop (j + 1)).find? p := by
  have hj := (List.getElem?_eq_some_iff.1 hr).1
  have e : T[j] = r := (List.getElem?_eq_some_iff.1 hr).2
  rw [List.drop_eq_getElem_cons hj, e, List.find?_cons]
  cases p r <;> rfl
set_option maxRecDepth 100000 in
set_option maxHeartbeats 8000000 in
theorem find_any (w : World) (A : Option Addr) (n c : Nat) (T : List RRow) (hT : T.length = n) (hn : n ≤ 4096) (h : RowsAt w A T) (op : Int) (nar reg : Bool) (size dst src off imm : Int) :
    Calls Tryd.prog 73 #[.slice A n c, .agg (ins8 op nar reg size dst src off imm)] w (FindEnd w (T.find? fun r => r.fitsI op nar reg size)) := by
  have HA := Lib.hid h
  have HT := Lib.hid hT
  have HX := Lib.hid (show Blk ((w.alloc (.cells (ins8 op nar reg size dst src off imm) 71)).alloc (.cells zero11 125)) w.heap.size 71 (ins8 op nar reg size dst src off imm) from (Blk.new _ _ _).alloc _)
  have HZ := Lib.hid (blk_new2 w (.cells (ins8 op nar reg size dst src off imm) 71) 125 zero11)
  have HB := Lib.hid (below_box2 w (.cells (ins8 op nar reg size dst src off imm) 71) (.cells zero11 125))
  clear h hT
  go_enter Tryd.func73, Tryd.ntmps73
  go_wp2_with fail
  go_loopw [6] (fun i wr => ∃ j : Nat, j ≤ n ∧ i = .int .i64 j ∧ T.find? (fun r => r.fitsI op nar reg size) = (T.drop j).find? (fun r => r.fitsI op nar reg size) ∧ Blk wr w.heap.size 71 (ins8 op nar reg size dst src off imm) ∧ Blk wr (w.heap.size + 1) 125 zero11 ∧ Below w.heap.size w wr) (fun i _ => (n - intOf i).toNat)
  case atStart => exact ⟨0, Nat.zero_le _, rfl, rfl, HX.out, HZ.out, HB.out⟩
  case round =>
    clear HX HZ HB
    obtain ⟨j, hj, rfl, hf, hx, hz, hB⟩ := hrel
    by_cases hlt : j < n
    · have hlt' : (j : Int) < n := by omega
      obtain ⟨b, o, rfl, hbl, hc⟩ := HA.out (by have := HT.out; omega)
      obtain ⟨r, hr⟩ : ∃ r, T[j]? = some r := ⟨T[j]'(by have := HT.out; omega), List.getElem?_eq_getElem _⟩
      obtain ⟨y0, y1, y2, y3, y4, y5, y6, y7, y8, y9, y10⟩ := (hc j r hr).below hB hbl
      have HF := Lib.hid (hf.trans (find_step hr fun r => r.fitsI op nar reg size))
      have HFI := Lib.hid (show r.fitsI op nar reg size = (r.op == op && r.nar == nar && r.reg == reg && r.size == size) from rfl)
      obtain ⟨⟨c0, c1, c2, c3, c4, c5, c6, c7⟩, f0, f1, f2, f3, f4, f5, f6, f7⟩ := cells8 hx
      have HX := Lib.hid hx
      have HZ := Lib.hid hz
      have HB := Lib.hid hB
      have hs2 : w.heap.size + 1 < wr.heap.size := hz.lt
      have hs1 : w.heap.size < wr.heap.size := by omega
      clear hc hr hf hx hz hB
      obtain ⟨rc, ro, rz, rn, rr, rd, rs, rf, ri, r2, rw_⟩ := r
      simp only at y0 y1 y2 y3 y4 y5 y6 y7 y8 y9 y10 HFI HF
      rcases (show (ro == op) = false ∨ ((ro == op) = true ∧ (rn == nar) = false) ∨ ((ro == op) = true ∧ (rn == nar) = true ∧ (rr == reg) = false) ∨ ((ro == op) = true ∧ (rn == nar) = true ∧ (rr == reg) = true ∧ (rz == size) = false) ∨ ((ro == op) = true ∧ (rn == nar) = true ∧ (rr == reg) = true ∧ (rz == size) = true) by
        cases (ro == op) <;> cases (rn == nar) <;> cases (rr == reg) <;> cases (rz == size) <;> simp) with t0 | ⟨t0, t1⟩ | ⟨t0, t1, t2⟩ | ⟨t0, t1, t2, t3⟩ | ⟨t0, t1, t2, t3⟩
      · have HG := Lib.hid (show RRow.fitsI ⟨rc, ro, rz, rn, rr, rd, rs, rf, ri, r2, rw_⟩ op nar reg size = false by rw [HFI.out, t0]; rfl)
        clear HFI
        go_wp2_with fail
        go_roundw
        case rel => exact ⟨j + 1, by omega, by go_num, by rw [HF.out, if_neg (by rw [HG.out]; decide)], HX.out.alloc _, HZ.out.alloc _, HB.out.trans ((below_box wr _).mono HB.out.size)⟩
        case measure => simp [intOf]; omega
      · have HG := Lib.hid (show RRow.fitsI ⟨rc, ro, rz, rn, rr, rd, rs, rf, ri, r2, rw_⟩ op nar reg size = false by rw [HFI.out, t0, t1]; rfl)
        clear HFI
        go_wp2_with fail
        go_roundw
        case rel => exact ⟨j + 1, by omega, by go_num, by rw [HF.out, if_neg (by rw [HG.out]; decide)], HX.out.alloc _, HZ.out.alloc _, HB.out.trans ((below_box wr _).mono HB.out.size)⟩
        case measure => simp [intOf]; omega
      · have HG := Lib.hid (show RRow.fitsI ⟨rc, ro, rz, rn, rr, rd, rs, rf, ri, r2, rw_⟩ op nar reg size = false by rw [HFI.out, t0, t1, t2]; rfl)
        clear HFI
        go_wp2_with fail
        go_roundw
        case rel => exact ⟨j + 1, by omega, by go_num, by rw [HF.out, if_neg (by rw [HG.out]; decide)], HX.out.alloc _, HZ.out.alloc _, HB.out.trans ((below_box wr _).mono HB.out.size)⟩
        case measure => simp [intOf]; omega
      · have HG := Lib.hid (show RRow.fitsI ⟨rc, ro, rz, rn, rr, rd, rs, rf, ri, r2, rw_⟩ op nar reg size = false by rw [HFI.out, t0, t1, t2, t3]; rfl)
        clear HFI
        go_wp2_with fail
        go_roundw
        case rel => exact ⟨j + 1, by omega, by go_num, by rw [HF.out, if_neg (by rw [HG.out]; decide)], HX.out.alloc _, HZ.out.alloc _, HB.out.trans ((below_box wr _).mono HB.out.size)⟩
        case measure => simp [intOf]; omega
      · have HG := Lib.hid (show T.find? (fun r => r.fitsI op nar reg size) = some ⟨rc, ro, rz, rn, rr, rd, rs, rf, ri, r2, rw_⟩ by rw [HF.out, if_pos (by rw [HFI.out, t0, t1, t2, t3]; rfl)])
        have hi11 : (Tryd.prog.info? 125).map (·.size) = some 11 := by kernel_rfl
        have HI := Lib.hid hi11
        have hzz := HZ.out.alloc (.cells (row11 rc ro rz rn rr rd rs rf ri r2 rw_) 125)
        have HZZ := Lib.hid hzz
        have HBB := Lib.hid (HB.out.trans ((below_box wr (.cells (row11 rc ro rz rn rr rd rs rf ri r2 rw_) 125)).mono HB.out.size))
        clear HFI HF hzz hi11
        go_wp2_with (refine wpList_store_row rfl 125 (.tmp 4) (.tmp 44) rfl (w.heap.size + 1) (row11 rc ro rz rn rr rd rs rf ri r2 rw_) rfl rfl 125 zero11 HZZ.out HI.out rfl (by kernel_rfl) ?_)
        exact bodyPost_ret (v := .tuple #[.agg (row11 rc ro rz rn rr rd rs rf ri r2 rw_), .bool true]) (results_cell_tmp Tryd.results73 _ _ (w.heap.size + 1) 125 (row11 rc ro rz rn rr rd rs rf ri r2 rw_) (0, 0) _ _ rfl rfl (Blk.setRow HZZ.out _) Tryd.underlying125 rfl HI.out) rfl ⟨by rw [HG.out]; rfl, Below.setRow HBB.out (Nat.le_succ _) _⟩
    · obtain rfl : j = n := by omega
      have hjn : decide (j < j) = false := decide_eq_false (by omega)
      have HG := Lib.hid (show T.find? (fun r => r.fitsI op nar reg size) = none by rw [hf, List.drop_eq_nil_of_le (by rw [HT.out]; exact Nat.le_refl _)]; rfl)
      have hi11 : (Tryd.prog.info? 125).map (·.size) = some 11 := by kernel_rfl
      have HI := Lib.hid hi11
      have HZZ := Lib.hid hz
      have HBB := Lib.hid hB
      clear hi11 hf hx hz hB HA
      go_wp2_with (refine wpList_store_row rfl 125 (.tmp 4) (.tmp 45) rfl (w.heap.size + 1) zero11 rfl rfl 125 zero11 HZZ.out HI.out rfl (by kernel_rfl) ?_)
      exact bodyPost_ret (v := .tuple #[.agg zero11, .bool false]) (results_cell_tmp Tryd.results73 _ _ (w.heap.size + 1) 125 zero11 (0, 0) _ _ rfl rfl (Blk.setRow HZZ.out _) Tryd.underlying125 rfl HI.out) rfl ⟨by rw [HG.out]; rfl, Below.setRow HBB.out (Nat.le_succ _) _⟩
end Go.Proofs.YtlodoinmippebaaDoor.Rf
