/- Lists of instructions that a call owns; Units. (Texts of package code, over package mach's words.) -/
import Derived.Test.YtpigkppnelnhiaaGreatMcI
import Derived.Deep.DeepAppendWide
namespace Go.Proofs.YtpigkppnelnhiaaGreat
open Go.ChangeShapes Go.WideShapes Go.ChangeAt Go.RowKit
open Cod Bits
set_option linter.unusedVariables false

theorem flat_len (L : List Ins) : (L.flatMap Ins.cells).length = L.length * 8 := by
  induction L with
  | nil => rfl
  | cons i t ih => rw [List.flatMap_cons, List.length_append, ih, List.length_cons]; simp [Ins.cells]; omega
theorem ins_info : (Tryz.prog.info? 57).map (fun i => (i.zero, i.size, i.bytes)) = some (some (.agg (#[.int .i64 0, .bool false, .bool false, .int .i64 0, .int .i64 0, .int .i64 0, .int .i64 0, .int .i64 0])), 8, 56) := by kernel_rfl

theorem flat_get : ∀ (L : List Ins) (j : Nat) (i : Ins), L[j]? = some i → ∀ k, k < 8 → (L.flatMap Ins.cells)[j * 8 + k]? = i.cells[k]?
  | [], j, i, h, _, _ => by simp at h
  | a :: t, 0, i, h, k, hk => by
    have e : a = i := by simpa using h
    subst e
    rw [List.flatMap_cons, List.getElem?_append_left (by simp [Ins.cells]; omega)]
    simp
  | a :: t, j + 1, i, h, k, hk => by
    have h2 : t[j]? = some i := by simpa using h
    have hl : a.cells.length = 8 := rfl
    rw [List.flatMap_cons, List.getElem?_append_right (by omega), hl, show (j + 1) * 8 + k - 8 = j * 8 + k by omega]
    exact flat_get t j i h2 k hk
theorem codeAt_cells {w : World} {g : Nat} {L : List Ins} (hlt : g < w.heap.size) (h : ∀ m v, (L.flatMap Ins.cells)[m]? = some v → w.cell? ⟨g, m, none⟩ = some v) : CodeAt w (some ⟨g, 0, none⟩) L := fun _ =>
  ⟨g, 0, rfl, hlt, fun j i hi => by
    have k := flat_get L j i hi
    rw [Nat.zero_add]
    exact ⟨h _ _ (k 0 (by decide)), h _ _ (k 1 (by decide)), h _ _ (k 2 (by decide)), h _ _ (k 3 (by decide)), h _ _ (k 4 (by decide)), h _ _ (k 5 (by decide)), h _ _ (k 6 (by decide)), h _ _ (k 7 (by decide))⟩⟩
theorem OwnK.codeAt {w : World} {base : Nat} {v : Value} {L : List Ins} (h : OwnK w base v L) : ∃ A c, v = .slice A L.length c ∧ CodeAt w A L := by
  rcases h.2 with ⟨hv, hn⟩ | ⟨g, cap, cur, hv, hg, hh, hnc, hcm, hcs, hx⟩
  · exact ⟨none, 0, by rw [hv, hn], fun hp => by omega⟩
  · have hlt : g < w.heap.size := by
      rcases Nat.lt_or_ge g w.heap.size with h1 | h1
      · exact h1
      · rw [Array.getElem?_eq_none h1] at hh; cases hh
    refine ⟨_, cap, hv, codeAt_cells hlt fun m u hm => ?_⟩
    rw [cell_of_row w g m cur 57 (0, 0) hh]
    rw [← hx] at hm
    have h2 : (cur.toList.take (L.length * 8))[m]? = some u := hm
    rw [List.getElem?_take] at h2
    split at h2
    · simpa using h2
    · cases h2

theorem wpList_on {P : Program} {w : World} {ops : Array Oper} {rest : List Oper} {o : Oper} {a : Act} {Q : Exit → Act → World → Prop} (hw : Region.wanted o (yielded ops a.tmps) = true)
    (h : ∀ K : Act → World → Prop, (∀ a w, wpList P ops Q rest a w → K a w) → o.wp P a w K Q) : wpList P ops Q (o :: rest) a w :=
  wpList_step fun K hK => by rw [if_pos hw]; exact h K hK
theorem wpList_append_wide {P : Program} (w : World) {ops : Array Oper} {rest : List Oper} {o : Oper} {a : Act} {Q : Exit → Act → World → Prop} (hgd : Region.wanted o (yielded ops a.tmps) = true) (s x : Operand) (t : TypeId)
    (ho : o.op = .call { callee := .builtin .append, args := #[s, x], argTypes := #[t, t] })
    (base : Nat) (e : TypeId) (i : TypeInfo) (z : Value) (size bytes : Nat) (ht : P.underlying t = some (.slice e)) (hi : P.info? e = some i) (hz : i.zero = some z)
    (hsize : i.size = size) (hby : i.bytes = bytes) (hzs : z.cells.size = size) (hsz : 0 < size)
    (v : Value) (n : Nat) (xs : List Value) (hs : a.eval s = v) (hown : w.ownsRow base e size v n xs)
    (B : Nat) (A : Option Addr) (m c : Nat) (news : List Value) (hx : a.eval x = .slice A m c) (hr : Reads w B size A m news) (h1 : ∀ u ∈ news, u.oneCell' = true)
    (h63 : n + m ≤ maxLen) (hbytes : ((n + m) + (n + m) / 4 + 192) * bytes ≤ 281474976710656) (hbase : base ≤ w.heap.size)
    (h : ∀ v' w', w'.ownsRow base e size v' (n + m) (xs ++ news) → w.grownBy w' v.ownBlock → wpList P ops Q rest (a.put o.dst v') w') : wpList P ops Q (o :: rest) a w := by
  rcases A with _ | ad
  · have hm : m = 0 := by
      rcases Nat.eq_zero_or_pos m with h0 | h0
      · exact h0
      · obtain ⟨ad, h, _⟩ := hr.2 h0
        cases h
    subst hm
    have hn : news = [] := List.eq_nil_of_length_eq_zero (by simpa using hr.1)
    subst hn
    refine wpList_on hgd fun _ hK => ?_
    have hrun := run_append_of_nil (P := P) w base t o.type e i size ht hi v n xs hown c
    unfold Oper.wp execOp
    simp only [ho, resolve, invoke, builtin, Sem.run_bind, Sem.run_pure, Result.andThen_ok, List.map_toArray, List.map_cons, List.map_nil, hs, hx, hrun]
    exact hK _ _ (h v w (by simpa using hown) (World.grownBy.refl w _))
  · have hcells : ∀ j u, news[j]? = some u → w.cell? (ad.add j) = some u := by
      intro j u hu
      rcases Nat.eq_zero_or_pos m with h0 | h0
      · subst h0
        have hn : news = [] := List.eq_nil_of_length_eq_zero (by simpa using hr.1)
        subst hn
        simp at hu
      · obtain ⟨ad', h, _, hc⟩ := hr.2 h0
        injection h with h
        subst h
        exact hc j u hu
    exact wpList_on hgd fun _ hK => wp_append_own_wide w s x t ho base e i z size bytes ht hi hz hsize hby hzs hsz v n xs hs hown ad m c news hx hr.1 hcells h1 h63 hbytes hbase fun v' w' h2 h3 _ => hK _ _ (h v' w' h2 h3)
theorem CodeAt.reads {w : World} {A : Option Addr} {M : List Ins} (h : CodeAt w A M) : Reads w w.heap.size 8 A M.length (M.flatMap Ins.cells) := by
  refine ⟨flat_len M, fun hn => ?_⟩
  obtain ⟨b, off, rfl, hb, hc⟩ := h hn
  refine ⟨_, rfl, hb, fun j u hu => ?_⟩
  have hj : j < M.length * 8 := by
    rcases Nat.lt_or_ge j (M.length * 8) with h1 | h1
    · exact h1
    · rw [List.getElem?_eq_none (by rw [flat_len]; exact h1)] at hu; cases hu
  obtain ⟨i, hi⟩ : ∃ i, M[j / 8]? = some i := ⟨M[j / 8]'(by omega), List.getElem?_eq_getElem _⟩
  have hf := flat_get M (j / 8) i hi (j % 8) (by omega)
  rw [show j / 8 * 8 + j % 8 = j by omega, hu] at hf
  obtain ⟨x0, x1, x2, x3, x4, x5, x6, x7⟩ := hc (j / 8) i hi
  rw [Addr.add_lit, show off + j = off + j / 8 * 8 + j % 8 by omega]
  have hr : j % 8 = 0 ∨ j % 8 = 1 ∨ j % 8 = 2 ∨ j % 8 = 3 ∨ j % 8 = 4 ∨ j % 8 = 5 ∨ j % 8 = 6 ∨ j % 8 = 7 := by omega
  rcases hr with e | e | e | e | e | e | e | e <;> rw [e] at hf ⊢
  · rw [hf]; exact x0
  · rw [hf]; exact x1
  · rw [hf]; exact x2
  · rw [hf]; exact x3
  · rw [hf]; exact x4
  · rw [hf]; exact x5
  · rw [hf]; exact x6
  · rw [hf]; exact x7
theorem append_code {P : Program} (hu : P.underlying 24 = some (.slice 57)) (hinf : (P.info? 57).map (fun i => (i.zero, i.size, i.bytes)) = some (some (.agg #[.int .i64 0, .bool false, .bool false, .int .i64 0, .int .i64 0, .int .i64 0, .int .i64 0, .int .i64 0]), 8, 56)) (w : World) {ops : Array Oper} {rest : List Oper} {o : Oper} {a : Act} {Q : Exit → Act → World → Prop} (hgd : Region.wanted o (yielded ops a.tmps) = true) (s x : Operand)
    (ho : o.op = .call { callee := .builtin .append, args := #[s, x], argTypes := #[24, 24] })
    (base : Nat) (v : Value) (L : List Ins) (hs : a.eval s = v) (hown : OwnK w base v L)
    (A : Option Addr) (m c : Nat) (M : List Ins) (hx : a.eval x = .slice A m c) (hm : M.length = m) (hr : CodeAt w A M)
    (hlen : L.length + m ≤ 2600000000000) (hbase : base ≤ w.heap.size)
    (h : ∀ v' w', OwnK w' base v' (L ++ M) → Below base w w' → wpList P ops Q rest (a.put o.dst v') w') : wpList P ops Q (o :: rest) a w := by
  subst hm
  obtain ⟨i0, hi, hz0, hz1, hz2⟩ := info_parts hinf
  refine wpList_append_wide w hgd s x 24 ho base 57 i0 _ 8 56 hu hi hz0 hz1 hz2 rfl (by decide) v L.length _ hs hown w.heap.size A M.length c _ hx hr.reads
    (fun u hu => ?_) (by unfold maxLen; omega) (by omega) hbase ?_
  · simp only [List.mem_flatMap, Ins.cells, List.mem_cons, List.not_mem_nil, or_false] at hu
    obtain ⟨z, _, hz⟩ := hu
    rcases hz with rfl | rfl | rfl | rfl | rfl | rfl | rfl | rfl <;> rfl
  · intro v' w' h1 h2
    refine h v' w' ?_ ((Below.refl base w).grown h2 hbase fun k hk => (World.ownsRow.lt hown k hk).1)
    unfold OwnK
    rw [List.length_append, List.flatMap_append]
    exact h1

theorem ownK_empty (w : World) : OwnK (w.alloc (.cells #[] 57)) w.heap.size (.slice (some ⟨w.heap.size, 0, none⟩) 0 0) [] := World.ownsRow_lit w #[] 0 (Nat.le_refl _) (by decide) rfl



theorem long_any (op : Int) (w : World) : Calls Tryz.prog 71 #[.int .i64 op] w fun e w' => e = .returned (.bool (op == 20 || op == 21)) ∧ w = w' := by
  by_cases h1 : op = 20
  · subst h1
    go_enter Tryz.func71, Tryz.ntmps71
    go_wp2_with fail
    go_ret
    exact ⟨rfl, rfl⟩
  · have t1 : (op == 20) = false := by rw [beq_eq_false_iff_ne]; exact h1
    have HE := Lib.hid (show (op == 20 || op == 21) = (op == 21) by rw [t1]; rfl)
    rw [HE.out]
    clear h1
    go_enter Tryz.func71, Tryz.ntmps71
    go_wp2_with fail
    go_ret
    exact ⟨rfl, rfl⟩


def isLong (i : Ins) : Bool := i.op == 20 || i.op == 21

/-- the unit where instruction j begins -/
def uAt (L : List Ins) (j : Nat) : Int := (j : Int) + ((L.take j).filter isLong).length
def unitsL (L : List Ins) : List Int := (List.range (L.length + 1)).map (uAt L)
/-- the units, as far as place j -/
def uRow (L : List Ins) (n j : Nat) : List Int := (List.range (n + 1)).map fun k => if k ≤ j then uAt L k else 0
theorem uRow_length (L : List Ins) (n j : Nat) : (uRow L n j).length = n + 1 := by simp [uRow]
theorem uRow_start (L : List Ins) (n : Nat) : uRow L n 0 = zerosL (n + 1) := by
  refine List.ext_getElem (by simp [uRow, zerosL]) fun i h1 h2 => ?_
  simp only [uRow, zerosL, List.getElem_map, List.getElem_range, List.getElem_replicate]
  by_cases h : i ≤ 0
  · obtain rfl : i = 0 := by omega
    simp [uAt]
  · rw [if_neg h]
theorem uRow_step (L : List Ins) (n j : Nat) (h : j < n) : (uRow L n j).set (j + 1) (uAt L (j + 1)) = uRow L n (j + 1) := by
  refine List.ext_getElem (by simp [uRow]) fun i h1 h2 => ?_
  rw [List.getElem_set]
  simp only [uRow, List.getElem_map, List.getElem_range]
  by_cases e : j + 1 = i
  · subst e; simp
  · by_cases h3 : i ≤ j
    · simp [e, h3, show i ≤ j + 1 by omega]
    · simp [e, h3, show ¬ i ≤ j + 1 by omega]
theorem uRow_at (L : List Ins) (n j : Nat) (h : j ≤ n) : (uRow L n j)[j]?.getD 0 = uAt L j := by
  rw [List.getElem?_eq_getElem (by rw [uRow_length]; omega)]
  simp [uRow]
theorem uRow_end (L : List Ins) (n : Nat) (hL : L.length = n) : uRow L n n = unitsL L := by
  subst hL
  refine List.ext_getElem (by simp [uRow, unitsL]) fun i h1 h2 => ?_
  have : i < L.length + 1 := by rw [uRow_length] at h1; exact h1
  simp only [uRow, unitsL, List.getElem_map, List.getElem_range]
  rw [if_pos (by omega)]
theorem uAt_succ (L : List Ins) (j : Nat) (i : Ins) (h : L[j]? = some i) : uAt L (j + 1) = uAt L j + 1 + (if isLong i = true then 1 else 0) := by
  unfold uAt
  rw [List.take_add_one, h]
  simp only [Option.toList_some, List.filter_append, List.length_append, List.filter_cons, List.filter_nil]
  split <;> simp <;> omega
theorem uAt_rng (L : List Ins) (j : Nat) : 0 ≤ uAt L j ∧ uAt L j ≤ 2 * j := by
  unfold uAt
  have h1 := List.length_filter_le isLong (L.take j)
  have h2 := List.length_take_le j L
  omega

set_option maxHeartbeats 4000000 in
theorem units_any (w : World) (A : Option Addr) (n c : Nat) (L : List Ins) (hL : L.length = n) (hn : n ≤ 8796093022207) (h : CodeAt w A L) :
    Calls Tryz.prog 47 #[.slice A n c] w fun e w' => e = .returned (.slice (some ⟨w.heap.size, 0, none⟩) (n + 1) (n + 1)) ∧ IntBlk w' w.heap.size (unitsL L) ∧ Below w.heap.size w w' := by
  have hmk : ∀ w, (Instr.makeSlice 37 (.int .i64 ((n : Int) + 1)) (.int .i64 ((n : Int) + 1))).run Tryz.prog w = .ok (.slice (some ⟨w.heap.size, 0, none⟩) (n + 1) (n + 1)) (w.alloc (.cells ((zerosL (n + 1)).map (Value.int .i64)).toArray 3)) := fun w => by
    have := make_ints (n + 1) (by omega) w
    simpa using this
  have HA := Lib.hid h
  have HL := Lib.hid hL
  clear h hL
  go_enter Tryz.func47, Tryz.ntmps47
  go_wp2_with fail
  clear hmk
  go_loopw [4, 5, 12] (fun _ _ i wr => ∃ j : Nat, j ≤ n ∧ i = .int .i64 j ∧ IntBlk wr w.heap.size (uRow L n j) ∧ Below w.heap.size w wr) (fun _ _ i _ => (n - intOf i).toNat)
  case atStart => exact ⟨0, Nat.zero_le _, rfl, by rw [uRow_start]; exact IntBlk.new w _, (Below.refl _ _).alloc (Nat.le_refl _) _⟩
  case round =>
    obtain ⟨j, hj, rfl, hblk, hB⟩ := hrel
    by_cases hlt : j < n
    · have hlt' : (j : Int) < n := by omega
      obtain ⟨b, off, rfl, hbl, hc⟩ := HA.out (by have := HL.out; omega)
      obtain ⟨i, hi⟩ : ∃ i, L[j]? = some i := ⟨L[j]'(by have := HL.out; omega), List.getElem?_eq_getElem _⟩
      have hx := (hc j i hi).below hB hbl
      have hus := uAt_succ L j i hi
      have hur := uAt_rng L j
      have hstep := uRow_step L n j hlt
      obtain ⟨x0, x1, x2, x3, x4, x5, x6, x7⟩ := hx
      have HLO := Lib.hid (show isLong i = (i.op == 20 || i.op == 21) from rfl)
      have hgl := hblk.lt
      have hv1 := uRow_at L n j hj
      obtain ⟨old, hold⟩ : ∃ x, (uRow L n j)[j + 1]?.getD 0 = x := ⟨_, rfl⟩
      have c1 := hblk.cell j (by rw [uRow_length]; omega)
      have c2 := hblk.cell (j + 1) (by rw [uRow_length]; omega)
      rw [hv1] at c1
      rw [hold] at c2
      have f2 := hblk.frozen (j + 1)
      have HUS := Lib.hid hus
      have HSTEP := Lib.hid hstep
      have HSET := Lib.hid (fun u => hblk.set_ (j + 1) u)
      have HBB := Lib.hid hB
      have HLG := Lib.hid (fun w => long_any i.op w)
      have hjn : (j : Int) + 1 < n + 1 := by omega
      have hj0 : (0 : Int) ≤ (j : Int) + 1 := by omega
      have hjt : ((j : Int) + 1).toNat = j + 1 := by omega
      have hbx : Blk (wr.alloc (.cells i.cells.toArray 57)) wr.heap.size 57 i.cells.toArray := Blk.new _ _ _
      clear hc hi hus hstep hv1 hold hblk hB hbx
      generalize isLong i = lo at *
      obtain ⟨op, nar, reg, size, dst, src, io, imm⟩ := i
      simp only at x0 x1 x2 x3 x4 x5 x6 x7
      have hlo : lo = (op == 20 || op == 21) := HLO.out
      rw [← hlo] at HLG
      clear hlo
      generalize hua : uAt L j = ua at *
      have HUA := Lib.hid hua
      clear hua
      obtain ⟨hur1, hur2⟩ := hur
      cases lo
      · go_wp2_with fail
        refine (HLG.out _).mono ?_
        rintro e w' ⟨rfl, rfl⟩
        go_wp2_with fail
        go_roundw
        case rel =>
          refine ⟨j + 1, by omega, by go_num, ?_, ?_⟩
          · have h1 := HSET.out (ua + 1)
            have h2 : uAt L (j + 1) = ua + 1 := by rw [HUS.out]; simp
            rw [← h2, HSTEP.out] at h1
            rw [← h2]
            exact h1.below (below_box _ _) h1.lt
          · exact (HBB.out.setCell (p := ⟨w.heap.size, j + 1, none⟩) (Nat.le_refl _) _).alloc (by have := HBB.out.size; simp [World.setCell]; omega) _
        case measure => simp [intOf]; omega
      · go_wp2_with fail
        refine (HLG.out _).mono ?_
        rintro e w' ⟨rfl, rfl⟩
        go_wp2_with fail
        go_roundw
        case rel =>
          refine ⟨j + 1, by omega, by go_num, ?_, ?_⟩
          · have h1 := HSET.out (ua + 1)
            have h1 := h1.set_ (j + 1) (ua + 1 + 1)
            rw [List.set_set] at h1
            have h2 : uAt L (j + 1) = ua + 1 + 1 := by rw [HUS.out]; simp
            rw [← h2, HSTEP.out] at h1
            first
              | exact h1.below (below_box _ _) h1.lt
              | (rw [← h2]; exact h1.below (below_box _ _) h1.lt)
          · first
              | exact (HBB.out.setCell (p := ⟨w.heap.size, j + 1, none⟩) (Nat.le_refl _) _).alloc (by have := HBB.out.size; simp [World.setCell]; omega) _
              | exact ((HBB.out.setCell (p := ⟨w.heap.size, j + 1, none⟩) (Nat.le_refl _) _).setCell (p := ⟨w.heap.size, j + 1, none⟩) (Nat.le_refl _) _).alloc (by have := HBB.out.size; simp [World.setCell]; omega) _
        case measure => simp [intOf]; omega
    · have hlt' : decide (j < n) = false := by simp; omega
      obtain rfl : j = n := by omega
      rw [uRow_end L j HL.out] at hblk
      have HI := Lib.hid hblk
      clear hblk
      go_wp2_with fail
      go_ret
      exact ⟨rfl, HI.out, hB⟩

end Go.Proofs.YtpigkppnelnhiaaGreat
