/- Texts in one: RfO RfP. -/
import Derived.Test.YtlodoinmippebaaDoorRfB
import Derived.Test.YtlodoinmippebaaDoorRfC
import Derived.Deep.CutBlock
import Derived.Deep.QuietTactic
import Derived.Test.YtlodoinmippebaaDoorCodeD4
/- one of the document's answer for package code: what stands at the beginning of bytes. -/
namespace Go.Proofs.YtlodoinmippebaaDoor.Rf
open Go.ChangeShapes Go.WideShapes Go.ChangeAt Go.RowKit
open Cod Bits
set_option linter.unusedVariables false
set_option linter.unusedSimpArgs false

theorem results_cell_tmp2 {P : Program} {fn : Func} {p q s : Tmp} {ty : TypeId} (h : fn.results = #[.cell p ty, .tmp q, .tmp s]) (tmps : Array Value) (w : World) (g : Nat) (t : TypeId) (cs : Array Value) (fr : Nat × Nat) (d : TypeDesc) (v v2 : Value)
    (hp : tmps.getD p undef = .pointer (some ⟨g, 0, none⟩)) (hq : tmps.getD q undef = v) (hs : tmps.getD s undef = v2) (hg : w.heap[g]? = some (.cells cs t fr))
    (hu : P.underlying ty = some d) (hd : (match d with | .struct _ | .array _ _ => true | _ => false) = true) (hi : (P.info? ty).map (·.size) = some cs.size) :
    (results fn tmps).run P w = .ok (.tuple #[.agg cs, v, v2]) w := by
  have hp' : tmps[p]?.getD undef = .pointer (some ⟨g, 0, none⟩) := by simpa using hp
  have hq' : tmps[q]?.getD undef = v := by simpa using hq
  have hs' : tmps[s]?.getD undef = v2 := by simpa using hs
  simp [results, h, hp', hq', hs', asAddr, run_loadVar_row w g t ty cs fr d hg hu hd hi]
theorem sec_code : (rowsL.all fun r => ((r.op == 20 || r.op == 21) == (r.code == 24))) = true := by kernel_rfl
theorem sec_24 {c : Int} {r : RRow} (h : r ∈ rowsC c) (ho : r.op = 20 ∨ r.op = 21) : c = 24 := by
  have h1 := List.all_eq_true.1 sec_code r (rowsC_sub h)
  have h2 : (r.code == c) = true := (List.mem_filter.1 h).2
  have h3 : (r.op == 20 || r.op == 21) = true := by rcases ho with e | e <;> rw [e] <;> rfl
  rw [h3] at h1
  have h4 : r.code = 24 := by simpa using h1
  rw [← (by simpa using h2 : r.code = c)]; exact h4
theorem filter_next {T : List RRow} {j : Nat} {r : RRow} (hr : T[j]? = some r) (p : RRow → Bool) : (T.take (j + 1)).filter p = (T.take j).filter p ++ (if p r = true then [r] else []) := by
  rw [List.take_add_one, hr, List.filter_append]
  cases h : p r <;> simp [h]
theorem filter_len {T : List RRow} (j : Nat) (p : RRow → Bool) (h : T.length ≤ 139) : ((T.take j).filter p).length ≤ 139 := by
  have h1 := List.length_filter_le p (T.take j)
  have h2 := List.length_take_le j T
  have h3 : (T.take j).length ≤ T.length := by rw [List.length_take]; omega
  omega
/-- the bytes, in every later world -/
structure BytesIn (w : World) (b off n c : Nat) (L : List Int) : Prop where
  len : L.length = n
  le : n ≤ c
  lt : b < w.heap.size
  cell : ∀ k, k < n → w.cell? ⟨b, off + k, none⟩ = some (.int .u8 (gB L k))
  byte : ∀ k, IsB (gB L k)
theorem BytesIn.at_ {w W : World} {b off n c : Nat} {L : List Int} (h : BytesIn w b off n c L) (hb : Below w.heap.size w W) (k : Nat) (hk : k < n) : W.cell? ⟨b, off + k, none⟩ = some (.int .u8 (gB L k)) := (hb.cell (p := ⟨b, off + k, none⟩) h.lt).trans (h.cell k hk)
/-- inside one: the result's box -/
def OneAt (w W : World) : Prop := Blk W w.heap.size 71 zero8 ∧ Below w.heap.size w W
theorem OneAt.up {w W W' : World} (h : OneAt w W) (hb : Below W.heap.size W W') : OneAt w W' := ⟨h.1.below hb h.1.lt, h.2.trans (hb.mono h.2.size)⟩
/-- what the fields of the first unit are -/
theorem oneR_says (L : List Int) (hn : 8 ≤ L.length) : oneR L = if rowsC (gB L 0) = [] then (21, zeroI, 0) else if (L.length : Int) < 8 * (if gB L 0 = 24 then 2 else 1) then (20, zeroI, 0) else
    ((pickR (rowsC (gB L 0)) (unitA L) (if gB L 0 = 24 then (unitA (L.drop 8)).imm else 0) (decide (gB L 0 = 24) && badU (unitA (L.drop 8)))).1, (pickR (rowsC (gB L 0)) (unitA L) (if gB L 0 = 24 then (unitA (L.drop 8)).imm else 0) (decide (gB L 0 = 24) && badU (unitA (L.drop 8)))).2, if gB L 0 = 24 then 2 else 1) := by
  unfold oneR
  rw [if_neg (by omega)]
  by_cases h1 : rowsC (gB L 0) = []
  · rw [if_pos h1, if_pos h1]
  rw [if_neg h1, if_neg h1]
  by_cases h2 : gB L 0 = 24
  · have e1 : (if gB L 0 = 24 then (2 : Int) else 1) = 2 := if_pos h2
    have e2 : (if gB L 0 = 24 then (unitA (L.drop 8)).imm else 0) = (unitA (L.drop 8)).imm := if_pos h2
    have e3 : decide (gB L 0 = 24) = true := decide_eq_true h2
    have e4 : (if gB L 0 = 24 then (2 : Nat) else 1) = 2 := if_pos h2
    rw [e1, e2, e3, e4, if_pos h2, Bool.true_and]
    by_cases h3 : L.length < 16
    · rw [if_pos h3, if_pos (by omega)]
    · rw [if_neg h3, if_neg (by omega)]
  · have e1 : (if gB L 0 = 24 then (2 : Int) else 1) = 1 := if_neg h2
    have e2 : (if gB L 0 = 24 then (unitA (L.drop 8)).imm else 0) = 0 := if_neg h2
    have e3 : decide (gB L 0 = 24) = false := decide_eq_false h2
    have e4 : (if gB L 0 = 24 then (2 : Nat) else 1) = 1 := if_neg h2
    rw [e1, e2, e3, e4, if_neg h2, Bool.false_and, if_neg (by omega)]
theorem pickR_cons (a : RRow) (t : List RRow) (u : U) (sec : Int) (bad : Bool) : pickR (a :: t) u sec bad = if regsR a u.dst u.src u.imm = false then ((22, zeroI) : Int × Ins) else
    if ((a :: t).filter fun r => fitR r u.dst u.src u.off) = [] ∨ bad = true then (23, zeroI) else
    match ((a :: t).filter fun r => fitR r u.dst u.src u.off).find? (fun r => readR r u.imm sec) with
    | none => (24, zeroI)
    | some r => (0, insR r u.dst u.src u.off u.imm sec) := rfl
theorem badU_bytes {L : List Int} (h : ∀ k, IsB (gB L k)) : badU (unitA (L.drop 8)) = (gB L 8 != 0 || gB L 9 != 0 || gB L 10 != 0 || gB L 11 != 0) := by
  have e : ∀ k, gB (L.drop 8) k = gB L (8 + k) := fun k => by unfold gB; simp [List.getD_eq_getElem?_getD, List.getElem?_drop]
  unfold badU unitA
  simp only [e]
  obtain ⟨a1, a2⟩ := h 8
  obtain ⟨b1, b2⟩ := h 9
  obtain ⟨c1, c2⟩ := h 10
  obtain ⟨d1, d2⟩ := h 11
  show (!decide (gB L 8 = 0 ∧ gB L 9 % 16 = 0 ∧ gB L 9 / 16 = 0 ∧ off16 (gB L 10) (gB L 11) = 0)) = _
  have ho : off16 (gB L 10) (gB L 11) = 0 ↔ gB L 10 = 0 ∧ gB L 11 = 0 := by
    unfold off16; split <;> omega
  rw [Bool.eq_iff_iff]
  simp only [ho, Bool.not_eq_true', decide_eq_false_iff_not, Bool.or_eq_true, bne_iff_ne, ne_eq]
  omega
theorem off16_in {a b : Int} (ha : IsB a) (hb : IsB b) : -32768 ≤ off16 a b ∧ off16 a b ≤ 32767 := by
  obtain ⟨h1, h2⟩ := ha; obtain ⟨h3, h4⟩ := hb
  unfold off16; split <;> omega
theorem imm32_in {a b c d : Int} (ha : IsB a) (hb : IsB b) (hc : IsB c) (hd : IsB d) : -2147483648 ≤ imm32 a b c d ∧ imm32 a b c d ≤ 2147483647 := by
  obtain ⟨h1, h2⟩ := ha; obtain ⟨h3, h4⟩ := hb; obtain ⟨h5, h6⟩ := hc; obtain ⟨h7, h8⟩ := hd
  unfold imm32; split <;> omega
/-- what one answers -/
def oneRes (L : List Int) : Value := .tuple #[.agg (oneR L).2.1.arr, .int .i64 (if (oneR L).1 = 0 then ((oneR L).2.2 : Nat) else (0 : Nat)), .int .i64 (oneR L).1]
set_option maxRecDepth 100000 in
set_option maxHeartbeats 4000000 in
theorem rone_short (w : World) (Ar : Option Addr) (cr : Nat) (A : Option Addr) (n c : Nat) (L : List Int) (hL : L.length = n) (hn : n < 8) :
    Calls Tryd.prog 70 #[.slice Ar 139 cr, .slice A n c] w fun e w' => e = .returned (oneRes L) ∧ Below w.heap.size w w' := by
  have HQ := Lib.hid (show oneRes L = .tuple #[.agg zero8, .int .i64 0, .int .i64 20] by unfold oneRes oneR; rw [if_pos (by omega)]; rfl)
  have t8 : decide ((n : Int) < 8) = true := decide_eq_true (by omega)
  clear hL
  go_enter Tryd.func70, Tryd.ntmps70
  go_wp2_with fail
  exact bodyPost_ret (v := .tuple #[.agg zero8, .int .i64 0, .int .i64 20]) (results_cell_tmp2 Tryd.results70 _ _ w.heap.size 71 zero8 (0, 0) _ _ _ rfl rfl rfl (Blk.new w _ _) Tryd.underlying71 rfl (by kernel_rfl)) rfl ⟨by rw [HQ.out], below_box w _⟩
set_option maxRecDepth 100000 in
set_option maxHeartbeats 16000000 in
theorem rone_long (w : World) (Ar : Option Addr) (cr : Nat) (hR : RowsAt w Ar rowsL) (b off n c : Nat) (L : List Int) (hY : BytesIn w b off n c L) (hn : 8 ≤ n) (hn2 : n ≤ 281474976710656) :
    Calls Tryd.prog 70 #[.slice Ar 139 cr, .slice (some ⟨b, off, none⟩) n c] w fun e w' => e = .returned (oneRes L) ∧ Below w.heap.size w w' := by
  obtain ⟨rb, ro, rfl, hrb, hrc⟩ := hR (by rw [rowsL_len]; decide)
  have HC := Lib.hid hrc
  have HY := Lib.hid hY
  have t8 : decide ((n : Int) < 8) = false := decide_eq_false (by omega)
  have hn0 : (0 : Int) < (n : Int) := by omega
  obtain ⟨cc, hcc⟩ : ∃ cc, gB L 0 = cc := ⟨_, rfl⟩
  have HCC := Lib.hid hcc
  obtain ⟨hc0, hc1⟩ : 0 ≤ cc ∧ cc < 256 := by rw [← hcc]; exact hY.byte 0
  clear hR hrc hY hcc
  go_enter Tryd.func70, Tryd.ntmps70
  go_upto_block 0 with (fail)
  have HW0 := Lib.hid (show OneAt w (w.alloc (.cells zero8 71)) from ⟨Blk.new w _ _, below_box w _⟩)
  generalize w.alloc (.cells zero8 71) = W0 at *
  clear t8
  go_cut [7] (fun s7 wx => OwnR wx W0.heap.size s7 (rowsC cc) ∧ Below W0.heap.size W0 wx)
  case first =>
    go_wp2_with fail
    go_loopw [7, 8] (fun v i wr => ∃ j : Nat, j ≤ 139 ∧ i = .int .i64 j ∧ OwnR wr W0.heap.size v ((rowsL.take j).filter fun r => r.code == cc) ∧ Below W0.heap.size W0 wr) (fun _ i _ => (139 - intOf i).toNat)
    case atStart => exact ⟨0, Nat.zero_le _, rfl, OwnR.nil _ _, Below.refl _ _⟩
    case round =>
      obtain ⟨j, hj, rfl, hown, hB⟩ := hrel
      by_cases hlt : j < 139
      · have hlt' : (j : Int) < 139 := by omega
        obtain ⟨r, hr⟩ : ∃ r, rowsL[j]? = some r := ⟨rowsL[j]'(by rw [rowsL_len]; omega), List.getElem?_eq_getElem _⟩
        have hbw := HW0.out.2.trans (hB.mono HW0.out.2.size)
        obtain ⟨y0, -⟩ := (HC.out j r hr).below hbw hrb
        have hb0 := HY.out.at_ hbw 0 (by omega)
        rw [Nat.add_zero, HCC.out] at hb0
        have HO := Lib.hid hown
        have HB := Lib.hid hB
        have HF := Lib.hid (filter_next hr fun r => r.code == cc)
        have HLN := Lib.hid (filter_len (T := rowsL) j (fun r => r.code == cc) (by rw [rowsL_len]; decide))
        have HRJ := Lib.hid hr
        generalize (rowsL.take j).filter (fun r => r.code == cc) = T at *
        obtain ⟨A1, k1, rfl⟩ := hown.form
        clear hown hB hr hbw
        obtain ⟨rc, ro_, rz, rn, rr, rd, rs, rf, ri, r2, rw_⟩ := r
        simp only at y0 HF HRJ
        go_upto_region 7 with (fail)
        go_cut [39] (fun s39 wx => s39 = .bool (rc == cc) ∧ OwnR wx W0.heap.size (.slice A1 T.length k1) T ∧ Below W0.heap.size W0 wx)
        case first =>
          go_quiet (fail)
          go_wp2_with fail
          go_meet
          case rel => exact ⟨rfl, HO.out, belowDrewN HB.out _⟩
        case rest =>
          clear HO HB y0 hb0
          obtain ⟨rfl, hO2, hB2⟩ := hcut
          have HO := Lib.hid hO2
          have HB := Lib.hid hB2
          clear hO2 hB2
          cases hp : (rc == cc)
          · rw [hp] at HF
            go_wp2_with fail
            go_roundw
            case rel => exact ⟨j + 1, by omega, by go_num, by rw [HF.out]; simpa using HO.out, HB.out⟩
            case measure => simp [intOf]; omega
          · rw [hp] at HF
            obtain ⟨y0, y1, y2, y3, y4, y5, y6, y7, y8, y9, y10⟩ := (HC.out j _ HRJ.out).below (HW0.out.2.trans (HB.out.mono HW0.out.2.size)) hrb
            simp only at y0 y1 y2 y3 y4 y5 y6 y7 y8 y9 y10
            have hlen : T.length ≤ 4096 := Nat.le_trans HLN.out (by decide)
            have hbase : W0.heap.size ≤ wc.heap.size := HB.out.size
            go_wp2_with (at_builtin; (refine append_row Tryd.underlying118 row_info _ wc rfl (.tmp 40) (.tmp 45) rfl W0.heap.size _ _ rfl HO.out ⟨rc, ro_, rz, rn, rr, rd, rs, rf, ri, r2, rw_⟩ rfl _ rfl rfl hlen hbase ?_; intro v' w' hown' hB' _))
            have hb2 := HB.out.trans hB'
            clear HO HB hB' y0 y1 y2 y3 y4 y5 y6 y7 y8 y9 y10
            go_roundw
            case rel => exact ⟨j + 1, by omega, by go_num, by rw [HF.out]; exact hown', hb2⟩
            case measure => simp [intOf]; omega
      · obtain rfl : j = 139 := by omega
        have htk : rowsL.take 139 = rowsL := List.take_of_length_le (by rw [rowsL_len]; exact Nat.le_refl _)
        rw [htk] at hown
        go_wp2_with fail
        go_meet
        case rel => exact ⟨hown, hB⟩
  case rest =>
    obtain ⟨hO1, hB1⟩ := hcut
    generalize wc = W1 at *
    obtain ⟨A1, k1, rfl, hra1⟩ := hO1.rowsAt
    have HX1 := Lib.hid (HW0.out.up hB1)
    have HRA := Lib.hid hra1
    clear HW0 hO1 hra1 hB1
    have HQ := Lib.hid (oneR_says L (by rw [HY.out.len]; exact hn))
    rw [HY.out.len, HCC.out] at HQ
    have HSB := Lib.hid (fun r (h : r ∈ rowsC cc) => @sec_24 cc r h)
    have hlr : (rowsC cc).length ≤ 139 := by have := filter_len (T := rowsL) 139 (fun r => r.code == cc) (by rw [rowsL_len]; decide); rwa [List.take_of_length_le (by rw [rowsL_len]; exact Nat.le_refl _)] at this
    generalize rowsC cc = R at *
    obtain ⟨m1, hm1⟩ : ∃ m, R.length = m := ⟨_, rfl⟩
    rw [hm1] at hlr ⊢
    have HM1 := Lib.hid hm1
    clear hm1
    by_cases hnil : R = []
    · have hq := HQ.out
      rw [if_pos hnil] at hq
      have HQ2 := Lib.hid (show oneRes L = .tuple #[.agg zero8, .int .i64 0, .int .i64 21] by unfold oneRes; rw [hq]; rfl)
      obtain rfl : m1 = 0 := by rw [← HM1.out, hnil]; rfl
      clear hq hnil HQ
      obtain ⟨⟨q0, q1, q2, q3, q4, q5, q6, q7⟩, g0, g1, g2, g3, g4, g5, g6, g7⟩ := cells8 HX1.out.1
      have HS8 := Lib.hid (fun a b c d e f k l => set8 HX1.out.1 a b c d e f k l)
      have HW8 := Lib.hid (below8 (g := w.heap.size) HX1.out.2 (Nat.le_refl _))
      go_wp2_with fail
      exact bodyPost_ret (v := .tuple #[.agg zero8, .int .i64 0, .int .i64 21]) (results_cell_tmp2 Tryd.results70 _ _ w.heap.size 71 zero8 (0, 0) _ _ _ rfl rfl rfl (HS8.out _ _ _ _ _ _ _ _) Tryd.underlying71 rfl (by kernel_rfl)) rfl ⟨by rw [HQ2.out], HW8.out _ _ _ _ _ _ _ _⟩
    have hq := HQ.out
    rw [if_neg hnil] at hq
    have hm0 : 0 < m1 := by rw [← HM1.out]; exact List.length_pos_iff.2 hnil
    have tm : ((m1 : Int) == 0) = false := by rw [beq_eq_false_iff_ne]; omega
    have hb0 := HY.out.at_ HX1.out.2 0 (by omega)
    rw [Nat.add_zero, HCC.out] at hb0
    obtain ⟨un, hun⟩ : ∃ un : Int, (if cc = 24 then 2 else 1) = un := ⟨_, rfl⟩
    obtain ⟨hu1, hu2⟩ : 1 ≤ un ∧ un ≤ 2 := by rw [← hun]; split <;> omega
    have HUN := Lib.hid hun
    rw [hun] at hq
    have HQ := Lib.hid hq
    clear hq hun
    go_upto_if 54 with (fail)
    go_cut [9] (fun s9 wx => s9 = .int .i64 un ∧ wx = W1)
    case first =>
      by_cases h24 : cc = 24
      · have hun := HUN.out
        rw [if_pos h24] at hun
        have HU := Lib.hid hun
        have t : (cc == 24) = true := by rw [h24]; rfl
        clear h24 hun
        go_wp2_with fail
        go_meet
        case rel => exact ⟨by rw [← HU.out], rfl⟩
      · have hun := HUN.out
        rw [if_neg h24] at hun
        have HU := Lib.hid hun
        have t : (cc == 24) = false := by rw [beq_eq_false_iff_ne]; exact h24
        clear h24 hun
        go_wp2_with fail
        go_meet
        case rel => exact ⟨by rw [← HU.out], rfl⟩
    case rest =>
      obtain ⟨rfl, rfl⟩ := hcut
      clear tm hb0
      by_cases hsh : (n : Int) < 8 * un
      · have hq := HQ.out
        rw [if_pos hsh] at hq
        have HQ2 := Lib.hid (show oneRes L = .tuple #[.agg zero8, .int .i64 0, .int .i64 20] by unfold oneRes; rw [hq]; rfl)
        have t : decide ((n : Int) < 8 * un) = true := decide_eq_true hsh
        clear hq HQ
        obtain ⟨⟨q0, q1, q2, q3, q4, q5, q6, q7⟩, g0, g1, g2, g3, g4, g5, g6, g7⟩ := cells8 HX1.out.1
        have HS8 := Lib.hid (fun a b c d e f k l => set8 HX1.out.1 a b c d e f k l)
        have HW8 := Lib.hid (below8 (g := w.heap.size) HX1.out.2 (Nat.le_refl _))
        go_wp2_with fail
        exact bodyPost_ret (v := .tuple #[.agg zero8, .int .i64 0, .int .i64 20]) (results_cell_tmp2 Tryd.results70 _ _ w.heap.size 71 zero8 (0, 0) _ _ _ rfl rfl rfl (HS8.out _ _ _ _ _ _ _ _) Tryd.underlying71 rfl (by kernel_rfl)) rfl ⟨by rw [HQ2.out], HW8.out _ _ _ _ _ _ _ _⟩
      have hq := HQ.out
      rw [if_neg hsh] at hq
      have HQ := Lib.hid hq
      have t : decide ((n : Int) < 8 * un) = false := decide_eq_false hsh
      clear hq
      have hb1 := HY.out.at_ HX1.out.2 1 (by omega)
      obtain ⟨h10, h11⟩ := HY.out.byte 1
      have HS2 := Lib.hid (fun k => signed_2 wc b (off + 2) k (gB L 2) (gB L 3) (HY.out.byte 2) (HY.out.byte 3) (HY.out.at_ HX1.out.2 2 (by omega)) (HY.out.at_ HX1.out.2 3 (by omega)))
      have HS4 := Lib.hid (fun k => signed_4 wc b (off + 4) k (gB L 4) (gB L 5) (gB L 6) (gB L 7) (HY.out.byte 4) (HY.out.byte 5) (HY.out.byte 6) (HY.out.byte 7) (HY.out.at_ HX1.out.2 4 (by omega)) (HY.out.at_ HX1.out.2 5 (by omega)) (HY.out.at_ HX1.out.2 6 (by omega)) (HY.out.at_ HX1.out.2 7 (by omega)))
      have HUA := Lib.hid (show unitA L = ⟨cc, gB L 1 % 16, gB L 1 / 16, off16 (gB L 2) (gB L 3), imm32 (gB L 4) (gB L 5) (gB L 6) (gB L 7)⟩ by rw [← HCC.out]; rfl)
      have hpo := off16_in (HY.out.byte 2) (HY.out.byte 3)
      have hpi := imm32_in (HY.out.byte 4) (HY.out.byte 5) (HY.out.byte 6) (HY.out.byte 7)
      have hc4 : 4 ≤ c := by have := HY.out.le; omega
      have hc8 : 8 ≤ c := by have := HY.out.le; omega
      have hc2 : 2 ≤ c := by omega
      have hcl := HY.out.le
      generalize off16 (gB L 2) (gB L 3) = po at *
      generalize imm32 (gB L 4) (gB L 5) (gB L 6) (gB L 7) = pi at *
      generalize gB L 1 = z1 at *
      go_wp2_with fail
      go_at_call 100
      refine (HS2.out _).mono ?_
      rintro e w2 ⟨rfl, rfl⟩
      go_wp2_with fail
      go_at_call 100
      refine (HS4.out _).mono ?_
      rintro e w2 ⟨rfl, rfl⟩
      clear HS2 HS4 hb1 hc2 hc4 hc8
      have hlr2 := hlr
      obtain ⟨a, tl, hR⟩ : ∃ a tl, R = a :: tl := by
        cases R with
        | nil => exact absurd rfl hnil
        | cons a tl => exact ⟨a, tl, rfl⟩
      obtain ⟨lb, lo, rfl, hlb, hlc⟩ := HRA.out (by rw [HM1.out]; exact hm0)
      have hra := hlc 0 a (by rw [hR]; rfl)
      rw [Nat.zero_mul, Nat.add_zero] at hra
      have hq := HQ.out
      rw [HUA.out, show pickR R = pickR (a :: tl) from congrArg pickR hR] at hq
      simp only [pickR_cons] at hq
      rw [← hR] at hq
      have HQ := Lib.hid hq
      have HLC := Lib.hid hlc
      obtain ⟨ac, ao, az, an, ar, ad, as_, af, ai, a2, aw⟩ := a
      obtain ⟨y0, y1, y2, y3, y4, y5, y6, y7, y8, y9, y10⟩ := hra
      simp only at y0 y1 y2 y3 y4 y5 y6 y7 y8 y9 y10
      have HRG := Lib.hid (rregs_any ac ao az an ar ad as_ af ai a2 aw (z1 % 16) (z1 / 16) pi wc)
      clear hq hlc hR hnil HUA
      generalize regsR ⟨ac, ao, az, an, ar, ad, as_, af, ai, a2, aw⟩ (z1 % 16) (z1 / 16) pi = rg at *
      have hm0i : (0 : Int) < (m1 : Int) := by omega
      go_wp2_with fail
      go_at_call 101
      refine HRG.out.mono ?_
      rintro e w3 ⟨rfl, hB3⟩
      have HX3 := Lib.hid (HX1.out.up hB3)
      have HLC3 := Lib.hid (show lb < w3.heap.size ∧ ∀ j r, R[j]? = some r → RowIs w3 lb (lo + j * 11) r from ⟨Nat.lt_of_lt_of_le hlb hB3.size, fun j r hr => (HLC.out j r hr).below hB3 hlb⟩)
      clear hB3 HX1 HLC HRA HRG hlb y0 y1 y2 y3 y4 y5 y6 y7 y8 y9 y10
      generalize z1 % 16 = pd at *
      generalize z1 / 16 = ps at *
      cases rg
      · have HQ2 := Lib.hid (show oneRes L = .tuple #[.agg zero8, .int .i64 0, .int .i64 22] by unfold oneRes; rw [HQ.out, if_pos rfl]; rfl)
        clear HQ
        obtain ⟨⟨q0, q1, q2, q3, q4, q5, q6, q7⟩, g0, g1, g2, g3, g4, g5, g6, g7⟩ := cells8 HX3.out.1
        have HS8 := Lib.hid (fun a b c d e f k l => set8 HX3.out.1 a b c d e f k l)
        have HW8 := Lib.hid (below8 (g := w.heap.size) HX3.out.2 (Nat.le_refl _))
        go_wp2_with fail
        exact bodyPost_ret (v := .tuple #[.agg zero8, .int .i64 0, .int .i64 22]) (results_cell_tmp2 Tryd.results70 _ _ w.heap.size 71 zero8 (0, 0) _ _ _ rfl rfl rfl (HS8.out _ _ _ _ _ _ _ _) Tryd.underlying71 rfl (by kernel_rfl)) rfl ⟨by rw [HQ2.out], HW8.out _ _ _ _ _ _ _ _⟩
      have hq := HQ.out
      rw [if_neg (show ¬ (true = false) by decide)] at hq
      have HQ := Lib.hid hq
      clear hq
      go_upto_block 2 with (fail)
      go_cut [14] (fun s14 wx => OwnR wx w3.heap.size s14 (R.filter fun r => fitR r pd ps po) ∧ Below w3.heap.size w3 wx)
      case first =>
        clear HQ
        go_wp2_with fail
        go_loopw [14, 15, 16] (fun v i x wr => ∃ j : Nat, j ≤ m1 ∧ i = .int .i64 j ∧ OwnR wr w3.heap.size v ((R.take j).filter fun r => fitR r pd ps po) ∧ Below w3.heap.size w3 wr) (fun _ i _ _ => (m1 - intOf i).toNat)
        case atStart => exact ⟨0, Nat.zero_le _, rfl, OwnR.nil _ _, Below.refl _ _⟩
        case round =>
          obtain ⟨j, hj, rfl, hown, hB⟩ := hrel
          by_cases hlt : j < m1
          · have hlt' : (j : Int) < m1 := by omega
            obtain ⟨r, hr⟩ : ∃ r, R[j]? = some r := ⟨R[j]'(by rw [HM1.out]; omega), List.getElem?_eq_getElem _⟩
            have HF := Lib.hid (filter_next hr fun r => fitR r pd ps po)
            have HLN := Lib.hid (filter_len (T := R) j (fun r => fitR r pd ps po) (by rw [HM1.out]; exact hlr))
            generalize (R.take j).filter (fun r => fitR r pd ps po) = T at *
            obtain ⟨A2, k2, rfl⟩ := hown.form
            obtain ⟨y0, y1, y2, y3, y4, y5, y6, y7, y8, y9, y10⟩ := (HLC3.out.2 j r hr).below hB HLC3.out.1
            obtain ⟨rc, ro_, rz, rn, rr, rd, rs, rf, ri, r2, rw_⟩ := r
            simp only at y0 y1 y2 y3 y4 y5 y6 y7 y8 y9 y10 HF
            have HO := Lib.hid (hown.below (below_box wr (.cells (row11 rc ro_ rz rn rr rd rs rf ri r2 rw_) 125)))
            have HB := Lib.hid (hB.trans ((below_box wr (.cells (row11 rc ro_ rz rn rr rd rs rf ri r2 rw_) 125)).mono hB.size))
            have HK := Lib.hid (Blk.new wr 125 (row11 rc ro_ rz rn rr rd rs rf ri r2 rw_))
            clear hown hB hr
            go_upto_region 27 with (fail)
            generalize wr.alloc (.cells (row11 rc ro_ rz rn rr rd rs rf ri r2 rw_) 125) = Wb at *
            generalize wr.heap.size = gb at *
            clear y0 y1 y2 y3 y4 y5 y6 y7 y8 y9 y10
            obtain ⟨y0, y1, y2, y3, y4, y5, y6, y7, y8, y9, y10⟩ := cells11m HK.out
            go_cut [126] (fun s wx => s = .bool (fitR ⟨rc, ro_, rz, rn, rr, rd, rs, rf, ri, r2, rw_⟩ pd ps po) ∧ Wb = wx)
            case first =>
              have HD := Lib.hid (show fitR ⟨rc, ro_, rz, rn, rr, rd, rs, rf, ri, r2, rw_⟩ pd ps po = ((rd == -1 || rd == pd) && (rs == -1 || rs == ps) && (rf == -1 || rf == po)) from rfl)
              generalize fitR ⟨rc, ro_, rz, rn, rr, rd, rs, rf, ri, r2, rw_⟩ pd ps po = fb at *
              clear HF HO HB HK HLN
              cases d1 : (rd == -1)
              · cases d2 : (rd == pd)
                · skip
                  go_wp2_with fail
                  go_meet
                  case rel => exact ⟨congrArg Value.bool (by rw [HD.out, d1, d2]; rfl), by first | rfl | trivial⟩
                · skip
                  cases s1 : (rs == -1)
                  · cases s2 : (rs == ps)
                    · skip
                      go_wp2_with fail
                      go_meet
                      case rel => exact ⟨congrArg Value.bool (by rw [HD.out, d1, d2, s1, s2]; rfl), by first | rfl | trivial⟩
                    · skip
                      cases o1 : (rf == -1)
                      · cases o2 : (rf == po)
                        · skip
                          go_wp2_with fail
                          go_meet
                          case rel => exact ⟨congrArg Value.bool (by rw [HD.out, d1, d2, s1, s2, o1, o2]; rfl), by first | rfl | trivial⟩
                        · skip
                          go_wp2_with fail
                          go_meet
                          case rel => exact ⟨congrArg Value.bool (by rw [HD.out, d1, d2, s1, s2, o1, o2]; rfl), by first | rfl | trivial⟩
                      · skip
                        go_wp2_with fail
                        go_meet
                        case rel => exact ⟨congrArg Value.bool (by rw [HD.out, d1, d2, s1, s2, o1]; rfl), by first | rfl | trivial⟩
                  · skip
                    cases o1 : (rf == -1)
                    · cases o2 : (rf == po)
                      · skip
                        go_wp2_with fail
                        go_meet
                        case rel => exact ⟨congrArg Value.bool (by rw [HD.out, d1, d2, s1, o1, o2]; rfl), by first | rfl | trivial⟩
                      · skip
                        go_wp2_with fail
                        go_meet
                        case rel => exact ⟨congrArg Value.bool (by rw [HD.out, d1, d2, s1, o1, o2]; rfl), by first | rfl | trivial⟩
                    · skip
                      go_wp2_with fail
                      go_meet
                      case rel => exact ⟨congrArg Value.bool (by rw [HD.out, d1, d2, s1, o1]; rfl), by first | rfl | trivial⟩
              · skip
                cases s1 : (rs == -1)
                · cases s2 : (rs == ps)
                  · skip
                    go_wp2_with fail
                    go_meet
                    case rel => exact ⟨congrArg Value.bool (by rw [HD.out, d1, s1, s2]; rfl), by first | rfl | trivial⟩
                  · skip
                    cases o1 : (rf == -1)
                    · cases o2 : (rf == po)
                      · skip
                        go_wp2_with fail
                        go_meet
                        case rel => exact ⟨congrArg Value.bool (by rw [HD.out, d1, s1, s2, o1, o2]; rfl), by first | rfl | trivial⟩
                      · skip
                        go_wp2_with fail
                        go_meet
                        case rel => exact ⟨congrArg Value.bool (by rw [HD.out, d1, s1, s2, o1, o2]; rfl), by first | rfl | trivial⟩
                    · skip
                      go_wp2_with fail
                      go_meet
                      case rel => exact ⟨congrArg Value.bool (by rw [HD.out, d1, s1, s2, o1]; rfl), by first | rfl | trivial⟩
                · skip
                  cases o1 : (rf == -1)
                  · cases o2 : (rf == po)
                    · skip
                      go_wp2_with fail
                      go_meet
                      case rel => exact ⟨congrArg Value.bool (by rw [HD.out, d1, s1, o1, o2]; rfl), by first | rfl | trivial⟩
                    · skip
                      go_wp2_with fail
                      go_meet
                      case rel => exact ⟨congrArg Value.bool (by rw [HD.out, d1, s1, o1, o2]; rfl), by first | rfl | trivial⟩
                  · skip
                    go_wp2_with fail
                    go_meet
                    case rel => exact ⟨congrArg Value.bool (by rw [HD.out, d1, s1, o1]; rfl), by first | rfl | trivial⟩
            case rest =>
              obtain ⟨rfl, hwb⟩ := hcut
              subst hwb
              cases hp : fitR ⟨rc, ro_, rz, rn, rr, rd, rs, rf, ri, r2, rw_⟩ pd ps po
              · rw [hp] at HF
                clear hp y0 y1 y2 y3 y4 y5 y6 y7 y8 y9 y10
                go_wp2_with fail
                go_roundw
                case rel => exact ⟨j + 1, by omega, by go_num, by rw [HF.out]; simpa using HO.out, HB.out⟩
                case measure => simp [intOf]; omega
              · rw [hp] at HF
                have hlen : T.length ≤ 4096 := Nat.le_trans HLN.out (by decide)
                have hbase : w3.heap.size ≤ Wb.heap.size := HB.out.size
                go_wp2_with (at_builtin; (refine append_row Tryd.underlying118 row_info _ Wb rfl (.tmp 127) (.tmp 129) rfl w3.heap.size _ _ rfl HO.out ⟨rc, ro_, rz, rn, rr, rd, rs, rf, ri, r2, rw_⟩ rfl _ rfl rfl hlen hbase ?_; intro v' w' hown' hB' _))
                have hb2 := HB.out.trans hB'
                clear HO HB HK hp hB' y0 y1 y2 y3 y4 y5 y6 y7 y8 y9 y10
                go_roundw
                case rel => exact ⟨j + 1, by omega, by go_num, by rw [HF.out]; exact hown', hb2⟩
                case measure => simp [intOf]; omega
          · obtain rfl : j = m1 := by omega
            have hjn : decide ((j : Int) < j) = false := decide_eq_false (by omega)
            have htk : R.take j = R := List.take_of_length_le (by rw [HM1.out]; exact Nat.le_refl _)
            rw [htk] at hown
            go_wp2_with fail
            go_meet
            case rel => exact ⟨hown, hB⟩
      case rest =>
        obtain ⟨hO4, hB4⟩ := hcut
        generalize wc = W4 at *
        obtain ⟨A4, k4, rfl, hra4⟩ := hO4.rowsAt
        have HX4 := Lib.hid (HX3.out.up hB4)
        have HRA := Lib.hid hra4
        have HFS := Lib.hid (fun r (h : r ∈ R.filter fun r => fitR r pd ps po) => HSB.out r (List.mem_filter.1 h).1)
        have hl4 : (R.filter fun r => fitR r pd ps po).length ≤ 139 := Nat.le_trans (List.length_filter_le _ _) (by rw [HM1.out]; exact hlr)
        clear HX3 HLC3 HSB hra4 hB4 hO4
        generalize R.filter (fun r => fitR r pd ps po) = F at *
        obtain ⟨m4, hm4⟩ : ∃ m, F.length = m := ⟨_, rfl⟩
        rw [hm4] at hl4 ⊢
        have HM4 := Lib.hid hm4
        clear hm4
        obtain ⟨BB, hBB⟩ : ∃ BB, (decide (cc = 24) && badU (unitA (L.drop 8))) = BB := ⟨_, rfl⟩
        have HBB := Lib.hid (show BB = (decide (cc = 24) && (gB L 8 != 0 || gB L 9 != 0 || gB L 10 != 0 || gB L 11 != 0)) by rw [← hBB, badU_bytes HY.out.byte])
        rw [hBB] at HQ
        clear hBB
        go_upto_region 29 with (fail)
        go_cut [161] (fun s wx => s = .bool (decide (F = []) || BB) ∧ W4 = wx)
        case first =>
          clear HQ
          by_cases hF : F = []
          · obtain rfl : m4 = 0 := by rw [← HM4.out, hF]; rfl
            have HD := Lib.hid (show (decide (F = []) || BB) = true by rw [decide_eq_true hF]; rfl)
            clear hF
            go_wp2_with fail
            go_meet
            case rel => exact ⟨by rw [HD.out], by first | rfl | trivial⟩
          · have hm0 : 0 < m4 := by rw [← HM4.out]; exact List.length_pos_iff.2 hF
            have tm : ((m4 : Int) == 0) = false := by rw [beq_eq_false_iff_ne]; omega
            have HD := Lib.hid (show (decide (F = []) || BB) = BB by rw [decide_eq_false hF]; rfl)
            by_cases h24 : cc = 24
            · have hun := HUN.out
              rw [if_pos h24] at hun
              have hbb := HBB.out
              rw [decide_eq_true h24, Bool.true_and] at hbb
              have hn16 : 16 ≤ n := by rw [← hun] at hsh; omega
              have x8 := HY.out.at_ HX4.out.2 8 (by omega)
              have x9 := HY.out.at_ HX4.out.2 9 (by omega)
              have x10 := HY.out.at_ HX4.out.2 10 (by omega)
              have x11 := HY.out.at_ HX4.out.2 11 (by omega)
              have hcl := HY.out.le
              have tu : (un == 2) = true := by rw [← hun]; rfl
              have HB5 := Lib.hid hbb
              have i8 : (8 : Int) < (n : Int) := by omega
              have i9 : (9 : Int) < (n : Int) := by omega
              have i10 : (10 : Int) < (n : Int) := by omega
              have i11 : (11 : Int) < (n : Int) := by omega
              clear hF h24 hun hbb
              cases e8 : (gB L 8 != 0)
              · cases e9 : (gB L 9 != 0)
                · cases e10 : (gB L 10 != 0)
                  · cases e11 : (gB L 11 != 0)
                    · skip
                      go_wp2_with fail
                      go_meet
                      case rel => exact ⟨by rw [HD.out, HB5.out, e8, e9, e10, e11]; rfl, by first | rfl | trivial⟩
                    · skip
                      go_wp2_with fail
                      go_meet
                      case rel => exact ⟨by rw [HD.out, HB5.out, e8, e9, e10, e11]; rfl, by first | rfl | trivial⟩
                  · skip
                    go_wp2_with fail
                    go_meet
                    case rel => exact ⟨by rw [HD.out, HB5.out, e8, e9, e10]; rfl, by first | rfl | trivial⟩
                · skip
                  go_wp2_with fail
                  go_meet
                  case rel => exact ⟨by rw [HD.out, HB5.out, e8, e9]; rfl, by first | rfl | trivial⟩
              · skip
                go_wp2_with fail
                go_meet
                case rel => exact ⟨by rw [HD.out, HB5.out, e8]; rfl, by first | rfl | trivial⟩
            · have hun := HUN.out
              rw [if_neg h24] at hun
              have HB5 := Lib.hid (show BB = false by rw [HBB.out, decide_eq_false h24]; rfl)
              have tu : (un == 2) = false := by rw [← hun]; rfl
              clear hF h24 hun
              go_wp2_with fail
              go_meet
              case rel => exact ⟨by rw [HD.out, HB5.out], by first | rfl | trivial⟩
        case rest =>
          obtain ⟨rfl, hw4⟩ := hcut
          subst hw4
          have HD := Lib.hid (show (F = [] ∨ BB = true) ↔ (decide (F = []) || BB) = true by simp)
          generalize (decide (F = []) || BB) = fb at *
          cases fb
          case true =>
            have HQ2 := Lib.hid (show oneRes L = .tuple #[.agg zero8, .int .i64 0, .int .i64 23] by unfold oneRes; rw [HQ.out, if_pos (HD.out.2 rfl)]; rfl)
            clear HQ HD
            obtain ⟨⟨q0, q1, q2, q3, q4, q5, q6, q7⟩, g0, g1, g2, g3, g4, g5, g6, g7⟩ := cells8 HX4.out.1
            have HS8 := Lib.hid (fun a b c d e f k l => set8 HX4.out.1 a b c d e f k l)
            have HW8 := Lib.hid (below8 (g := w.heap.size) HX4.out.2 (Nat.le_refl _))
            go_wp2_with fail
            exact bodyPost_ret (v := .tuple #[.agg zero8, .int .i64 0, .int .i64 23]) (results_cell_tmp2 Tryd.results70 _ _ w.heap.size 71 zero8 (0, 0) _ _ _ rfl rfl rfl (HS8.out _ _ _ _ _ _ _ _) Tryd.underlying71 rfl (by kernel_rfl)) rfl ⟨by rw [HQ2.out], HW8.out _ _ _ _ _ _ _ _⟩
          case false =>
            have hq := HQ.out
            rw [if_neg (fun h => absurd (HD.out.1 h) (by decide))] at hq
            have HQ := Lib.hid hq
            clear hq HD
            have hsec : (if cc = 24 then (unitA (L.drop 8)).imm else 0) = (if cc = 24 then imm32 (gB L 12) (gB L 13) (gB L 14) (gB L 15) else 0) := by
              have e : ∀ k, gB (L.drop 8) k = gB L (8 + k) := fun k => by unfold gB; simp [List.getD_eq_getElem?_getD, List.getElem?_drop]
              have e2 : (unitA (L.drop 8)).imm = imm32 (gB (L.drop 8) 4) (gB (L.drop 8) 5) (gB (L.drop 8) 6) (gB (L.drop 8) 7) := rfl
              rw [e2, e, e, e, e]
            obtain ⟨sec, hse⟩ : ∃ sec, (if cc = 24 then (unitA (L.drop 8)).imm else 0) = sec := ⟨_, rfl⟩
            rw [hse] at HQ
            have hsr : -2147483648 ≤ sec ∧ sec ≤ 2147483647 := by
              rw [← hse, hsec]; split
              · exact imm32_in (HY.out.byte 12) (HY.out.byte 13) (HY.out.byte 14) (HY.out.byte 15)
              · decide
            have HSA := Lib.hid (fun W (hb : Below w.heap.size w W) r (hr : r ∈ F) (ho : r.op = 20 ∨ r.op = 21) => (show SecAt W (.slice (some ⟨b, off, none⟩) n c) sec from by
              have h24 := HFS.out r hr ho
              have hun := HUN.out
              rw [if_pos h24] at hun hse hsec
              have hn16 : 16 ≤ n := by rw [← hun] at hsh; omega
              exact ⟨b, off, n, c, _, _, _, _, rfl, hn16, HY.out.le, Nat.lt_of_lt_of_le HY.out.lt hb.size, ⟨HY.out.byte 12, HY.out.byte 13, HY.out.byte 14, HY.out.byte 15⟩, ⟨HY.out.at_ hb 12 (by omega), HY.out.at_ hb 13 (by omega), HY.out.at_ hb 14 (by omega), HY.out.at_ hb 15 (by omega)⟩, by rw [← hse, hsec, if_pos h24]⟩))
            have HUE := Lib.hid (show (((if cc = 24 then 2 else 1 : Nat) : Nat) : Int) = un by rw [← HUN.out]; split <;> rfl)
            clear hse hsec
            generalize (if cc = 24 then (2 : Nat) else 1) = UNn at *
            go_wp2_with fail
            go_loopw [17, 18, 19] (fun i y ok wr => ∃ j : Nat, j ≤ m4 ∧ i = .int .i64 j ∧ F.find? (fun r => readR r pi sec) = (F.drop j).find? (fun r => readR r pi sec) ∧ Below W4.heap.size W4 wr) (fun i _ _ _ => (m4 - intOf i).toNat)
            case atStart => exact ⟨0, Nat.zero_le _, rfl, rfl, Below.refl _ _⟩
            case round =>
              obtain ⟨j, hj, rfl, hfd, hB⟩ := hrel
              have HXr := Lib.hid (HX4.out.up hB)
              by_cases hlt : j < m4
              · have hlt' : (j : Int) < m4 := by omega
                obtain ⟨fb, fo, rfl, hfb, hfc⟩ := HRA.out (by rw [HM4.out]; omega)
                obtain ⟨r, hr⟩ : ∃ r, F[j]? = some r := ⟨F[j]'(by rw [HM4.out]; omega), List.getElem?_eq_getElem _⟩
                have HFD := Lib.hid (hfd.trans (find_step hr fun r => readR r pi sec))
                have hrm := List.mem_of_getElem? hr
                obtain ⟨y0, y1, y2, y3, y4, y5, y6, y7, y8, y9, y10⟩ := (hfc j r hr).below hB hfb
                have HSR := Lib.hid (HSA.out wr HXr.out.2 r hrm)
                have HB := Lib.hid hB
                obtain ⟨rc, ro_, rz, rn, rr, rd, rs, rf, ri, r2, rw_⟩ := r
                simp only at y0 y1 y2 y3 y4 y5 y6 y7 y8 y9 y10 HFD HSR
                have HRD := Lib.hid (rread_any rc ro_ rz rn rr rd rs rf ri r2 rw_ (.slice (some ⟨b, off, none⟩) n c) pd ps po pi sec hpi hsr wr HSR.out)
                have hr2 : (readRes ⟨rc, ro_, rz, rn, rr, rd, rs, rf, ri, r2, rw_⟩ pd ps po pi sec).2 = readR ⟨rc, ro_, rz, rn, rr, rd, rs, rf, ri, r2, rw_⟩ pi sec := by
                  unfold readRes readR; split <;> simp_all
                have hr1 : readR ⟨rc, ro_, rz, rn, rr, rd, rs, rf, ri, r2, rw_⟩ pi sec = true → (readRes ⟨rc, ro_, rz, rn, rr, rd, rs, rf, ri, r2, rw_⟩ pd ps po pi sec).1 = insR ⟨rc, ro_, rz, rn, rr, rd, rs, rf, ri, r2, rw_⟩ pd ps po pi sec := by
                  unfold readRes readR; split <;> simp_all
                rw [hr2] at HRD
                have HR1 := Lib.hid hr1
                generalize (readRes ⟨rc, ro_, rz, rn, rr, rd, rs, rf, ri, r2, rw_⟩ pd ps po pi sec).1 = X at *
                generalize readR ⟨rc, ro_, rz, rn, rr, rd, rs, rf, ri, r2, rw_⟩ pi sec = ok at *
                obtain ⟨xo, xn, xr, xz, xd, xs, xf, xi⟩ := X
                simp only [Ins.arr] at HRD
                clear hfd hfc hr hrm hB hr1 hr2 HSR HSA HFS
                go_wp2_with fail
                go_at_call 102
                refine HRD.out.mono ?_
                rintro e w5 ⟨rfl, hB5⟩
                have HX5 := Lib.hid ((HXr.out.up hB5).up (below_box w5 (.cells (ins8 xo xn xr xz xd xs xf xi) 71)))
                have HB5 := Lib.hid ((HB.out.trans (hB5.mono HB.out.size)).trans ((below_box w5 (.cells (ins8 xo xn xr xz xd xs xf xi) 71)).mono (Nat.le_trans HB.out.size hB5.size)))
                have HY5 := Lib.hid (Blk.new w5 71 (ins8 xo xn xr xz xd xs xf xi))
                clear hB5 HB HXr HRD y0 y1 y2 y3 y4 y5 y6 y7 y8 y9 y10
                go_upto_region 35 with (fail)
                generalize w5.alloc (.cells (ins8 xo xn xr xz xd xs xf xi) 71) = W6 at *
                generalize w5.heap.size = g6 at *
                cases ok
                case false =>
                  have hfd := HFD.out
                  rw [if_neg (show ¬ (false = true) by decide)] at hfd
                  have HFD2 := Lib.hid hfd
                  clear hfd HFD HR1 HX5 HY5
                  go_wp2_with fail
                  go_roundw
                  case rel => exact ⟨j + 1, by omega, by go_num, HFD2.out, HB5.out⟩
                  case measure => simp [intOf]; omega
                case true =>
                  have hfd := HFD.out
                  rw [if_pos rfl] at hfd
                  have hxi := HR1.out rfl
                  have HQ2 := Lib.hid (show oneRes L = .tuple #[.agg (ins8 xo xn xr xz xd xs xf xi), .int .i64 un, .int .i64 0] by
                    unfold oneRes; rw [HQ.out, hfd]
                    show Value.tuple #[.agg (insR ⟨rc, ro_, rz, rn, rr, rd, rs, rf, ri, r2, rw_⟩ pd ps po pi sec).arr, .int .i64 ((UNn : Nat) : Int), .int .i64 0] = _
                    rw [HUE.out, ← hxi]; rfl)
                  obtain ⟨⟨q0, q1, q2, q3, q4, q5, q6, q7⟩, g0, g1, g2, g3, g4, g5, g6, g7⟩ := cells8 HX5.out.1
                  obtain ⟨⟨z0, z1, z2, z3, z4, z5, z6, z7⟩, -⟩ := cells8 HY5.out
                  have HS8 := Lib.hid (fun a b c d e f k l => set8 HX5.out.1 a b c d e f k l)
                  have HW8 := Lib.hid (below8 (g := w.heap.size) HX5.out.2 (Nat.le_refl _))
                  clear hfd hxi HFD HR1 HQ HX5 HY5 HB5
                  go_wp2_with fail
                  exact bodyPost_ret (v := .tuple #[.agg (ins8 xo xn xr xz xd xs xf xi), .int .i64 un, .int .i64 0]) (results_cell_tmp2 Tryd.results70 _ _ w.heap.size 71 (ins8 xo xn xr xz xd xs xf xi) (0, 0) _ _ _ rfl rfl rfl (HS8.out _ _ _ _ _ _ _ _) Tryd.underlying71 rfl (by kernel_rfl)) rfl ⟨by rw [HQ2.out], HW8.out _ _ _ _ _ _ _ _⟩
              · obtain rfl : j = m4 := by omega
                have hjn : decide ((j : Int) < j) = false := decide_eq_false (by omega)
                have hnone : F.find? (fun r => readR r pi sec) = none := by rw [hfd, List.drop_eq_nil_of_le (by rw [HM4.out]; exact Nat.le_refl _)]; rfl
                have HQ2 := Lib.hid (show oneRes L = .tuple #[.agg zero8, .int .i64 0, .int .i64 24] by unfold oneRes; rw [HQ.out, hnone]; rfl)
                clear hfd hnone HQ hB
                obtain ⟨⟨q0, q1, q2, q3, q4, q5, q6, q7⟩, g0, g1, g2, g3, g4, g5, g6, g7⟩ := cells8 HXr.out.1
                have HS8 := Lib.hid (fun a b c d e f k l => set8 HXr.out.1 a b c d e f k l)
                have HW8 := Lib.hid (below8 (g := w.heap.size) HXr.out.2 (Nat.le_refl _))
                go_wp2_with fail
                exact bodyPost_ret (v := .tuple #[.agg zero8, .int .i64 0, .int .i64 24]) (results_cell_tmp2 Tryd.results70 _ _ w.heap.size 71 zero8 (0, 0) _ _ _ rfl rfl rfl (HS8.out _ _ _ _ _ _ _ _) Tryd.underlying71 rfl (by kernel_rfl)) rfl ⟨by rw [HQ2.out], HW8.out _ _ _ _ _ _ _ _⟩
end Go.Proofs.YtlodoinmippebaaDoor.Rf
/- Decode of the document's answer for package code: it reads what package code reads. -/
namespace Go.Proofs.YtlodoinmippebaaDoor.Rf
open Go.ChangeShapes Go.WideShapes Go.ChangeAt Go.RowKit
open Cod Bits
set_option linter.unusedVariables false
set_option linter.unusedSimpArgs false

theorem gB_byte {L : List Int} (h : BytesL L) (k : Nat) : IsB (gB L k) := by
  unfold gB
  rw [List.getD_eq_getElem?_getD]
  rcases Nat.lt_or_ge k L.length with h1 | h1
  · rw [List.getElem?_eq_getElem h1]; exact h _ (List.getElem_mem h1)
  · rw [List.getElem?_eq_none h1]; exact ⟨by decide, by decide⟩
theorem rone_any (w : World) (Ar : Option Addr) (cr : Nat) (hR : RowsAt w Ar rowsL) (b off n c : Nat) (L : List Int) (hL : L.length = n) (hB : BytesL L) (hc : n ≤ c) (hb : b < w.heap.size)
    (hx : ∀ i, i < L.length → w.cell? ⟨b, off + i, none⟩ = some (.int .u8 (L[i]?.getD 0))) (hn2 : n ≤ 281474976710656) :
    Calls Tryd.prog 70 #[.slice Ar 139 cr, .slice (some ⟨b, off, none⟩) n c] w fun e w' => e = .returned (oneRes L) ∧ Below w.heap.size w w' := by
  by_cases hn : n < 8
  · exact rone_short w Ar cr _ n c L hL hn
  · refine rone_long w Ar cr hR b off n c L ⟨hL, hc, hb, fun k hk => ?_, gB_byte hB⟩ (by omega) hn2
    rw [hx k (by omega)]
    unfold gB
    rw [List.getD_eq_getElem?_getD]
theorem ownI_nil (w : World) (base : Nat) : OwnI w base (.slice none 0 0) [] := World.ownsRow_nil w base _ 8
theorem ins_one_at (W : World) (a b c d e f g h : Value) (i : Ins) (hi : #[a, b, c, d, e, f, g, h] = i.arr) : CodeAt (W.alloc (.cells #[a, b, c, d, e, f, g, h] 71)) (some ⟨W.heap.size, 0, none⟩) [i] := by
  rw [hi]
  exact codeAt_cells (by simp) fun m v hm => by
    rw [(Blk.new W 71 i.arr).cell m]
    have : ([i].flatMap Ins.cells) = i.arr.toList := rfl
    rw [this] at hm
    simpa using hm
theorem _root_.Go.Proofs.YtlodoinmippebaaDoor.OwnI.weakenI {w : World} {base base' : Nat} {v : Value} {L : List Ins} (h : OwnI w base v L) (hb : base' ≤ base) : OwnI w base' v L := by
  refine ⟨h.1, ?_⟩
  rcases h.2 with h1 | ⟨g, cap, cur, hv, hg, hh, h1⟩
  · exact .inl h1
  · exact .inr ⟨g, cap, cur, hv, Nat.le_trans hb hg, hh, h1⟩
/-- what Decode holds ahead of a round -/
structure RDec (L : List Int) (n : Nat) (done : List Ins) (u : Nat) : Prop where
  eq : D L 0 0 = joinD done (D (L.drop (8 * u)) done.length u)
  le : 8 * u ≤ n
  many : done.length ≤ 4096
set_option maxRecDepth 100000 in
set_option maxHeartbeats 8000000 in
theorem refDecode_any (w : World) (A : Option Addr) (n c : Nat) (L : List Int) (hl : Left w w.heap.size A n c L) (hn : n ≤ 281474976710656) :
    Calls Tryd.prog 40 #[.slice A n c] w (Decoded w L) := by
  obtain ⟨hlen, hBL, hx⟩ := hl
  have HX := Lib.hid hx
  have HL := Lib.hid (show L.length = n ∧ BytesL L from ⟨hlen, hBL⟩)
  have HRW := Lib.hid (rows_any w)
  have HS := Lib.hid (show RDec L n [] 0 from ⟨by rw [Nat.mul_zero, List.drop_zero]; exact (joinD_nil _ (D_norm L 0 0).1 (D_norm L 0 0).2).symm, Nat.zero_le _, Nat.zero_le _⟩)
  clear hlen hBL hx
  go_enter Tryd.func40, Tryd.ntmps40
  go_wp2_with fail
  go_at_call 69
  refine HRW.out.mono ?_
  rintro e w1 ⟨v, rfl, hown, hB1⟩
  obtain ⟨Ar, cr, rfl, hra⟩ := hown.rowsAt
  rw [rowsL_len]
  have HRA := Lib.hid hra
  have HB1 := Lib.hid hB1
  clear hown hra hB1 HRW
  go_wp2_with fail
  go_loopw [6, 7, 8, 9, 10] (fun v a x un e wr => ∃ (done : List Ins) (u : Nat), a = .int .i64 u ∧ RDec L n done u ∧ OwnI wr w1.heap.size v done ∧ Below w1.heap.size w1 wr) (fun _ a _ _ _ _ => (n - 8 * intOf a).toNat)
  case atStart => exact ⟨[], 0, rfl, HS.out, ownI_nil _ _, Below.refl _ _⟩
  case round =>
    clear HS
    obtain ⟨done, u, rfl, hd, hown, hB⟩ := hrel
    have HD := Lib.hid hd
    have hule := hd.le
    have humany := hd.many
    clear hd
    obtain ⟨A2, c2, rfl⟩ := hown.form
    have HO := Lib.hid hown
    have HB := Lib.hid hB
    clear hown hB
    obtain ⟨dn, hdn⟩ : ∃ dn, done.length = dn := ⟨_, rfl⟩
    rw [hdn] at humany HO ⊢
    have HDN := Lib.hid hdn
    clear hdn
    by_cases hlt : 8 * u < n
    · have hlt' : 8 * (u : Int) < (n : Int) := by omega
      have tlt : decide (8 * (u : Int) < (n : Int)) = true := decide_eq_true hlt'
      obtain ⟨hcn, b, off, rfl, hbl, hcell⟩ := HX.out (by omega)
      have HC := Lib.hid hcell
      have hdl : (L.drop (8 * u)).length = n - 8 * u := by rw [List.length_drop, HL.out.1]
      clear hcell HX
      by_cases h96 : dn = 4096
      · have HQ := Lib.hid (show D L 0 0 = (25, u, []) by
          rw [HD.out.eq, HDN.out, h96, D_many (by rw [hdl]; omega)]; rfl)
        subst h96
        clear hdl
        go_wp2_with fail
        go_ret3
        exact ⟨_, by rw [HQ.out]; rfl, by rw [HQ.out]; exact ownI_nil _ _, HB1.out.trans (HB.out.mono HB1.out.size)⟩
      · have t96 : ((dn : Int) == 4096) = false := by rw [beq_eq_false_iff_ne]; omega
        have HDL := Lib.hid hdl
        have HON := Lib.hid (rone_any wr Ar cr (HRA.out.below HB.out) b (off + 8 * u) (n - 8 * u) (c - 8 * u) (L.drop (8 * u)) hdl (HL.out.2.drop _) (by omega) (Nat.lt_of_lt_of_le hbl (HB1.out.trans (HB.out.mono HB1.out.size)).size) (fun i hi => by
          rw [List.length_drop] at hi
          rw [Nat.add_assoc, ((HB1.out.trans (HB.out.mono HB1.out.size)).cell (p := ⟨b, off + (8 * u + i), none⟩) hbl), HC.out (8 * u + i) (by omega), List.getElem?_drop]) (by omega))
        have HOR := Lib.hid (one_ref (HL.out.2.drop (8 * u)))
        have h8c : 8 * u ≤ c := by omega
        have h8n : 8 * u ≤ n := by omega
        clear hdl
        go_wp2_with fail
        go_at_call 70
        refine HON.out.mono ?_
        rintro e w2 ⟨he, hB2⟩
        by_cases hE : (insD (L.drop (8 * u))).1 = 0
        · obtain ⟨hk1, hk2⟩ := insD_len _ hE
          rw [HDL.out] at hk2
          have ho := HOR.out.2.1 hE
          have hst := D_step (l := L.drop (8 * u)) (by rw [HDL.out]; omega) (cnt := dn) h96 u hE
          have hv : oneRes (L.drop (8 * u)) = .tuple #[.agg (insD (L.drop (8 * u))).2.1.arr, .int .i64 (((insD (L.drop (8 * u))).2.2 : Nat) : Int), .int .i64 0] := by
            unfold oneRes; rw [ho, hE, if_pos rfl]
          rw [hv] at he
          generalize (insD (L.drop (8 * u))).2.1 = I at *
          generalize (insD (L.drop (8 * u))).2.2 = k at *
          have hnx : RDec L n (done ++ [I]) (u + k) := by
            refine ⟨?_, by omega, by rw [List.length_append, HDN.out]; simp; omega⟩
            rw [HD.out.eq, HDN.out, hst, joinD_join, List.drop_drop, List.length_append, HDN.out, show 8 * u + 8 * k = 8 * (u + k) by omega]; rfl
          have HNX := Lib.hid hnx
          obtain ⟨xo, xn, xr, xz, xd, xs, xf, xi⟩ := I
          have he' : e = .returned (.tuple #[.agg (ins8 xo xn xr xz xd xs xf xi), .int .i64 (k : Int), .int .i64 0]) := he
          subst he'
          have hbb := below_box w2 (.cells (ins8 xo xn xr xz xd xs xf xi) 71)
          have HY3 := Lib.hid (Blk.new w2 71 (ins8 xo xn xr xz xd xs xf xi))
          have HO3 := Lib.hid ((ownI_keep HO.out (Nat.le_refl _) (fun bb _ hb2 => (hB2.trans (hbb.mono hB2.size)).block bb hb2)))
          have HB3 := Lib.hid (HB.out.trans ((hB2.trans (hbb.mono hB2.size)).mono HB.out.size))
          clear he hv hst ho hE hB2 hbb hnx HON HOR HO HB
          go_upto_region 8 with (fail)
          generalize w2.alloc (.cells (ins8 xo xn xr xz xd xs xf xi) 71) = W3 at *
          generalize w2.heap.size = g3 at *
          obtain ⟨⟨z0, z1, z2, z3, z4, z5, z6, z7⟩, -⟩ := cells8 HY3.out
          have hca := ins_one_at W3 (.int .i64 xo) (.bool xn) (.bool xr) (.int .i64 xz) (.int .i64 xd) (.int .i64 xs) (.int .i64 xf) (.int .i64 xi) ⟨xo, xn, xr, xz, xd, xs, xf, xi⟩ rfl
          have hsz : w1.heap.size ≤ (W3.alloc (.cells (ins8 xo xn xr xz xd xs xf xi) 71)).heap.size := Nat.le_trans HB3.out.size (by simp)
          have how := (ownI_keep HO3.out (Nat.le_refl _) (fun bb _ hb2 => (below_box W3 (.cells (ins8 xo xn xr xz xd xs xf xi) 71)).block bb hb2))
          have hlen1 : done.length + 1 ≤ 2600000000000 := by rw [HDN.out]; omega
          have HB4 := Lib.hid (HB3.out.trans ((below_box W3 (.cells (ins8 xo xn xr xz xd xs xf xi) 71)).mono HB3.out.size))
          go_wp2_with (at_builtin; (refine append_code Tryd.underlying31 ins_info _ rfl (.tmp 35) (.tmp 37) rfl w1.heap.size _ _ rfl how _ 1 _ [_] rfl rfl hca hlen1 hsz ?_; intro vb wb hown5 hB5; clear how hca hsz hlen1))
          have hb6 := HB4.out.trans hB5
          clear HY3 HO3 HB3 HB4 hB5 z0 z1 z2 z3 z4 z5 z6 z7
          go_roundw
          case rel => exact ⟨_, u + k, by go_num, HNX.out, hown5, hb6⟩
          case measure => simp [intOf]; omega
        · have he1 := HOR.out.1
          have hz := HOR.out.2.2 hE
          have hst := D_err (l := L.drop (8 * u)) (by rw [HDL.out]; omega) (cnt := dn) h96 u hE
          have HQ := Lib.hid (show D L 0 0 = ((insD (L.drop (8 * u))).1, u, []) by
            rw [HD.out.eq, HDN.out, hst]; unfold joinD; rw [if_neg hE])
          have hv : oneRes (L.drop (8 * u)) = .tuple #[.agg zero8, .int .i64 0, .int .i64 (insD (L.drop (8 * u))).1] := by
            unfold oneRes; rw [he1, if_neg hE, hz]; rfl
          rw [hv] at he
          have te : ((insD (L.drop (8 * u))).1 != 0) = true := by rw [bne_iff_ne]; exact hE
          generalize (insD (L.drop (8 * u))).1 = E at *
          subst he
          have HB3 := Lib.hid (HB.out.trans (hB2.mono HB.out.size))
          clear hv hst he1 hz hE hB2 HON HOR HO HB HDL
          go_wp2_with fail
          go_ret3
          exact ⟨_, by rw [HQ.out]; rfl, by rw [HQ.out]; exact ownI_nil _ _, HB1.out.trans ((HB3.out.trans ((below_box w2 _).mono HB3.out.size)).mono HB1.out.size)⟩
    · have tlt : decide (8 * (u : Int) < (n : Int)) = false := decide_eq_false (by omega)
      have HQ := Lib.hid (show D L 0 0 = (0, 0, done) by
        have h0 : L.drop (8 * u) = [] := List.drop_eq_nil_of_le (by rw [HL.out.1]; omega)
        rw [HD.out.eq, h0, D_nil]; unfold joinD; rw [if_pos rfl, List.append_nil])
      clear HX
      go_wp2_with fail
      go_ret3
      exact ⟨_, by rw [HQ.out]; rfl, by rw [HQ.out]; exact HO.out.weakenI HB1.out.size, HB1.out.trans (HB.out.mono HB1.out.size)⟩
end Go.Proofs.YtlodoinmippebaaDoor.Rf
