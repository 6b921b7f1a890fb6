/- Package code: first, whole; what Check says of a list; Encode. -/
import Derived.Test.YtlodoinmippebaaDoorCodeKN
namespace Go.Proofs.YtlodoinmippebaaDoor
open Go.ChangeShapes Go.WideShapes Go.ChangeAt Go.RowKit
open Cod Bits
set_option linter.unusedVariables false

/-- where an instruction may be written: what its unit asks -/
def Ins.fit (i : Ins) : Prop := (1 ≤ i.op ∧ i.op ≤ 39) ∧ (22 ≤ i.op → i.op ≤ 25 → i.size = 1 ∨ i.size = 2 ∨ i.size = 4 ∨ i.size = 8)
theorem first_any (i : Ins) (hf : i.fit) (w : World) (ht : Tabs w) : Calls Tryd.prog 56 #[.agg #[.int .i64 i.op, .bool i.nar, .bool i.reg, .int .i64 i.size, .int .i64 i.dst, .int .i64 i.src, .int .i64 i.off, .int .i64 i.imm]] w fun e w' => e = .returned (.agg #[.int .i64 i.oc, .int .i64 i.dst, .int .i64 (firstS i), .int .i64 (firstO i), .int .i64 (firstI i)]) ∧ Below w.heap.size w w' := by
  obtain ⟨op, nar, reg, size, dst, src, off, imm⟩ := i
  obtain ⟨hop, hs⟩ := hf
  simp only [Ins.oc, firstS, firstO, firstI] at *
  by_cases h6 : op = 6
  · subst h6; exact first_6 nar reg size dst src off imm w ht
  by_cases h7 : op = 7
  · subst h7; exact first_7 nar reg size dst src off imm w ht
  by_cases h16 : op = 16
  · subst h16; exact first_16 nar reg size dst src off imm w ht
  by_cases h17 : op = 17
  · subst h17; exact first_17 nar reg size dst src off imm w ht
  by_cases h18 : op = 18
  · subst h18; exact first_18 nar reg size dst src off imm w ht
  by_cases h19 : op = 19
  · subst h19; exact first_19 nar reg size dst src off imm w ht
  by_cases h20 : op = 20
  · subst h20; exact first_20 nar reg size dst src off imm w ht
  by_cases h21 : op = 21
  · subst h21; exact first_21 nar reg size dst src off imm w ht
  have := first_else op nar reg size dst src off imm hop hs ⟨h6, h7, h16, h17, h18, h19, h20, h21⟩ w ht
  rw [if_neg h21, if_neg (by omega), if_neg h16, if_neg (by omega), if_neg h20, if_neg h21]
  exact this

theorem wrong_zero {i : Ins} (h : i.wrong = 0) : operatesL i.op i.nar i.reg i.size = true ∧ registersL i.op i.nar i.reg i.dst i.src i.imm = true ∧ fieldsL i.op i.nar i.reg i.dst i.src i.off = true ∧ immediateL i.op i.nar i.reg i.imm = true := by
  unfold Ins.wrong wrongL at h
  cases h1 : operatesL i.op i.nar i.reg i.size <;> cases h2 : registersL i.op i.nar i.reg i.dst i.src i.imm <;> cases h3 : fieldsL i.op i.nar i.reg i.dst i.src i.off <;> cases h4 : immediateL i.op i.nar i.reg i.imm <;> simp [h1, h2, h3, h4] at h ⊢
theorem operates_sized {op : Int} {nar reg : Bool} {size : Int} (h : operatesL op nar reg size = true) : sizedL op nar size = true := by
  have hin := operates_in h
  rw [operatesL_in hin] at h
  split at h
  · cases h
  · simp only [Bool.and_eq_true] at h; exact h.2
theorem fit_of {i : Ins} (h : i.wrong = 0) : i.fit := by
  obtain ⟨h1, _⟩ := wrong_zero h
  refine ⟨operates_in h1, fun h2 h3 => ?_⟩
  have hs := operates_sized h1
  have hc : i.op = 22 ∨ i.op = 23 ∨ i.op = 24 ∨ i.op = 25 := by omega
  rcases hc with h | h | h | h <;> rw [h] at hs <;> simp [sizedL] at hs <;> omega
theorem check_ok : ∀ (L : List Ins) (n : Nat), (checkL L n).2 = 0 → (∀ i ∈ L, i.wrong = 0) ∧ (n ≤ 4096 → n + L.length ≤ 4096) ∧ (checkL L n).1 = 0
  | [], n, _ => ⟨(fun i h => by cases h), (fun h => by simpa using h), rfl⟩
  | i :: t, n, h => by
    rw [checkL] at h ⊢
    by_cases h1 : n = 4096
    · rw [if_pos h1] at h; cases h
    · rw [if_neg h1] at h ⊢
      by_cases h2 : i.wrong = 0
      · rw [if_pos h2] at h ⊢
        obtain ⟨a, b, c⟩ := check_ok t (n + 1) h
        refine ⟨fun x hx => ?_, fun hn => ?_, c⟩
        · rcases List.mem_cons.1 hx with rfl | hx
          · exact h2
          · exact a x hx
        · have := b (by omega); simp only [List.length_cons]; omega
      · rw [if_neg h2] at h; exact absurd h h2

def isLong (i : Ins) : Bool := i.op == 20 || i.op == 21
def secondI (i : Ins) : Int := if i.op = 20 then i.imm / 4294967296 else i.imm
/-- an instruction's bytes -/
def insB (i : Ins) : List Int := unitB i.oc i.dst (firstS i) (firstO i) (firstI i) ++ (if isLong i = true then unitB 0 0 0 0 (secondI i) else [])
def encB : List Ins → List Int
  | [] => []
  | i :: t => insB i ++ encB t
theorem encB_append (a b : List Ins) : encB (a ++ b) = encB a ++ encB b := by
  induction a with
  | nil => rfl
  | cons i t ih => rw [List.cons_append, encB, encB, ih, List.append_assoc]
theorem insB_length (i : Ins) : (insB i).length ≤ 16 := by unfold insB; split <;> simp [unitB]
theorem encB_length (L : List Ins) : (encB L).length ≤ 16 * L.length := by
  induction L with
  | nil => simp [encB]
  | cons i t ih => have := insB_length i; simp only [encB, List.length_append, List.length_cons]; omega

theorem make_cap (k : Nat) (hk : k ≤ 1099511627776) (w : World) : (Instr.makeSlice 22 (.int .i64 0) (.int .i64 k)).run Tryd.prog w =
    .ok (.slice (some ⟨w.heap.size, 0, none⟩) 0 k) (w.alloc (.cells ((zerosL k).map (Value.int .u8)).toArray 5)) := by
  obtain ⟨i0, hi, hz0, hz1, hz2⟩ := info_parts byte_info
  have h := run_make (P := Tryd.prog) w 22 5 i0 _ Tryd.underlying22 hi hz0 .i64 .i64 0 k (by omega) (by omega) (by rw [hz2]; omega) (by omega)
  rw [h, hz1]
  have e : madeCells (Value.int IntKind.u8 0).cells ((k : Int).toNat * 1) = ((zerosL k).map (Value.int .u8)).toArray := by
    apply Array.ext
    · simp [madeCells, zerosL]
    · intro i h1 h2
      simp [madeCells, zerosL, Value.cells, Nat.mod_one]
  rw [e, Int.toNat_natCast]
  rfl
theorem ownB_made (w : World) (k : Nat) (hk : k ≤ 1099511627776) : OwnB (w.alloc (.cells ((zerosL k).map (Value.int .u8)).toArray 5)) w.heap.size (.slice (some ⟨w.heap.size, 0, none⟩) 0 k) [] :=
  World.ownsRow_made (base := w.heap.size) (e := 5) (size := 1) w _ k (Nat.le_refl _) (by unfold maxLen; omega) (by simp [zerosL])
theorem appendTo_b (oc dst src off imm : Int) (w0 w : World) (v : Value) (L : List Int) (hown : OwnB w w0.heap.size v L) (hl : L.length ≤ 1099511627776) (hB : Below w0.heap.size w0 w) :
    Calls Tryd.prog 57 #[.agg #[.int .i64 oc, .int .i64 dst, .int .i64 src, .int .i64 off, .int .i64 imm], v] w fun e w' => ∃ v', e = .returned v' ∧ OwnB w' w0.heap.size v' (L ++ unitB oc dst src off imm) ∧ Below w0.heap.size w0 w' ∧ KeepsBut v w w' :=
  (appendTo_any oc dst src off imm w w0.heap.size v L hown hl hB.size).mono fun _ _ ⟨v', he, ho, hb, hk⟩ => ⟨v', he, ho, hB.trans hb, hk⟩
theorem OwnB.below {w w' : World} {base : Nat} {v : Value} {L : List Int} (h : OwnB w base v L) (hb : Below w.heap.size w w') : OwnB w' base v L := by
  refine ⟨h.1, ?_⟩
  rcases h.2 with h1 | ⟨g, cap, cur, hv, hg, hh, h1⟩
  · exact .inl h1
  · have hlt : g < w.heap.size := by
      rcases Nat.lt_or_ge g w.heap.size with h2 | h2
      · exact h2
      · rw [Array.getElem?_eq_none h2] at hh; cases hh
    exact .inr ⟨g, cap, cur, hv, hg, (hb.block g hlt).trans hh, h1⟩
theorem OwnB.ne {w : World} {base b : Nat} {v : Value} {L : List Int} (h : OwnB w base v L) (hb : w.heap.size ≤ b) : some b ≠ v.ownBlock := fun e => by
  have := (World.ownsRow.lt h b e.symm).2
  omega

set_option maxRecDepth 100000 in
set_option maxHeartbeats 4000000 in
theorem encode_ok (w : World) (A : Option Addr) (n c : Nat) (L : List Ins) (hL : L.length = n) (hn : n ≤ 140737488355328) (h : CodeAt w A L) (ht : Tabs w) (h0 : (checkL L 0).2 = 0) :
    Calls Tryd.prog 30 #[.slice A n c] w fun e w' => ∃ v, e = .returned (.tuple #[v, .int .i64 0, .int .i64 0]) ∧ OwnB w' w.heap.size v (encB L) ∧ Below w.heap.size w w' := by
  obtain ⟨hr, hlen, h1⟩ := check_ok L 0 h0
  have hn4 : n ≤ 4096 := by have := hlen (by omega); omega
  have HC := Lib.hid (check_any w A n c L hL hn h)
  rw [h0, h1] at HC
  have HA := Lib.hid h
  have HL := Lib.hid hL
  have HR := Lib.hid hr
  have HT := Lib.hid ht
  have hmk : ∀ w, (Instr.makeSlice 22 (.int .i64 0) (.int .i64 (8 * (n : Int)))).run Tryd.prog w = .ok (.slice (some ⟨w.heap.size, 0, none⟩) 0 (8 * n)) (w.alloc (.cells ((zerosL (8 * n)).map (Value.int .u8)).toArray 5)) := fun w => by
    have := make_cap (8 * n) (by omega) w
    simpa using this
  have HMK := Lib.hid hmk
  clear hmk hr hlen h1 h0 h hL ht
  go_enter Tryd.func30, Tryd.ntmps30
  go_wp2_with fail
  refine HC.out.mono ?_
  rintro e w1 ⟨rfl, hB1⟩
  have hmk := HMK.out
  go_wp2_with fail
  clear hmk
  have hown0 := ownB_made w1 (8 * n) (by omega)
  have hown1 : OwnB (w1.alloc (.cells ((zerosL (8 * n)).map (Value.int .u8)).toArray 5)) w.heap.size (.slice (some ⟨w1.heap.size, 0, none⟩) 0 (8 * n)) [] := by
    have hs := hB1.size
    refine ⟨hown0.1, ?_⟩
    rcases hown0.2 with h1 | ⟨g, cap, cur, hv, hg, hh, h1⟩
    · exact .inl h1
    · exact .inr ⟨g, cap, cur, hv, by omega, hh, h1⟩
  have hB2 := hB1.alloc hB1.size (.cells ((zerosL (8 * n)).map (Value.int .u8)).toArray 5)
  clear hown0 hB1
  generalize (w1.alloc (.cells ((zerosL (8 * n)).map (Value.int .u8)).toArray 5)) = w2 at *
  generalize w1.heap.size = g0 at *
  clear HC HMK
  go_loopw [2, 6, 22] (fun v _ i wr => ∃ j : Nat, j ≤ n ∧ i = .int .i64 j ∧ OwnB wr w.heap.size v (encB (L.take j)) ∧ Below w.heap.size w wr) (fun _ _ i _ => (n - intOf i).toNat)
  case atStart => exact ⟨0, Nat.zero_le _, rfl, hown1, hB2⟩
  case round =>
    clear hown1 hB2
    obtain ⟨j, hj, rfl, hown, hB⟩ := hrel
    by_cases hlt : j < n
    · have hlt' : (j : Int) < n := by omega
      obtain ⟨b, off, rfl, hbl, hc⟩ := HA.out (by have := HL.out; omega)
      obtain ⟨i, hi⟩ : ∃ i, L[j]? = some i := ⟨L[j]'(by have := HL.out; omega), List.getElem?_eq_getElem _⟩
      have hx := (hc j i hi).below hB hbl
      have him : i ∈ L := List.mem_of_getElem? hi
      have hfit := fit_of (HR.out i him)
      have htk : encB (L.take (j + 1)) = encB (L.take j) ++ insB i := by
        rw [List.take_add_one, hi, encB_append]
        simp [encB]
      have hlen : (encB (L.take j)).length ≤ 65536 := by
        have := encB_length (L.take j)
        have := List.length_take_le j L
        omega
      have HTK := Lib.hid htk
      have HF := Lib.hid (fun w ht => first_any i hfit w ht)
      have hib : insB i = unitB i.oc i.dst (firstS i) (firstO i) (firstI i) ++ (if isLong i = true then unitB 0 0 0 0 (secondI i) else []) := rfl
      obtain ⟨x0, x1, x2, x3, x4, x5, x6, x7⟩ := hx
      have HSI := Lib.hid (show secondI i = if i.op = 20 then i.imm / 4294967296 else i.imm from rfl)
      have HLO := Lib.hid (show isLong i = (i.op == 20 || i.op == 21) from rfl)
      have HIB := Lib.hid hib
      clear hc hi him hfit htk hib
      generalize firstS i = fs at *
      generalize firstO i = fo at *
      generalize firstI i = fi at *
      generalize i.oc = oc at *
      generalize insB i = ib at *
      generalize secondI i = si at *
      generalize isLong i = lo at *
      obtain ⟨op, nar, reg, size, dst, src, io, imm⟩ := i
      simp only at x0 x1 x2 x3 x4 x5 x6 x7
      generalize encB (L.take j) = EB at *
      have hbx : Blk (wr.alloc (.cells #[.int .i64 op, .bool nar, .bool reg, .int .i64 size, .int .i64 dst, .int .i64 src, .int .i64 io, .int .i64 imm] 71)) wr.heap.size 71 #[.int .i64 op, .bool nar, .bool reg, .int .i64 size, .int .i64 dst, .int .i64 src, .int .i64 io, .int .i64 imm] := Blk.new _ _ _
      have hBx := hB.alloc hB.size (.cells #[.int .i64 op, .bool nar, .bool reg, .int .i64 size, .int .i64 dst, .int .i64 src, .int .i64 io, .int .i64 imm] 71)
      have hox : OwnB (wr.alloc (.cells #[.int .i64 op, .bool nar, .bool reg, .int .i64 size, .int .i64 dst, .int .i64 src, .int .i64 io, .int .i64 imm] 71)) w.heap.size _ EB := hown.alloc (.cells #[.int .i64 op, .bool nar, .bool reg, .int .i64 size, .int .i64 dst, .int .i64 src, .int .i64 io, .int .i64 imm] 71)
      have hnx := hown.ne (Nat.le_refl _)
      have HBX := Lib.hid hbx
      have HBB := Lib.hid hBx
      have HOX := Lib.hid hox
      clear hbx hBx hox hown hB
      go_wp2_with fail
      refine (HF.out _ (HT.out.below HBB.out)).mono ?_
      rintro e w3 ⟨rfl, hB3⟩
      have hb3 := HBX.out.below hB3 (by simp)
      have ho3 := HOX.out.below hB3
      have hB3' := HBB.out.trans (hB3.mono HBB.out.size)
      have hs3 : wr.heap.size < w3.heap.size := hb3.lt
      have HO3 := Lib.hid ho3
      have HB3 := Lib.hid hB3'
      have HB3b := Lib.hid hb3
      clear hb3 ho3 hB3' hB3 HBX HBB HOX x0 x1 x2 x3 x4 x5 x6 x7 HF
      go_wp2_with fail
      refine (appendTo_b oc dst fs fo fi w w3 _ EB HO3.out (by omega) HB3.out).mono ?_
      rintro e w4 ⟨v4, rfl, ho4, hB4, hK4⟩
      have hb4 : Blk w4 wr.heap.size 71 #[.int .i64 op, .bool nar, .bool reg, .int .i64 size, .int .i64 dst, .int .i64 src, .int .i64 io, .int .i64 imm] := (hK4 _ hs3 hnx).trans HB3b.out
      obtain ⟨q0, q1, q2, q3, q4, q5, q6, q7⟩ := box8 op nar reg size dst src io imm hb4
      have HO4 := Lib.hid ho4
      have HB4 := Lib.hid hB4
      have HLG := Lib.hid (fun w => long_any op w)
      have hlo : lo = (op == 20 || op == 21) := HLO.out
      rw [← hlo] at HLG
      clear ho4 hB4 hK4 hb4 HO3 HB3 HB3b hlo
      cases lo
      · have hib2 := HIB.out
        rw [if_neg Bool.false_ne_true, List.append_nil] at hib2
        have HE := Lib.hid hib2
        clear hib2
        go_wp2_with fail
        refine (HLG.out _).mono ?_
        rintro e w' ⟨rfl, rfl⟩
        go_wp2_with fail
        go_roundw
        case rel => exact ⟨j + 1, by omega, by go_num, by rw [HTK.out, HE.out]; exact HO4.out, HB4.out⟩
        case measure => simp [intOf]; omega
      · have hib2 := HIB.out
        rw [if_pos rfl] at hib2
        have HE := Lib.hid hib2
        clear hib2
        go_wp2_with fail
        refine (HLG.out _).mono ?_
        rintro e w' ⟨rfl, rfl⟩
        have HS := Lib.hid (second_any op nar reg size dst src io imm w4)
        have hsi : si = if op = 20 then imm / 4294967296 else imm := HSI.out
        rw [← hsi] at HS
        clear hsi
        go_wp2_with fail
        refine HS.out.mono ?_
        rintro e w5 ⟨rfl, hB5⟩
        have HO5 := Lib.hid (HO4.out.below hB5)
        have HB5 := Lib.hid (HB4.out.trans (hB5.mono HB4.out.size))
        clear hB5 HS q0 q1 q2 q3 q4 q5 q6 q7
        go_wp2_with fail
        refine (appendTo_b 0 0 0 0 si w w5 _ _ HO5.out (by simp [unitB]; omega) HB5.out).mono ?_
        rintro e w6 ⟨v6, rfl, ho6, hB6, _⟩
        go_wp2_with fail
        go_roundw
        case rel => exact ⟨j + 1, by omega, by go_num, by rw [HTK.out, HE.out, ← List.append_assoc]; exact ho6, hB6⟩
        case measure => simp [intOf]; omega
    · have hlt' : decide (j < n) = false := by simp; omega
      have hv : L.take j = L := List.take_of_length_le (by have := HL.out; omega)
      rw [hv] at hown
      have HO := Lib.hid hown
      clear hown hv
      go_wp2_with fail
      go_ret3
      exact ⟨_, rfl, HO.out, hB⟩
theorem encode_no (w : World) (A : Option Addr) (n c : Nat) (L : List Ins) (hL : L.length = n) (hn : n ≤ 140737488355328) (h : CodeAt w A L) (h0 : (checkL L 0).2 ≠ 0) :
    Calls Tryd.prog 30 #[.slice A n c] w fun e w' => e = .returned (.tuple #[.slice none 0 0, .int .i64 (checkL L 0).1, .int .i64 (checkL L 0).2]) ∧ Below w.heap.size w w' := by
  have HC := Lib.hid (check_any w A n c L hL hn h)
  have t : ((checkL L 0).2 != 0) = true := by rw [bne_iff_ne]; exact h0
  clear h0 h hL
  generalize (checkL L 0).1 = at_ at *
  generalize (checkL L 0).2 = e_ at *
  go_enter Tryd.func30, Tryd.ntmps30
  go_wp2_with fail
  refine HC.out.mono ?_
  rintro e w1 ⟨rfl, hB1⟩
  go_wp2_with fail
  go_ret3
  exact ⟨rfl, hB1⟩
end Go.Proofs.YtlodoinmippebaaDoor
