/- CodeAlone: its walk. -/
import Derived.Test.YtkpmhkoicdglbaaDoorCodeO
namespace Go.Proofs.YtkpmhkoicdglbaaDoor
open Go.ChangeShapes Go.WideShapes Go.ChangeAt Go.RowKit
open Cod Bits
set_option linter.unusedVariables false

/-- what Check says of a list, place by place -/
theorem check_at : ∀ (L : List Ins) (n : Nat), n ≤ 4096 →
    (checkL L n = (0, 0) ∧ (∀ i ∈ L, i.wrong = 0) ∧ n + L.length ≤ 4096) ∨
    ∃ k i, L[k]? = some i ∧ (∀ j i', j < k → L[j]? = some i' → i'.wrong = 0) ∧
      ((n + k = 4096 ∧ checkL L n = (((n + k : Nat) : Int), 25)) ∨ (n + k < 4096 ∧ i.wrong ≠ 0 ∧ checkL L n = (((n + k : Nat) : Int), i.wrong)))
  | [], n, hn => .inl ⟨rfl, fun i hi => by simp at hi, by simpa using hn⟩
  | i :: t, n, hn => by
    by_cases h1 : n = 4096
    · refine .inr ⟨0, i, rfl, fun j i' hj => by omega, .inl ⟨by omega, ?_⟩⟩
      unfold checkL
      rw [if_pos h1]; rfl
    · by_cases h2 : i.wrong = 0
      · have e : checkL (i :: t) n = checkL t (n + 1) := by
          rw [checkL, if_neg h1, if_pos h2]
        rw [e]
        rcases check_at t (n + 1) (by omega) with ⟨a, b, c⟩ | ⟨k, i', a, b, c⟩
        · exact .inl ⟨a, fun x hx => by
            rcases List.mem_cons.1 hx with rfl | hx
            · exact h2
            · exact b x hx, by rw [List.length_cons]; omega⟩
        · refine .inr ⟨k + 1, i', by simpa using a, fun j x hj hx => ?_, ?_⟩
          · cases j with
            | zero => obtain rfl : i = x := by simpa using hx
                      exact h2
            | succ j => exact b j x (by omega) (by simpa using hx)
          · rw [show n + (k + 1) = n + 1 + k by omega]; exact c
      · refine .inr ⟨0, i, rfl, fun j i' hj => by omega, .inr ⟨by omega, h2, ?_⟩⟩
        unfold checkL
        rw [if_neg h1, if_neg h2]; rfl
theorem check_one (i : Ins) : checkL [i] 0 = if i.wrong = 0 then (0, 0) else (0, i.wrong) := rfl
theorem single_at (w : World) (i : Ins) : CodeAt (w.alloc (.cells i.cells.toArray 39)) (some ⟨w.heap.size, 0, none⟩) [i] := codeAt_cells (by simp) fun m v hm => by
  rw [(Blk.new w 39 i.cells.toArray).cell m]
  simpa using hm
theorem encB_take {L : List Ins} {j : Nat} {i : Ins} (h : L[j]? = some i) : encB (L.take (j + 1)) = encB (L.take j) ++ encB [i] := by
  rw [take_next L j i h, encB_append]
theorem encB_small (L : List Ins) (j : Nat) (h : j ≤ 4096) : (encB (L.take j)).length ≤ 65536 := by
  have := encB_length (L.take j)
  have h2 : (L.take j).length ≤ j := by rw [List.length_take]; omega
  omega
set_option maxHeartbeats 4000000 in
theorem codeAlone_done (w : World) (A : Option Addr) (n c : Nat) (L : List Ins) (hL : L.length = n) (hn : n ≤ 140737488355328) (h : CodeAt w A L) (hr : ∀ i ∈ L, i.rng) (ht : Tabs w) (hck : checkL L 0 = (0, 0)) (hg0 : ∀ i ∈ L, i.wrong = 0) (hn4 : n ≤ 4096) :
    Calls Tryd.prog 7 #[.slice A n c] w fun e w' => e = .returned (.bool true) ∧ Below w.heap.size w w' := by
  have hg := good_all (by rw [hck]) hr
  have HK := Lib.hid (known_any w ht)
  have HE := Lib.hid (fun w1 (hB : Below w.heap.size w w1) => encode_ok w1 A n c L hL hn (h.below hB) (ht.below hB) (by rw [hck]))
  have HBL := Lib.hid (encB_bytes L hg)
  have HT := Lib.hid ht
  have HA := Lib.hid h
  obtain ⟨K, hKn⟩ : ∃ K, K = n := ⟨n, rfl⟩
  have HL := Lib.hid (show L.length = n ∧ K ≤ n ∧ K ≤ 4096 from ⟨hL, by omega, by omega⟩)
  have hk4 := HL.out.2.2
  have HG := Lib.hid (show ∀ j i, j < K → L[j]? = some i → i.wrong = 0 from fun j i _ hi => hg0 i (List.mem_of_getElem? hi))
  clear h hr ht hck hg hg0 hL
  go_enter Tryd.func7, Tryd.ntmps7
  go_wp2_with fail
  refine HK.out.mono ?_
  rintro e w1 ⟨rfl, hB1⟩
  have HE1 := Lib.hid (HE.out w1 hB1)
  have HB1 := Lib.hid hB1
  clear HE HK hB1
  go_wp2_with fail
  go_at_call 11
  refine HE1.out.mono ?_
  rintro e w2 ⟨v, rfl, hown, hB2⟩
  obtain ⟨A2, c2, rfl, hlf⟩ := ownB_left hown HBL.out
  have HLF := Lib.hid hlf
  have HB2 := Lib.hid (HB1.out.trans (hB2.mono HB1.out.size))
  clear hown hlf hB2 HB1 HE1
  generalize hml : (encB L).length = ml at *
  have HML := Lib.hid hml
  clear hml
  go_wp2_with fail
  go_loopw [6, 7] (fun v i wr => ∃ j : Nat, j ≤ K ∧ i = .int .i64 j ∧ OwnB wr w2.heap.size v (encB (L.take j)) ∧ Below w2.heap.size w2 wr) (fun _ i _ => (K - intOf i).toNat)
  case atStart => exact ⟨0, Nat.zero_le _, rfl, OwnB.nil _ _, Below.refl _ _⟩
  case round =>
    obtain ⟨j, hj, rfl, hown, hB⟩ := hrel
    by_cases hlt : j < K
    · have hjn : (j : Int) < n := by have := HL.out; omega
      have h96 : ((j : Int) == 4096) = false := by rw [beq_eq_false_iff_ne]; omega
      obtain ⟨b, off, rfl, hbl, hc⟩ := HA.out (by have := HL.out; omega)
      obtain ⟨i, hi⟩ : ∃ i, L[j]? = some i := ⟨L[j]'(by have := HL.out; omega), List.getElem?_eq_getElem _⟩
      have hwr := HG.out j i hlt hi
      have hbw := HB2.out.trans (hB.mono HB2.out.size)
      have hx := (hc j i hi).below hbw hbl
      have hbx := below_box wr (.cells i.cells.toArray 39)
      have HEN := Lib.hid (encode_ok (wr.alloc (.cells i.cells.toArray 39)) (some ⟨wr.heap.size, 0, none⟩) 1 1 [i] rfl (by decide) (single_at wr i) ((HT.out.below hbw).below hbx) (by rw [check_one, if_pos hwr]))
      have HTK := Lib.hid (encB_take hi)
      have HOW := Lib.hid (hown.below hbx)
      have HBX := Lib.hid (hB.trans (hbx.mono hB.size))
      obtain ⟨A1, c1, rfl, -⟩ := hown.form
      clear hc hi hwr hbw hbx hown hB
      obtain ⟨op, nar, reg, size, dst, src, io, imm⟩ := i
      obtain ⟨x0, x1, x2, x3, x4, x5, x6, x7⟩ := hx
      simp only at x0 x1 x2 x3 x4 x5 x6 x7
      simp only [Ins.cells] at HEN HOW HBX
      go_wp2_with fail
      go_at_call 11
      refine HEN.out.mono ?_
      rintro e w4 ⟨v4, rfl, hown4, hB4⟩
      obtain ⟨A4, c4, rfl, hby4⟩ := hown4.form
      have how4 := HOW.out.below hB4
      have hb4 := HBX.out.trans (hB4.mono HBX.out.size)
      have hlen : (encB (L.take j)).length + (encB [(⟨op, nar, reg, size, dst, src, io, imm⟩ : Ins)]).length ≤ 140737488355328 := by
        have h1 := encB_small L (j + 1) (by omega)
        rw [HTK.out, List.length_append] at h1
        omega
      clear hown4 hB4 HEN HOW HBX x0 x1 x2 x3 x4 x5 x6 x7
      go_wp2_with (at_builtin; (refine append_bytes Tryd.underlying24 byte_info _ rfl (.tmp 61) (.tmp 62) rfl w2.heap.size _ _ rfl how4 _ _ _ _ rfl rfl hby4 hlen hb4.size ?_; intro v5 w5 hown5 hB5))
      rw [← HTK.out] at hown5
      have hb5 := hb4.trans hB5
      go_roundw
      case rel => exact ⟨j + 1, by omega, by go_num, hown5, hb5⟩
      case measure => simp [intOf]; omega
    · obtain rfl : j = K := by omega
      have hjn : decide ((j : Int) < n) = false := decide_eq_false (by omega)
      have htk : L.take j = L := List.take_of_length_le (by have := HL.out; omega)
      rw [htk] at hown
      obtain ⟨A5, c5, rfl, hlf5⟩ := ownB_left hown HBL.out
      have hbw := HB2.out.trans (hB.mono HB2.out.size)
      have HSB := Lib.hid (sameBytes_both wr A2 ml c2 A5 (encB L).length c5 (encB L) (encB L) HML.out rfl (HLF.out.up hB).bytes hlf5.bytes HBL.out HBL.out)
      rw [decide_eq_true rfl] at HSB
      have HBW := Lib.hid hbw
      clear hown hlf5 hbw hB htk
      generalize (encB L).length = ml2 at *
      go_wp2_with fail
      go_at_call 16
      refine HSB.out.mono ?_
      rintro e w6 ⟨rfl, rfl⟩
      go_wp2_with fail
      go_ret
      exact ⟨rfl, HBW.out⟩
set_option maxHeartbeats 4000000 in
theorem codeAlone_many (w : World) (A : Option Addr) (n c : Nat) (L : List Ins) (hL : L.length = n) (hn : n ≤ 140737488355328) (h : CodeAt w A L) (ht : Tabs w) (K : Nat) (hK : K = 4096) (hKn : K < n) (hck : checkL L 0 = ((K : Int), 25)) (hg : ∀ j i, j < K → L[j]? = some i → i.wrong = 0) :
    Calls Tryd.prog 7 #[.slice A n c] w fun e w' => e = .returned (.bool true) ∧ Below w.heap.size w w' := by
  have HK := Lib.hid (known_any w ht)
  have HE := Lib.hid (fun w1 (hB : Below w.heap.size w w1) => encode_no w1 A n c L hL hn (h.below hB) (by rw [hck]; show (25 : Int) ≠ 0; decide))
  rw [hck] at HE
  have HT := Lib.hid ht
  have HA := Lib.hid h
  have HL := Lib.hid (show L.length = n ∧ K ≤ n ∧ K ≤ 4096 from ⟨hL, by omega, by omega⟩)
  have HG := Lib.hid hg
  clear h ht hck hg hL
  go_enter Tryd.func7, Tryd.ntmps7
  go_wp2_with fail
  refine HK.out.mono ?_
  rintro e w1 ⟨rfl, hB1⟩
  have HE1 := Lib.hid (HE.out w1 hB1)
  have HB1 := Lib.hid hB1
  clear HE HK hB1
  go_wp2_with fail
  go_at_call 11
  refine HE1.out.mono ?_
  rintro e w2 ⟨rfl, hB2⟩
  have HB2 := Lib.hid (HB1.out.trans (hB2.mono HB1.out.size))
  clear hB2 HB1 HE1
  go_wp2_with fail
  go_loopw [6, 7] (fun v i wr => ∃ j : Nat, j ≤ K ∧ i = .int .i64 j ∧ OwnB wr w2.heap.size v (encB (L.take j)) ∧ Below w2.heap.size w2 wr) (fun _ i _ => (K - intOf i).toNat)
  case atStart => exact ⟨0, Nat.zero_le _, rfl, OwnB.nil _ _, Below.refl _ _⟩
  case round =>
    obtain ⟨j, hj, rfl, hown, hB⟩ := hrel
    by_cases hlt : j < K
    · have hjn : (j : Int) < n := by have := HL.out; omega
      have h96 : ((j : Int) == 4096) = false := by rw [beq_eq_false_iff_ne]; omega
      obtain ⟨b, off, rfl, hbl, hc⟩ := HA.out (by have := HL.out; omega)
      obtain ⟨i, hi⟩ : ∃ i, L[j]? = some i := ⟨L[j]'(by have := HL.out; omega), List.getElem?_eq_getElem _⟩
      have hwr := HG.out j i hlt hi
      have hbw := HB2.out.trans (hB.mono HB2.out.size)
      have hx := (hc j i hi).below hbw hbl
      have hbx := below_box wr (.cells i.cells.toArray 39)
      have HEN := Lib.hid (encode_ok (wr.alloc (.cells i.cells.toArray 39)) (some ⟨wr.heap.size, 0, none⟩) 1 1 [i] rfl (by decide) (single_at wr i) ((HT.out.below hbw).below hbx) (by rw [check_one, if_pos hwr]))
      have HTK := Lib.hid (encB_take hi)
      have HOW := Lib.hid (hown.below hbx)
      have HBX := Lib.hid (hB.trans (hbx.mono hB.size))
      obtain ⟨A1, c1, rfl, -⟩ := hown.form
      clear hc hi hwr hbw hbx hown hB
      obtain ⟨op, nar, reg, size, dst, src, io, imm⟩ := i
      obtain ⟨x0, x1, x2, x3, x4, x5, x6, x7⟩ := hx
      simp only at x0 x1 x2 x3 x4 x5 x6 x7
      simp only [Ins.cells] at HEN HOW HBX
      go_wp2_with fail
      go_at_call 11
      refine HEN.out.mono ?_
      rintro e w4 ⟨v4, rfl, hown4, hB4⟩
      obtain ⟨A4, c4, rfl, hby4⟩ := hown4.form
      have how4 := HOW.out.below hB4
      have hb4 := HBX.out.trans (hB4.mono HBX.out.size)
      have hlen : (encB (L.take j)).length + (encB [(⟨op, nar, reg, size, dst, src, io, imm⟩ : Ins)]).length ≤ 140737488355328 := by
        have h1 := encB_small L (j + 1) (by omega)
        rw [HTK.out, List.length_append] at h1
        omega
      clear hown4 hB4 HEN HOW HBX x0 x1 x2 x3 x4 x5 x6 x7
      go_wp2_with (at_builtin; (refine append_bytes Tryd.underlying24 byte_info _ rfl (.tmp 61) (.tmp 62) rfl w2.heap.size _ _ rfl how4 _ _ _ _ rfl rfl hby4 hlen hb4.size ?_; intro v5 w5 hown5 hB5))
      rw [← HTK.out] at hown5
      have hb5 := hb4.trans hB5
      go_roundw
      case rel => exact ⟨j + 1, by omega, by go_num, hown5, hb5⟩
      case measure => simp [intOf]; omega
    · obtain rfl : j = K := by omega
      have hjn : (j : Int) < n := by omega
      have h96 : ((j : Int) == 4096) = true := by rw [beq_iff_eq]; omega
      have HBW := Lib.hid (HB2.out.trans (hB.mono HB2.out.size))
      obtain ⟨A1, c1, rfl, -⟩ := hown.form
      clear hown hB
      go_wp2_with fail
      go_ret
      exact ⟨rfl, HBW.out⟩
set_option maxHeartbeats 4000000 in
theorem codeAlone_wrong (w : World) (A : Option Addr) (n c : Nat) (L : List Ins) (hL : L.length = n) (hn : n ≤ 140737488355328) (h : CodeAt w A L) (ht : Tabs w) (K : Nat) (hK : K < 4096) (hKn : K < n) (I : Ins) (hI : L[K]? = some I) (hw : I.wrong ≠ 0) (hck : checkL L 0 = ((K : Int), I.wrong)) (hg : ∀ j i, j < K → L[j]? = some i → i.wrong = 0) :
    Calls Tryd.prog 7 #[.slice A n c] w fun e w' => e = .returned (.bool true) ∧ Below w.heap.size w w' := by
  have HK := Lib.hid (known_any w ht)
  have HE := Lib.hid (fun w1 (hB : Below w.heap.size w w1) => encode_no w1 A n c L hL hn (h.below hB) (by rw [hck]; exact hw))
  rw [hck] at HE
  have HT := Lib.hid ht
  have HA := Lib.hid h
  have HL := Lib.hid (show L.length = n ∧ K ≤ n ∧ K ≤ 4096 from ⟨hL, by omega, by omega⟩)
  have HG := Lib.hid hg
  have HI := Lib.hid (show L[K]? = some I ∧ I.wrong ≠ 0 from ⟨hI, hw⟩)
  clear h ht hck hg hL hI hw
  go_enter Tryd.func7, Tryd.ntmps7
  go_wp2_with fail
  refine HK.out.mono ?_
  rintro e w1 ⟨rfl, hB1⟩
  have HE1 := Lib.hid (HE.out w1 hB1)
  have HB1 := Lib.hid hB1
  clear HE HK hB1
  go_wp2_with fail
  go_at_call 11
  refine HE1.out.mono ?_
  rintro e w2 ⟨rfl, hB2⟩
  have HB2 := Lib.hid (HB1.out.trans (hB2.mono HB1.out.size))
  clear hB2 HB1 HE1
  generalize hW0 : I.wrong = W0 at *
  have HW0 := Lib.hid hW0
  clear hW0
  go_wp2_with fail
  go_loopw [6, 7] (fun v i wr => ∃ j : Nat, j ≤ K ∧ i = .int .i64 j ∧ OwnB wr w2.heap.size v (encB (L.take j)) ∧ Below w2.heap.size w2 wr) (fun _ i _ => (K - intOf i).toNat)
  case atStart => exact ⟨0, Nat.zero_le _, rfl, OwnB.nil _ _, Below.refl _ _⟩
  case round =>
    obtain ⟨j, hj, rfl, hown, hB⟩ := hrel
    by_cases hlt : j < K
    · have hjn : (j : Int) < n := by have := HL.out; omega
      have h96 : ((j : Int) == 4096) = false := by rw [beq_eq_false_iff_ne]; omega
      obtain ⟨b, off, rfl, hbl, hc⟩ := HA.out (by have := HL.out; omega)
      obtain ⟨i, hi⟩ : ∃ i, L[j]? = some i := ⟨L[j]'(by have := HL.out; omega), List.getElem?_eq_getElem _⟩
      have hwr := HG.out j i hlt hi
      have hbw := HB2.out.trans (hB.mono HB2.out.size)
      have hx := (hc j i hi).below hbw hbl
      have hbx := below_box wr (.cells i.cells.toArray 39)
      have HEN := Lib.hid (encode_ok (wr.alloc (.cells i.cells.toArray 39)) (some ⟨wr.heap.size, 0, none⟩) 1 1 [i] rfl (by decide) (single_at wr i) ((HT.out.below hbw).below hbx) (by rw [check_one, if_pos hwr]))
      have HTK := Lib.hid (encB_take hi)
      have HOW := Lib.hid (hown.below hbx)
      have HBX := Lib.hid (hB.trans (hbx.mono hB.size))
      obtain ⟨A1, c1, rfl, -⟩ := hown.form
      clear hc hi hwr hbw hbx hown hB
      obtain ⟨op, nar, reg, size, dst, src, io, imm⟩ := i
      obtain ⟨x0, x1, x2, x3, x4, x5, x6, x7⟩ := hx
      simp only at x0 x1 x2 x3 x4 x5 x6 x7
      simp only [Ins.cells] at HEN HOW HBX
      go_wp2_with fail
      go_at_call 11
      refine HEN.out.mono ?_
      rintro e w4 ⟨v4, rfl, hown4, hB4⟩
      obtain ⟨A4, c4, rfl, hby4⟩ := hown4.form
      have how4 := HOW.out.below hB4
      have hb4 := HBX.out.trans (hB4.mono HBX.out.size)
      have hlen : (encB (L.take j)).length + (encB [(⟨op, nar, reg, size, dst, src, io, imm⟩ : Ins)]).length ≤ 140737488355328 := by
        have h1 := encB_small L (j + 1) (by omega)
        rw [HTK.out, List.length_append] at h1
        omega
      clear hown4 hB4 HEN HOW HBX x0 x1 x2 x3 x4 x5 x6 x7
      go_wp2_with (at_builtin; (refine append_bytes Tryd.underlying24 byte_info _ rfl (.tmp 61) (.tmp 62) rfl w2.heap.size _ _ rfl how4 _ _ _ _ rfl rfl hby4 hlen hb4.size ?_; intro v5 w5 hown5 hB5))
      rw [← HTK.out] at hown5
      have hb5 := hb4.trans hB5
      go_roundw
      case rel => exact ⟨j + 1, by omega, by go_num, hown5, hb5⟩
      case measure => simp [intOf]; omega
    · obtain rfl : j = K := by omega
      have hjn : (j : Int) < n := by omega
      have h96 : ((j : Int) == 4096) = false := by rw [beq_eq_false_iff_ne]; omega
      obtain ⟨b, off, rfl, hbl, hc⟩ := HA.out (by have := HL.out; omega)
      have hbw := HB2.out.trans (hB.mono HB2.out.size)
      have hx := (hc j I HI.out.1).below hbw hbl
      have hbx := below_box wr (.cells I.cells.toArray 39)
      have hwn : I.wrong ≠ 0 := by rw [HW0.out]; exact HI.out.2
      have HEN := Lib.hid (encode_no (wr.alloc (.cells I.cells.toArray 39)) (some ⟨wr.heap.size, 0, none⟩) 1 1 [I] rfl (by decide) (single_at wr I) (by rw [check_one, if_neg hwn]; exact hwn))
      rw [check_one, if_neg hwn, HW0.out] at HEN
      have t0 : (W0 != 0) = true := by rw [bne_iff_ne]; exact HI.out.2
      have HBX := Lib.hid (hbw.trans (hbx.mono hbw.size))
      obtain ⟨A1, c1, rfl, -⟩ := hown.form
      clear hc hbw hbx hown hB hwn HW0 HI HG
      obtain ⟨op, nar, reg, size, dst, src, io, imm⟩ := I
      obtain ⟨x0, x1, x2, x3, x4, x5, x6, x7⟩ := hx
      simp only at x0 x1 x2 x3 x4 x5 x6 x7
      simp only [Ins.cells] at HEN HBX
      go_wp2_with fail
      go_at_call 11
      refine HEN.out.mono ?_
      rintro e w4 ⟨rfl, hB4⟩
      have HB4 := Lib.hid (HBX.out.trans (hB4.mono HBX.out.size))
      clear hB4 HEN HBX x0 x1 x2 x3 x4 x5 x6 x7
      go_wp2_with fail
      go_ret
      exact ⟨by simp, HB4.out⟩
theorem codeAlone_walk (w : World) (A : Option Addr) (n c : Nat) (L : List Ins) (hL : L.length = n) (hn : n ≤ 140737488355328) (h : CodeAt w A L) (hr : ∀ i ∈ L, i.rng) (ht : Tabs w) :
    Calls Tryd.prog 7 #[.slice A n c] w fun e w' => e = .returned (.bool true) ∧ Below w.heap.size w w' := by
  rcases check_at L 0 (by decide) with ⟨a, b, d⟩ | ⟨k, i, a, b, ⟨d1, d2⟩ | ⟨d1, d2, d3⟩⟩
  · exact codeAlone_done w A n c L hL hn h hr ht a b (by omega)
  · have hk : k < L.length := by
      rcases Nat.lt_or_ge k L.length with h1 | h1
      · exact h1
      · rw [List.getElem?_eq_none h1] at a; cases a
    rw [Nat.zero_add] at d1 d2
    exact codeAlone_many w A n c L hL hn h ht k d1 (by omega) d2 b
  · have hk : k < L.length := by
      rcases Nat.lt_or_ge k L.length with h1 | h1
      · exact h1
      · rw [List.getElem?_eq_none h1] at a; cases a
    rw [Nat.zero_add] at d1 d3
    exact codeAlone_wrong w A n c L hL hn h ht k d1 (by omega) i a d2 d3 b
end Go.Proofs.YtkpmhkoicdglbaaDoor
