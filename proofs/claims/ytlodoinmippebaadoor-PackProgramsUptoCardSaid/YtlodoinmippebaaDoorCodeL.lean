/- Lists that are compared: instructions and bytes, the same or not. -/
import Derived.Test.YtlodoinmippebaaDoorCodeV
import Derived.Deep.QuietTactic
namespace Go.Proofs.YtlodoinmippebaaDoor
open Go.ChangeShapes Go.WideShapes Go.ChangeAt Go.RowKit
open Cod Bits
set_option linter.unusedVariables false
set_option linter.unusedSimpArgs false

theorem conv_zero (w : World) (p : Option Addr) (c : Nat) : (convert 22 9 (.slice p 0 c)).run Tryd.prog w = .ok (.string (strOfNums [])) w := by
  cases p with
  | none => exact run_convert_bytes_nil w 22 5 Tryd.underlying22 Tryd.underlying5 0 c 9 Tryd.underlying9
  | some a =>
    rw [run_convert_bytes_string w 22 9 5 _ 0 c Tryd.underlying22 Tryd.underlying5 Tryd.underlying9]
    simp [Conv.bytesToString, loadCells]
    rfl
theorem conv_any (w : World) (A : Option Addr) (n c : Nat) (L : List Int) (hL : L.length = n) (h : BytesAt w A L) :
    (convert 22 9 (.slice A n c)).run Tryd.prog w = .ok (.string (strOfNums L)) w := by
  rcases Nat.eq_zero_or_pos n with h0 | h0
  · subst h0
    obtain rfl : L = [] := List.eq_nil_of_length_eq_zero hL
    exact conv_zero w A c
  · exact conv_at w A n c L hL h0 h
theorem byte_inj {x y : Int} (hx : IsB x) (hy : IsB y) (h : UInt8.ofNat x.toNat = UInt8.ofNat y.toNat) : x = y := by
  unfold IsB at hx hy
  have h2 := congrArg UInt8.toNat h
  rw [UInt8.toNat_ofNat', UInt8.toNat_ofNat'] at h2
  omega
theorem bytes_inj : ∀ {L M : List Int}, BytesL L → BytesL M → L.map (fun n => UInt8.ofNat n.toNat) = M.map (fun n => UInt8.ofNat n.toNat) → L = M
  | [], [], _, _, _ => rfl
  | [], y :: t, _, _, h => by simp at h
  | x :: t, [], _, _, h => by simp at h
  | x :: s, y :: t, hL, hM, h => by
    rw [List.map_cons, List.map_cons, List.cons.injEq] at h
    rw [byte_inj (hL x (by simp)) (hM y (by simp)) h.1, bytes_inj (fun z hz => hL z (by simp [hz])) (fun z hz => hM z (by simp [hz])) h.2]
theorem str_inj {L M : List Int} (hL : BytesL L) (hM : BytesL M) (h : strOfNums L = strOfNums M) : L = M := by
  have h2 := congrArg (fun s => s.data.toList) h
  simp only [strOfNums_data] at h2
  exact bytes_inj hL hM h2
theorem lawBytes_both (w : World) (A : Option Addr) (n c : Nat) (A' : Option Addr) (n' c' : Nat) (L M : List Int) (hL : L.length = n) (hM : M.length = n') (h : BytesAt w A L) (h' : BytesAt w A' M) (bL : BytesL L) (bM : BytesL M) :
    Calls Tryd.prog 29 #[.slice A n c, .slice A' n' c'] w fun e w' => e = .returned (.bool (decide (L = M))) ∧ w = w' := by
  have H1 := conv_any w A n c L hL h
  have H2 := conv_any w A' n' c' M hM h'
  have hi : L = M ↔ strOfNums L = strOfNums M := ⟨fun e => by rw [e], str_inj bL bM⟩
  have hd : decide (L = M) = decide (strOfNums L = strOfNums M) := by simp only [hi]
  rw [hd]
  clear h h' hL hM bL bM hi hd
  generalize strOfNums L = S at *
  generalize strOfNums M = T at *
  by_cases hST : S = T
  · subst hST
    rw [decide_eq_true rfl]
    go_enter Tryd.func29, Tryd.ntmps29
    go_wp2
    go_ret
    exact ⟨rfl, rfl⟩
  · rw [decide_eq_false hST]
    have hST2 : (S.toList == T.toList) = false := by
      rw [beq_eq_false_iff_ne]
      intro e
      rw [ByteArray.toList_eq, ByteArray.toList_eq] at e
      exact hST (ByteArray.ext (Array.toList_inj.1 e))
    go_enter Tryd.func29, Tryd.ntmps29
    go_wp2
    go_ret
    exact ⟨rfl, rfl⟩
theorem eq_ins_ne (op : Int) (nar reg : Bool) (size dst src off imm : Int) (op' : Int) (nar' reg' : Bool) (size' dst' src' off' imm' : Int)
    (h : ¬ ((⟨op, nar, reg, size, dst, src, off, imm⟩ : Ins) = ⟨op', nar', reg', size', dst', src', off', imm'⟩)) (w : World) :
    (Op.equalIn 10000 71 (.agg #[.int .i64 op, .bool nar, .bool reg, .int .i64 size, .int .i64 dst, .int .i64 src, .int .i64 off, .int .i64 imm]) (.agg #[.int .i64 op', .bool nar', .bool reg', .int .i64 size', .int .i64 dst', .int .i64 src', .int .i64 off', .int .i64 imm'])).run Tryd.prog w = .ok false w := by
  have u3 := Tryd.underlying3
  have u4 := Tryd.underlying4
  have hS : Tryd.prog.underlying 71 = some (.struct (Tryd.prog.fieldsOf 71)) := by kernel_rfl
  rw [show (10000 : Nat) = 9999 + 1 from rfl, run_equalIn_struct w 9999 71 _ _ hS (by kernel_rfl)]
  simp only [Program.fieldsOf, Tryd.underlying71]
  go_simp
  intro h0 h1 h2 h3 h4 h5 h6 h7
  exact h (by rw [h0, h1, h2, h3, h4, h5, h6, h7])
theorem take_next {α : Type} (L : List α) (j : Nat) (x : α) (h : L[j]? = some x) : L.take (j + 1) = L.take j ++ [x] := by
  rw [List.take_add_one, h]; rfl
set_option maxHeartbeats 4000000 in
theorem lawCode_both (w : World) (A : Option Addr) (n c : Nat) (A' : Option Addr) (n' c' : Nat) (L M : List Ins) (hL : L.length = n) (hM : M.length = n') (hn : n ≤ 4611686018427387904) (h : CodeAt w A L) (h' : CodeAt w A' M) :
    Calls Tryd.prog 44 #[.slice A n c, .slice A' n' c'] w fun e w' => e = .returned (.bool (decide (L = M))) ∧ Below w.heap.size w w' := by
  by_cases hnn : n = n'
  · subst hnn
    have HA := Lib.hid h
    have HA' := Lib.hid h'
    have HL := Lib.hid hL
    have HM := Lib.hid hM
    clear h h' hL hM
    generalize hdd : decide (L = M) = d
    have HD := Lib.hid hdd
    clear hdd
    go_enter Tryd.func44, Tryd.ntmps44
    go_wp2_with fail
    go_loopw [5] (fun i wr => ∃ j : Nat, j ≤ n ∧ i = .int .i64 j ∧ L.take j = M.take j ∧ Below w.heap.size w wr) (fun i _ => (n - intOf i).toNat)
    case atStart => exact ⟨0, Nat.zero_le _, rfl, rfl, Below.refl _ _⟩
    case round =>
      obtain ⟨j, hj, rfl, hT, hB⟩ := hrel
      by_cases hlt : j < n
      · have hlt' : (j : Int) < n := by omega
        obtain ⟨b, off, rfl, hbl, hc⟩ := HA.out (by have := HL.out; omega)
        obtain ⟨b', off', rfl, hbl', hc'⟩ := HA'.out (by have := HM.out; omega)
        obtain ⟨i, hi⟩ : ∃ i, L[j]? = some i := ⟨L[j]'(by have := HL.out; omega), List.getElem?_eq_getElem _⟩
        obtain ⟨i', hi'⟩ : ∃ i, M[j]? = some i := ⟨M[j]'(by have := HM.out; omega), List.getElem?_eq_getElem _⟩
        have hx := (hc j i hi).below hB hbl
        have hy := (hc' j i' hi').below hB hbl'
        by_cases hii : i = i'
        · subst hii
          have HT := Lib.hid (show L.take (j + 1) = M.take (j + 1) by rw [take_next L j i hi, take_next M j i hi', hT])
          clear hc hc' hi hi' hT
          obtain ⟨op, nar, reg, size, dst, src, io, imm⟩ := i
          obtain ⟨x0, x1, x2, x3, x4, x5, x6, x7⟩ := hx
          obtain ⟨y0, y1, y2, y3, y4, y5, y6, y7⟩ := hy
          simp only at x0 x1 x2 x3 x4 x5 x6 x7 y0 y1 y2 y3 y4 y5 y6 y7
          have HB := Lib.hid hB
          clear hB
          go_wp2_with fail
          go_quiet (fail)
          go_wp2_with fail
          go_roundw
          case rel => exact ⟨j + 1, by omega, by go_num, HT.out, belowDrewN HB.out _⟩
          case measure => simp [intOf]; omega
        · have hne : L ≠ M := fun e => hii (by rw [e, hi'] at hi; exact (Option.some.inj hi).symm)
          obtain rfl : d = false := by rw [← HD.out]; exact decide_eq_false hne
          clear hc hc' hi hi' hT hne HD
          obtain ⟨op, nar, reg, size, dst, src, io, imm⟩ := i
          obtain ⟨op', nar', reg', size', dst', src', io', imm'⟩ := i'
          obtain ⟨x0, x1, x2, x3, x4, x5, x6, x7⟩ := hx
          obtain ⟨y0, y1, y2, y3, y4, y5, y6, y7⟩ := hy
          simp only at x0 x1 x2 x3 x4 x5 x6 x7 y0 y1 y2 y3 y4 y5 y6 y7
          have HQ := eq_ins_ne op nar reg size dst src io imm op' nar' reg' size' dst' src' io' imm' hii
          have HB := Lib.hid hB
          clear hB hii
          go_wp2_with fail
          go_quiet (fail)
          clear HQ
          go_wp2_with fail
          go_ret
          exact ⟨rfl, belowDrewN HB.out _⟩
      · have hlt' : decide ((j : Int) < n) = false := by simp; omega
        have hLM : L = M := by
          have h1 : L.take j = L := List.take_of_length_le (by have := HL.out; omega)
          have h2 : M.take j = M := List.take_of_length_le (by have := HM.out; omega)
          rw [← h1, ← h2, hT]
        obtain rfl : d = true := by rw [← HD.out]; exact decide_eq_true hLM
        clear HD hLM
        go_wp2_with fail
        go_ret
        exact ⟨rfl, hB⟩
  · have hne : L ≠ M := fun e => hnn (by rw [← hL, ← hM, e])
    rw [decide_eq_false hne]
    have hnn' : ((n : Int) != (n' : Int)) = true := by rw [bne_iff_ne]; omega
    clear h h' hL hM hne
    go_enter Tryd.func44, Tryd.ntmps44
    go_wp2_with fail
    go_ret
    exact ⟨rfl, Below.refl _ _⟩
end Go.Proofs.YtlodoinmippebaaDoor
