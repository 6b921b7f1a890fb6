/- Package deed: the mark; a deed is read. -/
import Derived.Test.YtbomihdnnidelaaDeI
import Derived.Test.YtbomihdnnidelaaDraw
namespace Go.Proofs.Ytbomihdnnidelaa
open Go.ChangeShapes Go.WideShapes Go.ChangeAt Go.RowKit
open Dee
set_option linter.unusedVariables false
set_option linter.unusedSimpArgs false
set_option maxRecDepth 100000
theorem conv_zero (w : World) (p : Option Addr) (c : Nat) : (convert 28 9 (.slice p 0 c)).run Try.prog w = .ok (.string (strOfNums [])) w := by
  cases p with
  | none => exact run_convert_bytes_nil w 28 5 Try.underlying28 Try.underlying5 0 c 9 Try.underlying9
  | some a =>
    rw [run_convert_bytes_string w 28 9 5 _ 0 c Try.underlying28 Try.underlying5 Try.underlying9]
    simp [Conv.bytesToString, loadCells]
    rfl
theorem conv_any (w : World) (A : Option Addr) (n c : Nat) (L : List Int) (hL : L.length = n) (h : BytesAt w A L) :
    (convert 28 9 (.slice A n c)).run Try.prog w = .ok (.string (strOfNums L)) w := by
  rcases Nat.eq_zero_or_pos n with h0 | h0
  · subst h0
    obtain rfl : L = [] := List.eq_nil_of_length_eq_zero hL
    exact conv_zero w A c
  · exact conv_at w A n c L hL h0 h
theorem byte_inj {x y : Int} (hx : IsB x) (hy : IsB y) (h : UInt8.ofNat x.toNat = UInt8.ofNat y.toNat) : x = y := by
  unfold IsB at hx hy
  have h2 := congrArg UInt8.toNat h
  rw [UInt8.toNat_ofNat', UInt8.toNat_ofNat'] at h2
  omega
theorem bytes_inj : ∀ {L M : List Int}, Bytes L → Bytes M → L.map (fun n => UInt8.ofNat n.toNat) = M.map (fun n => UInt8.ofNat n.toNat) → L = M
  | [], [], _, _, _ => rfl
  | [], y :: t, _, _, h => by simp at h
  | x :: t, [], _, _, h => by simp at h
  | x :: s, y :: t, hL, hM, h => by
    rw [List.map_cons, List.map_cons, List.cons.injEq] at h
    rw [byte_inj (hL x (by simp)) (hM y (by simp)) h.1, bytes_inj (fun z hz => hL z (by simp [hz])) (fun z hz => hM z (by simp [hz])) h.2]
theorem str_inj {L M : List Int} (hL : Bytes L) (hM : Bytes M) (h : strOfNums L = strOfNums M) : L = M := by
  have h2 := congrArg (fun s => s.data.toList) h
  simp only [strOfNums_data] at h2
  exact bytes_inj hL hM h2
theorem str_eq (L M : List Int) (hL : Bytes L) (hM : Bytes M) : ((strOfNums L).toList == (strOfNums M).toList) = decide (L = M) := by
  by_cases h : L = M
  · subst h
    rw [decide_eq_true rfl]; simp
  · rw [decide_eq_false h, beq_eq_false_iff_ne]
    intro e
    rw [ByteArray.toList_eq, ByteArray.toList_eq] at e
    exact h (str_inj hL hM (ByteArray.ext (Array.toList_inj.1 e)))
theorem sameBytes_any (w : World) (A : Option Addr) (n c : Nat) (A' : Option Addr) (n' c' : Nat) (L M : List Int) (hL : L.length = n) (hM : M.length = n') (h : BytesAt w A L) (h' : BytesAt w A' M) (bL : Bytes L) (bM : Bytes M) :
    Calls Try.prog 15 #[.slice A n c, .slice A' n' c'] w fun e w' => e = .returned (.bool (decide (L = M))) ∧ w = w' := by
  have H1 := conv_any w A n c L hL h
  have H2 := conv_any w A' n' c' M hM h'
  have HE := Lib.hid (str_eq L M bL bM)
  clear h h' hL hM bL bM
  generalize strOfNums L = S at *
  generalize strOfNums M = T at *
  go_enter Try.func15, Try.ntmps15
  go_wp2
  go_ret
  exact ⟨by rw [← HE.out]; rfl, rfl⟩
theorem mark_bytes : Bytes markL := mark_codec.bytes () trivial
theorem mark_lit : (strOfNums markL).toList = [87, 65, 82, 49] := by kernel_rfl
/-- how the reader of the mark ends -/
def MarkEnd (w : World) (g : Nat) (A : Option Addr) (n c : Nat) (B : List Int) (r : Rs Unit) (e : Ending) (w' : World) : Prop :=
  Touch g w w' ∧ match r with
  | .ok (_, t) => e = .returned (.tuple #[]) ∧ Rd w' g A n c B t
  | .error (lf, er) => e = .panicked (fltV ((n - lf : Nat) : Int) er)
set_option maxHeartbeats 2000000 in
theorem mark_any (w : World) (g : Nat) (A : Option Addr) (n c : Nat) (B : List Int) (hn : n ≤ 4194304) (hc : n ≤ c) (h : Rd w g A n c B B) :
    Calls Try.prog 57 #[.pointer (some ⟨g, 0, none⟩)] w (MarkEnd w g A n c B (markR B)) := by
  have HR := Lib.hid h
  have x0 : w.cell? ⟨g, 0, none⟩ = some (.slice A n c) := h.blk.cell 0
  have hln := h.len
  clear h
  go_enter Try.func57, Try.ntmps57
  by_cases h4 : n < 4
  · have HM := Lib.hid (show markR B = .error (0, 110) by unfold markR; rw [if_pos (by omega)])
    have t4 : decide (4 ≤ (n : Int)) = false := decide_eq_false (by omega)
    clear hln
    go_upto_region 0 with (fail)
    refine wp_region_tail 11 (by kernel_rfl) (by kernel_rfl) fun W hW => ?_
    simp only [List.take_succ_cons, List.take_zero, List.drop_succ_cons, List.drop_zero]
    have y0 : W.cell? ⟨g, 0, none⟩ = some (.slice A n c) := by rw [hW]; exact x0
    have HT := Lib.hid (show Touch g w W by rw [hW]; exact Touch.drewN w 1)
    clear x0 hW
    iterate 11 still_step
    refine wpStill_nil ?_
    go_wp2_with fail
    refine (need_no _ _ _).mono ?_
    rintro e w' ⟨rfl, rfl⟩
    exact ⟨rfl, by rw [HM.out]; exact ⟨HT.out, rfl⟩⟩
  · have h4' : 4 ≤ (n : Int) := by omega
    have t4 : decide (4 ≤ (n : Int)) = true := decide_eq_true h4'
    have hc4 : 4 ≤ (c : Int) := by omega
    go_upto_region 0 with (fail)
    refine wp_region_tail 11 (by kernel_rfl) (by kernel_rfl) fun W hW => ?_
    simp only [List.take_succ_cons, List.take_zero, List.drop_succ_cons, List.drop_zero]
    have y0 : W.cell? ⟨g, 0, none⟩ = some (.slice A n c) := by rw [hW]; exact x0
    have HT := Lib.hid (show Touch g w W by rw [hW]; exact Touch.drewN w 1)
    have hRW : Rd W g A n c B B := by rw [hW]; exact HR.out.drewN 1
    have y1 := hRW.at1
    have hf1 : W.frozen? ⟨g, 1, none⟩ = false := hRW.blk.frozen 1
    rw [show n - B.length = 0 by omega] at y1
    have HRW := Lib.hid hRW
    have hB4 : BytesAt W A (B.take 4) := fun hp => by
      obtain ⟨bk, off, e, hl, hcl⟩ := hRW.bytes (by omega)
      refine ⟨bk, off, e, hl, fun i hi => ?_⟩
      rw [List.length_take] at hi
      rw [hcl i (by omega), List.getElem?_take, if_pos (by omega)]
    have HCV := Lib.hid (conv_any W A 4 c (B.take 4) (by rw [List.length_take]; omega) hB4)
    have HEQ := Lib.hid (str_eq (B.take 4) markL (fun x hx => hRW.byt x (List.mem_of_mem_take hx)) mark_bytes)
    have HLN := Lib.hid hln
    clear x0 hW hB4 hRW hln
    iterate 11 still_step
    refine wpStill_nil ?_
    go_wp2_with fail
    refine (need_yes _ _ _).mono ?_
    rintro e w' ⟨rfl, rfl⟩
    have hcv := HCV.out
    have heq := HEQ.out
    rw [mark_lit] at heq
    by_cases hmk : B.take 4 = markL
    · have HM := Lib.hid (show markR B = .ok ((), B.drop 4) by unfold markR; rw [if_neg (by have := HLN.out; omega), if_pos hmk])
      rw [decide_eq_true hmk] at heq
      generalize strOfNums (B.take 4) = S at *
      clear hmk HCV HEQ
      go_wp2_with fail
      go_at_call 61
      refine (need_yes _ _ _).mono ?_
      rintro e w' ⟨rfl, rfl⟩
      go_wp2_with fail
      go_end0
      refine ⟨HT.out.trans (Touch.set_ W 1 _), ?_⟩
      rw [HM.out]
      refine ⟨rfl, ?_⟩
      have hl := HLN.out
      refine ⟨HRW.out.blk.set_ 1 (.int .i64 4) |> fun h => ?_, HRW.out.bytes.touch (fun b off e => by have := HRW.out.old b off e; omega) (Touch.set_ W 1 _), HRW.out.old, HRW.out.len, HRW.out.byt, ?_, by rw [List.length_drop]; omega⟩
      · rw [show n - (B.drop 4).length = 4 by rw [List.length_drop]; omega]
        exact h
      · rw [show n - (B.drop 4).length = 4 by rw [List.length_drop]; omega]
    · have HM := Lib.hid (show markR B = .error (B.length, 110) by unfold markR; rw [if_neg (by have := HLN.out; omega), if_neg hmk])
      rw [decide_eq_false hmk] at heq
      generalize strOfNums (B.take 4) = S at *
      clear hmk HCV HEQ
      go_wp2_with fail
      go_at_call 61
      refine (need_no _ _ _).mono ?_
      rintro e w' ⟨rfl, rfl⟩
      go_wp2_with fail
      exact ⟨rfl, by rw [HM.out]; exact ⟨HT.out, by rw [HLN.out]; show Ending.panicked (fltV 0 110) = .panicked (fltV ((n - n : Nat) : Int) 110); rw [Nat.sub_self]; rfl⟩⟩
end Go.Proofs.Ytbomihdnnidelaa
