/- Package deed: a claim's slots and a claim are written. -/
import Derived.Test.YtbomihdnnidelaaDeQ
import Derived.Laws.StructEq
namespace Go.Proofs.Ytbomihdnnidelaa
open Go.ChangeShapes Go.WideShapes Go.ChangeAt Go.RowKit
open Dee
set_option linter.unusedVariables false
set_option linter.unusedSimpArgs false
set_option maxRecDepth 100000
theorem len_app {α : Type} (l m : List α) : (l ++ m).length = l.length + m.length := List.length_append
/-- the slots that are told, below n -/
def entsF (S : Nat → Tag) (n : Nat) : List Ent := (List.range n).filterMap fun s => if S s = Tag.zero then none else some ((s : Int), S s)
theorem entsF_succ (S : Nat → Tag) (n : Nat) : entsF S (n + 1) = entsF S n ++ (if S n = Tag.zero then [] else [((n : Int), S n)]) := by
  unfold entsF
  rw [List.range_succ, List.filterMap_append]
  congr 1
  by_cases h : S n = Tag.zero
  · simp [h]
  · simp [h]
theorem entsF_len (S : Nat → Tag) (n : Nat) : (entsF S n).length ≤ n := by
  unfold entsF
  have := List.length_filterMap_le (fun s => if S s = Tag.zero then none else some ((s : Int), S s)) (List.range n)
  simpa using this
theorem eq_tag (t u : Tag) (w : World) : (Op.equalIn 10000 56 (.agg (arr 3 (tgF t))) (.agg (arr 3 (tgF u)))).run Try.prog w = .ok (decide (t = u)) w := by
  have u3 := Try.underlying3
  have hS : Try.prog.underlying 56 = some (.struct (Try.prog.fieldsOf 56)) := by kernel_rfl
  obtain ⟨k, t, m⟩ := t
  obtain ⟨k', t', m'⟩ := u
  rw [show arr 3 (tgF ⟨k, t, m⟩) = #[.int .i64 k, .int .i64 t, .int .i64 m] from rfl, show arr 3 (tgF ⟨k', t', m'⟩) = #[.int .i64 k', .int .i64 t', .int .i64 m'] from rfl]
  by_cases h : (⟨k, t, m⟩ : Tag) = ⟨k', t', m'⟩
  · rw [decide_eq_true h]
    injection h with h1 h2 h3
    subst h1 h2 h3
    rw [show (10000 : Nat) = 9999 + 1 from rfl, run_equalIn_struct w 9999 56 _ _ hS (by kernel_rfl)]
    simp only [Program.fieldsOf, Try.underlying56]
    go_simp
  · rw [decide_eq_false h]
    rw [show (10000 : Nat) = 9999 + 1 from rfl, run_equalIn_struct w 9999 56 _ _ hS (by kernel_rfl)]
    simp only [Program.fieldsOf, Try.underlying56]
    go_simp
    intro h0 h1 h2
    exact h (by rw [h0, h1, h2])
theorem entW_len (e : Ent) : (entW e).length ≤ 3 := by unfold entW; have := tagW_len true e.2; simp; omega
theorem flatW_len {α : Type} (f : α → List Int) (k : Nat) (h : ∀ a, (f a).length ≤ k) : ∀ l : List α, (l.flatMap f).length ≤ k * l.length
  | [] => by simp
  | a :: t => by
    have h1 := flatW_len f k h t
    have h2 := h a
    rw [List.flatMap_cons, List.length_append, List.length_cons, Nat.mul_succ]
    omega
def eq0V : Value := .agg #[.int .i64 0, .int .i64 0, .int .i64 0]
theorem eq_tag0 (t : Tag) (w : World) : (Op.equalIn 10000 56 (.agg (arr 3 (tgF t))) (.agg #[.int .i64 0, .int .i64 0, .int .i64 0])).run Try.prog w = .ok (decide (t = Tag.zero)) w := eq_tag t ⟨0, 0, 0⟩ w
set_option maxHeartbeats 4000000 in
theorem stack_w (w : World) (g base B : Nat) (L : List Int) (S : Nat → Tag) (h : Wr w g base L) (hB : B ≤ g ∧ B ≤ base) (hS : ∀ s, s < 32 → S s = Tag.zero ∨ toldB true (S s) = true) (hlen : L.length ≤ 1099511627000) :
    Calls Try.prog 77 #[.pointer (some ⟨g, 0, none⟩), .agg (arr 96 (tsF S))] w (WrEnd w g base B (L ++ (num (entsF S 32).length ++ (entsF S 32).flatMap entW))) := by
  have HW0 := Lib.hid h
  have HB := Lib.hid hB
  have HL := Lib.hid hlen
  have HSS := Lib.hid hS
  clear h hB hlen hS
  obtain ⟨T, hT⟩ : ∃ T, T = tsF S := ⟨_, rfl⟩
  have HTT := Lib.hid hT
  rw [← hT]
  clear hT
  go_enter Try.func77, Try.ntmps77
  go_upto_region 1 with (refine wpList_box_seg rfl _ (.tmp 1) rfl 96 T rfl ?_; intro w1 h1 hB1 hs1)
  obtain ⟨gb, hgb⟩ : ∃ gb, gb = w.heap.size := ⟨_, rfl⟩
  rw [← hgb] at h1 ⊢
  have HF0 := Lib.hid (show FB w1 gb 58 96 (tsF S) by rw [← HTT.out]; exact h1)
  have HT0 := Lib.hid (WT.of_below hB1 (Nat.le_trans HB.out.2 HW0.out.base))
  have HW1 := Lib.hid (HW0.out.up hB1)
  have hcell : ∀ (W : World), FB W gb 58 96 (tsF S) → ∀ j, j < 32 → ∀ k, k < 3 → W.cell? ⟨gb, j * 3 + k, none⟩ = some (tgF (S j) k) := fun W hW j hj k hk => by
    rw [hW.cell (j * 3 + k) (by omega)]
    unfold tsF
    rw [show (j * 3 + k) / 3 = j by omega, show (j * 3 + k) % 3 = k by omega]
  have HC := Lib.hid hcell
  clear h1 hB1 hs1 hgb HW0 hcell
  go_wp2_with fail
  go_loopw [4, 5, 7, 9, 10, 11, 12, 13, 14, 15, 16] (fun a4 _ a7 _ _ _ _ _ _ _ _ wr => ∃ (j m : Nat), j ≤ 32 ∧ m ≤ 32 ∧ a7 = .int .i64 j ∧ a4 = .int .i64 m ∧ Hid (m = (entsF S j).length) ∧ FB wr gb 58 96 (tsF S) ∧ Wr wr g base L ∧ WT B w wr) (fun _ _ a7 _ _ _ _ _ _ _ _ _ => (32 - intOf a7).toNat)
  case atStart => exact ⟨0, 0, by omega, by omega, rfl, rfl, Lib.hid rfl, HF0.out, HW1.out, HT0.out⟩
  case round =>
    obtain ⟨j, m, hj, hm, rfl, rfl, HM, hF, hWr, hT⟩ := hrel
    clear HF0 HW1 HT0
    have HF := Lib.hid hF
    have HWr := Lib.hid hWr
    have HT := Lib.hid hT
    clear hF hWr hT
    by_cases hlt : j < 32
    · have hlt' : (j : Int) < 32 := by omega
      have hm' : (m : Int) ≤ 32 := by omega
      obtain ⟨F, hFF⟩ : ∃ F, F = tgF (S j) := ⟨_, rfl⟩
      have HX := Lib.hid (show ∀ k, k < 3 → wr.cell? ⟨gb, j * 3 + k, none⟩ = some (F k) by rw [hFF]; exact HC.out wr HF.out j hlt)
      have heq := fun W => eq_tag0 (S j) W
      rw [← hFF] at heq
      clear hFF
      by_cases hz : S j = Tag.zero
      · rw [decide_eq_true hz] at heq
        have HM2 := Lib.hid (show m = (entsF S (j + 1)).length by rw [entsF_succ, if_pos hz, List.append_nil]; exact HM.out)
        clear hz HM
        go_wp2_with (refine wpList_load_cells rfl 56 _ rfl gb (j * 3) rfl 3 F _ HX.out Try.underlying56 rfl sizeTag ?_)
        go_roundw
        case rel => exact ⟨j + 1, m, by omega, by omega, by go_num, rfl, HM2, HF.out, HWr.out, HT.out⟩
        case measure => simp [intOf]; omega
      · rw [decide_eq_false hz] at heq
        have HM2 := Lib.hid (show m + 1 = (entsF S (j + 1)).length by rw [entsF_succ, if_neg hz, List.length_append, HM.out]; rfl)
        have hm32 : m + 1 ≤ 32 := by have := entsF_len S (j + 1); have := HM2.out; omega
        clear hz HM
        go_wp2_with (refine wpList_load_cells rfl 56 _ rfl gb (j * 3) rfl 3 F _ HX.out Try.underlying56 rfl sizeTag ?_)
        go_roundw
        case rel => exact ⟨j + 1, m + 1, by omega, hm32, by go_num, by go_num, HM2, HF.out, HWr.out, HT.out⟩
        case measure => simp [intOf]; omega
    · obtain rfl : j = 32 := by omega
      have hm' : (m : Int) ≤ 32 := by omega
      clear hlt hj
      go_wp2_with fail
      refine (number_w _ g base B L m HWr.out HB.out (by omega) (by have := HL.out; omega)).mono ?_
      rintro e w2 ⟨rfl, h2, hT2⟩
      have HF2 := Lib.hid (hT2.fb HF.out (by decide) (by decide))
      have HW2 := Lib.hid h2
      have HT2 := Lib.hid (HT.out.trans hT2)
      have HNL := Lib.hid (num_len10 m (by omega))
      clear h2 hT2 HF HWr HT
      go_wp2_with fail
      go_loopw [6, 21, 23, 24, 25, 26, 27, 28, 29, 30, 31, 32, 33, 34, 35, 36] (fun _ a21 _ _ _ _ _ _ _ _ _ _ _ _ _ _ wr => ∃ (j : Nat), j ≤ 32 ∧ a21 = .int .i64 j ∧ FB wr gb 58 96 (tsF S) ∧ Wr wr g base ((L ++ num m) ++ (entsF S j).flatMap entW) ∧ WT B w wr) (fun _ a21 _ _ _ _ _ _ _ _ _ _ _ _ _ _ _ => (32 - intOf a21).toNat)
      case atStart => exact ⟨0, by omega, rfl, HF2.out, by rw [show (entsF S 0).flatMap entW = [] from rfl, List.append_nil]; exact HW2.out, HT2.out⟩
      case round =>
        obtain ⟨j, hj, rfl, hF, hWr, hT⟩ := hrel
        clear HF2 HW2 HT2
        have HF := Lib.hid hF
        have HWr := Lib.hid hWr
        have HT := Lib.hid hT
        have HEL := Lib.hid (flatW_len entW 3 entW_len (entsF S j))
        have HEN := Lib.hid (entsF_len S j)
        clear hF hWr hT
        by_cases hlt : j < 32
        · have hlt' : (j : Int) < 32 := by omega
          obtain ⟨F, hFF⟩ : ∃ F, F = tgF (S j) := ⟨_, rfl⟩
          have HX := Lib.hid (show ∀ k, k < 3 → wr.cell? ⟨gb, j * 3 + k, none⟩ = some (F k) by rw [hFF]; exact HC.out wr HF.out j hlt)
          have heq := fun W => eq_tag0 (S j) W
          rw [← hFF] at heq
          have HFF := Lib.hid hFF
          clear hFF
          by_cases hz : S j = Tag.zero
          · rw [decide_eq_true hz] at heq
            have HW2 := Lib.hid (show Wr wr g base ((L ++ num m) ++ (entsF S (j + 1)).flatMap entW) by rw [entsF_succ, if_pos hz, List.append_nil]; exact HWr.out)
            clear hz HWr
            go_wp2_with (refine wpList_load_cells rfl 56 _ rfl gb (j * 3) rfl 3 F _ HX.out Try.underlying56 rfl sizeTag ?_)
            go_roundw
            case rel => exact ⟨j + 1, by omega, by go_num, HF.out, HW2.out, HT.out⟩
            case measure => simp [intOf]; omega
          · rw [decide_eq_false hz] at heq
            have HTB := Lib.hid ((HSS.out j hlt).resolve_left hz)
            have HEQ := Lib.hid (show (L ++ num m) ++ (entsF S (j + 1)).flatMap entW = (((L ++ num m) ++ (entsF S j).flatMap entW) ++ [(j : Int)]) ++ tagW true (S j) by
              rw [entsF_succ, if_neg hz, List.flatMap_append, List.flatMap_cons, List.flatMap_nil, List.append_nil, ← List.append_assoc]
              show _ ++ ((j : Int) :: tagW true (S j)) = _
              rw [List.append_assoc _ [(j : Int)]]; rfl)
            have HLA := Lib.hid (show ((L ++ num m) ++ (entsF S j).flatMap entW).length ≤ 1099511627200 by have h1 := HL.out; have h2 := HNL.out; have h3 := HEL.out; have h4 := HEN.out; simp only [List.length_append]; omega)
            clear hz HEL HEN
            go_upto_region 13 with (refine wpList_load_cells rfl 56 _ rfl gb (j * 3) rfl 3 F _ HX.out Try.underlying56 rfl sizeTag ?_)
            go_wp2_with fail
            go_at_call 74
            refine (byte_w _ g base B _ j HWr.out HB.out (by omega) (by have := HLA.out; omega)).mono ?_
            rintro e w3 ⟨rfl, h3, hT3⟩
            have HF3 := Lib.hid (hT3.fb HF.out (by decide) (by decide))
            have HW3 := Lib.hid h3
            have HT3 := Lib.hid (HT.out.trans hT3)
            have HX3 := Lib.hid (show ∀ k, k < 3 → w3.cell? ⟨gb, j * 3 + k, none⟩ = some (F k) by rw [HFF.out]; exact HC.out w3 HF3.out j hlt)
            clear h3 hT3 HF HWr HT HX
            go_wp2_with (refine wpList_load_cells rfl 56 _ rfl gb (j * 3) rfl 3 F _ HX3.out Try.underlying56 rfl sizeTag ?_)
            go_at_call 76
            rw [HFF.out]
            refine (tag_w _ g base B _ (S j) true HW3.out HB.out HTB.out (by have h9 := HLA.out; rw [len_app _ [(j : Int)]]; show _ + 1 ≤ _; omega)).mono ?_
            rintro e w4 ⟨rfl, h4, hT4⟩
            rw [← HEQ.out] at h4
            have HF4 := Lib.hid (hT4.fb HF3.out (by decide) (by decide))
            have HW4 := Lib.hid h4
            have HT4 := Lib.hid (HT3.out.trans hT4)
            clear h4 hT4 HF3 HW3 HT3 HX3 heq
            go_wp2_with fail
            go_roundw
            case rel => exact ⟨j + 1, by omega, by go_num, HF4.out, HW4.out, HT4.out⟩
            case measure => simp [intOf]; omega
        · obtain rfl : j = 32 := by omega
          have HEE := Lib.hid (show L ++ (num (entsF S 32).length ++ (entsF S 32).flatMap entW) = (L ++ num m) ++ (entsF S 32).flatMap entW by rw [← HM.out, List.append_assoc])
          clear hlt hj
          go_wp2_with fail
          go_end0
          exact ⟨rfl, by rw [HEE.out]; exact HWr.out, HT.out⟩
end Go.Proofs.Ytbomihdnnidelaa
