/- Package deed: what a tag and a claim may be. -/
import Derived.Test.YtbomihdnnidelaaDeU
namespace Go.Proofs.Ytbomihdnnidelaa
open Go.ChangeShapes Go.WideShapes Go.ChangeAt Go.RowKit
open Dee
set_option linter.unusedVariables false
set_option linter.unusedSimpArgs false
set_option maxRecDepth 100000
/-- may a slot have this tag? -/
def plainB (t : Tag) : Bool := if tabledB t.k = true then tableB t.t && decide (t.m = 0) else if t.k = 0 then decide (t.t = 0) && (decide (t.m = 0) || writB t.m) else kindB t.k && decide (t.t = 0) && decide (t.m = 0)
set_option maxHeartbeats 4000000 in
theorem plainTag_any (w : World) (t : Tag) : Calls Try.prog 89 #[tgV t] w (RetB w (.bool (plainB t))) := by
  obtain ⟨k, tt, m⟩ := t
  have hP : plainB ⟨k, tt, m⟩ = if tabledB k = true then tableB tt && decide (m = 0) else if k = 0 then decide (tt = 0) && (decide (m = 0) || writB m) else kindB k && decide (tt = 0) && decide (m = 0) := rfl
  have HP := Lib.hid hP
  clear hP
  obtain ⟨r, hr⟩ : ∃ r, r = plainB ⟨k, tt, m⟩ := ⟨_, rfl⟩
  rw [← hr] at HP ⊢
  clear hr
  unfold tgV
  go_enter Try.func89, Try.ntmps89
  go_upto_region 1 with (refine wpList_box_seg rfl _ (.tmp 0) rfl 3 (tgF ⟨k, tt, m⟩) rfl ?_; intro w1 h1 hB1 hs1)
  have x0 : w1.cell? ⟨w.heap.size, 0, none⟩ = some (.int .i64 k) := h1.cell 0 (by decide)
  have x1 : w1.cell? ⟨w.heap.size, 1, none⟩ = some (.int .i64 tt) := h1.cell 1 (by decide)
  have x2 : w1.cell? ⟨w.heap.size, 2, none⟩ = some (.int .i64 m) := h1.cell 2 (by decide)
  have HB := Lib.hid hB1
  clear h1 hB1 hs1
  generalize w.heap.size = gb at x0 x1 x2 ⊢
  go_wp2_with fail
  refine (tabled_any k _).mono ?_
  rintro e u0 ⟨rfl, rfl⟩
  have hP := HP.out
  cases ht : tabledB k
  · rw [ht, if_neg (by decide)] at hP
    by_cases hk : k = 0
    · subst hk
      rw [if_pos rfl] at hP
      clear ht
      cases h2 : decide (tt = 0)
      · rw [h2] at hP
        have HR := Lib.hid (show r = false from hP)
        have t2 : (tt == 0) = false := by rw [beq_eq_false_iff_ne]; exact of_decide_eq_false h2
        clear hP h2 HP
        go_wp2_with fail
        go_ret
        exact ⟨ret_bool (by rw [HR.out]), HB.out⟩
      · have h2' := of_decide_eq_true h2
        subst h2'
        rw [h2] at hP
        cases h3 : decide (m = 0)
        · rw [h3] at hP
          have HR := Lib.hid (show writB m = r by rw [hP]; simp)
          have t3 : (m == 0) = false := by rw [beq_eq_false_iff_ne]; exact of_decide_eq_false h3
          clear hP h2 h3 HP
          go_wp2_with fail
          go_at_call 95
          refine (written_deed m _).mono ?_
          rintro e u0 ⟨rfl, rfl⟩
          rw [HR.out]
          go_wp2_with fail
          go_ret
          exact ⟨rfl, HB.out⟩
        · have h3' := of_decide_eq_true h3
          subst h3'
          rw [h3] at hP
          have HR := Lib.hid (show r = true from hP)
          clear hP h2 h3 HP
          go_wp2_with fail
          go_ret
          exact ⟨ret_bool (by rw [HR.out]), HB.out⟩
    · rw [if_neg hk] at hP
      have tk : (k == 0) = false := by rw [beq_eq_false_iff_ne]; exact hk
      cases h1 : kindB k
      · rw [h1] at hP
        have HR := Lib.hid (show r = false from hP)
        clear hP ht hk HP
        go_wp2_with fail
        go_at_call 93
        refine (kind_deed k _).mono ?_
        rintro e u0 ⟨rfl, rfl⟩
        rw [h1]
        go_wp2_with fail
        go_ret
        exact ⟨ret_bool (by rw [HR.out]), HB.out⟩
      · rw [h1] at hP
        cases h2 : decide (tt = 0)
        · rw [h2] at hP
          have HR := Lib.hid (show r = false from hP)
          have t2 : (tt == 0) = false := by rw [beq_eq_false_iff_ne]; exact of_decide_eq_false h2
          clear hP ht hk h2 HP
          go_wp2_with fail
          go_at_call 93
          refine (kind_deed k _).mono ?_
          rintro e u0 ⟨rfl, rfl⟩
          rw [h1]
          go_wp2_with fail
          go_ret
          exact ⟨ret_bool (by rw [HR.out]), HB.out⟩
        · have h2' := of_decide_eq_true h2
          subst h2'
          rw [h2] at hP
          cases h3 : decide (m = 0)
          · rw [h3] at hP
            have HR := Lib.hid (show r = false from hP)
            have t3 : (m == 0) = false := by rw [beq_eq_false_iff_ne]; exact of_decide_eq_false h3
            clear hP ht hk h2 h3 HP
            go_wp2_with fail
            go_at_call 93
            refine (kind_deed k _).mono ?_
            rintro e u0 ⟨rfl, rfl⟩
            rw [h1]
            go_wp2_with fail
            go_ret
            exact ⟨ret_bool (by rw [HR.out]), HB.out⟩
          · have h3' := of_decide_eq_true h3
            subst h3'
            rw [h3] at hP
            have HR := Lib.hid (show r = true from hP)
            clear hP ht hk h2 h3 HP
            go_wp2_with fail
            go_at_call 93
            refine (kind_deed k _).mono ?_
            rintro e u0 ⟨rfl, rfl⟩
            rw [h1]
            go_wp2_with fail
            go_ret
            exact ⟨ret_bool (by rw [HR.out]), HB.out⟩
  · rw [ht, if_pos rfl] at hP
    cases h1 : tableB tt
    · rw [h1] at hP
      have HR := Lib.hid (show r = false from hP)
      clear hP ht HP
      go_wp2_with fail
      go_at_call 94
      refine (table_deed tt _).mono ?_
      rintro e u0 ⟨rfl, rfl⟩
      rw [h1]
      go_wp2_with fail
      go_ret
      exact ⟨ret_bool (by rw [HR.out]), HB.out⟩
    · rw [h1] at hP
      cases h3 : decide (m = 0)
      · rw [h3] at hP
        have HR := Lib.hid (show r = false from hP)
        have t3 : (m == 0) = false := by rw [beq_eq_false_iff_ne]; exact of_decide_eq_false h3
        clear hP ht h3 HP
        go_wp2_with fail
        go_at_call 94
        refine (table_deed tt _).mono ?_
        rintro e u0 ⟨rfl, rfl⟩
        rw [h1]
        go_wp2_with fail
        go_ret
        exact ⟨ret_bool (by rw [HR.out]), HB.out⟩
      · have h3' := of_decide_eq_true h3
        subst h3'
        rw [h3] at hP
        have HR := Lib.hid (show r = true from hP)
        clear hP ht h3 HP
        go_wp2_with fail
        go_at_call 94
        refine (table_deed tt _).mono ?_
        rintro e u0 ⟨rfl, rfl⟩
        rw [h1]
        go_wp2_with fail
        go_ret
        exact ⟨ret_bool (by rw [HR.out]), HB.out⟩
/-- may a claim have these tags? -/
def plainsB (G : Nat → Tag) : Bool := (List.range 10).all (fun n => decide ((G n).m = 0) && plainB (G n)) && (List.range 32).all fun s => plainB (G (10 + s))
theorem all_no {p : Nat → Bool} {n j : Nat} (hj : j < n) (h : p j = false) : (List.range n).all p = false := by
  rw [List.all_eq_false]
  exact ⟨j, List.mem_range.2 hj, by rw [h]; decide⟩
theorem all_yes {p : Nat → Bool} {n : Nat} (h : ∀ j, j < n → p j = true) : (List.range n).all p = true := by
  rw [List.all_eq_true]
  exact fun j hj => h j (List.mem_range.1 hj)
theorem claim_cell {W : World} {gb : Nat} {d : Bool} {G : Nat → Tag} {v : Value} (hW : FB W gb 61 128 (clF d G v)) (j : Nat) (hj : j < 42) (k : Nat) (hk : k < 3) : W.cell? ⟨gb, 1 + j * 3 + k, none⟩ = some (tgF (G j) k) := by
  rw [hW.cell (1 + j * 3 + k) (by omega)]
  unfold clF
  rw [if_neg (by omega), if_pos (by omega), show (1 + j * 3 + k - 1) / 3 = j by omega, show (1 + j * 3 + k - 1) % 3 = k by omega]
set_option maxHeartbeats 4000000 in
theorem plainTags_any (w : World) (d : Bool) (G : Nat → Tag) (v : Value) : Calls Try.prog 72 #[.agg (arr 128 (clF d G v))] w (RetB w (.bool (plainsB G))) := by
  obtain ⟨T, hT⟩ : ∃ T, T = clF d G v := ⟨_, rfl⟩
  rw [← hT]
  have HTT := Lib.hid hT
  clear hT
  go_enter Try.func72, Try.ntmps72
  go_upto_region 1 with (refine wpList_box_seg rfl _ (.tmp 0) rfl 128 T rfl ?_; intro w1 h1 hB1 hs1)
  obtain ⟨gb, hgb⟩ : ∃ gb, gb = w.heap.size := ⟨_, rfl⟩
  rw [← hgb] at h1 ⊢
  have HF0 := Lib.hid (show FB w1 gb 61 128 (clF d G v) by rw [← HTT.out]; exact h1)
  have HB0 := Lib.hid hB1
  clear h1 hB1 hs1 hgb
  go_wp2_with fail
  go_loopw [3, 5, 7, 8, 9, 10, 11, 12, 13, 14, 15, 16, 17, 18, 19, 20, 21, 22] (fun _ a5 _ _ _ _ _ _ _ _ _ _ _ _ _ _ _ _ wr => ∃ (j : Nat), j ≤ 10 ∧ a5 = .int .i64 j ∧ FB wr gb 61 128 (clF d G v) ∧ Below w.heap.size w wr ∧ ∀ i, i < j → (decide ((G i).m = 0) && plainB (G i)) = true) (fun _ a5 _ _ _ _ _ _ _ _ _ _ _ _ _ _ _ _ _ => (10 - intOf a5).toNat)
  case atStart => exact ⟨0, by omega, rfl, HF0.out, HB0.out, fun i hi => absurd hi (by omega)⟩
  case round =>
    obtain ⟨j, hj, rfl, hF, hB, hall⟩ := hrel
    clear HF0 HB0
    have HF := Lib.hid hF
    have HB := Lib.hid hB
    have HA := Lib.hid hall
    clear hF hB hall
    by_cases hlt : j < 10
    · have hlt' : (j : Int) < 10 := by omega
      obtain ⟨t, ht⟩ : ∃ t, t = G j := ⟨_, rfl⟩
      have hc := claim_cell HF.out j (by omega)
      rw [← ht] at hc
      have x2 : wr.cell? ⟨gb, 1 + j * 3 + 2, none⟩ = some (.int .i64 t.m) := hc 2 (by decide)
      have HX := Lib.hid hc
      have HTJ := Lib.hid ht
      clear hc ht
      by_cases hm : t.m = 0
      · have tm : (t.m != 0) = false := by rw [hm]; rfl
        rw [hm] at x2
        have HM := Lib.hid hm
        clear hm tm
        obtain ⟨F, hFF⟩ : ∃ F, F = tgF t := ⟨_, rfl⟩
        rw [← hFF] at HX
        have HFF := Lib.hid hFF
        clear hFF
        go_wp2_with (refine wpList_load_cells rfl 56 _ rfl gb (1 + j * 3) rfl 3 F _ HX.out Try.underlying56 rfl sizeTag ?_)
        go_at_call 89
        rw [HFF.out]
        refine (plainTag_any _ t).mono ?_
        rintro e w2 ⟨rfl, hB2⟩
        have HF2 := Lib.hid (HF.out.up hB2)
        have HB2 := Lib.hid (HB.out.trans (hB2.mono HB.out.size))
        clear hB2 HF HB HX x2
        cases hp : plainB t
        · have HE := Lib.hid (show plainsB G = false by unfold plainsB; rw [all_no hlt (p := fun n => decide ((G n).m = 0) && plainB (G n)) (by rw [← HTJ.out, hp, Bool.and_false])]; rfl)
          clear hp
          go_wp2_with fail
          go_ret
          exact ⟨ret_bool (by rw [HE.out]), HB2.out⟩
        · have HE := Lib.hid (show ∀ i, i < j + 1 → (decide ((G i).m = 0) && plainB (G i)) = true from fun i hi => by
            rcases Nat.lt_or_ge i j with h3 | h3
            · exact HA.out i h3
            · obtain rfl : i = j := by omega
              rw [← HTJ.out, hp, HM.out]; rfl)
          clear hp
          go_wp2_with fail
          go_roundw
          case rel => exact ⟨j + 1, by omega, by go_num, HF2.out, HB2.out, HE.out⟩
          case measure => simp [intOf]; omega
      · have tm : (t.m != 0) = true := by rw [bne_iff_ne]; exact hm
        have HE := Lib.hid (show plainsB G = false by unfold plainsB; rw [all_no hlt (p := fun n => decide ((G n).m = 0) && plainB (G n)) (by rw [← HTJ.out, decide_eq_false hm, Bool.false_and])]; rfl)
        clear hm
        go_wp2_with fail
        go_ret
        exact ⟨ret_bool (by rw [HE.out]), HB.out⟩
    · obtain rfl : j = 10 := by omega
      have HRG := Lib.hid (show (List.range 10).all (fun n => decide ((G n).m = 0) && plainB (G n)) = true from all_yes HA.out)
      clear hlt hj HA
      go_wp2_with fail
      go_loopw [4, 23, 25, 26, 27, 28, 29, 30, 31, 32] (fun _ a23 _ _ _ _ _ _ _ _ wr => ∃ (j : Nat), j ≤ 32 ∧ a23 = .int .i64 j ∧ FB wr gb 61 128 (clF d G v) ∧ Below w.heap.size w wr ∧ ∀ i, i < j → plainB (G (10 + i)) = true) (fun _ a23 _ _ _ _ _ _ _ _ _ => (32 - intOf a23).toNat)
      case atStart => exact ⟨0, by omega, rfl, HF.out, HB.out, fun i hi => absurd hi (by omega)⟩
      case round =>
        obtain ⟨j, hj, rfl, hF, hB, hall⟩ := hrel
        clear HF HB
        have HF := Lib.hid hF
        have HB := Lib.hid hB
        have HA := Lib.hid hall
        clear hF hB hall
        by_cases hlt : j < 32
        · have hlt' : (j : Int) < 32 := by omega
          obtain ⟨t, ht⟩ : ∃ t, t = G (10 + j) := ⟨_, rfl⟩
          have hc : ∀ k, k < 3 → wr.cell? ⟨gb, 31 + j * 3 + k, none⟩ = some (tgF t k) := fun k hk => by
            have := claim_cell HF.out (10 + j) (by omega) k hk
            rw [← ht, show 1 + (10 + j) * 3 + k = 31 + j * 3 + k by omega] at this
            exact this
          have HX := Lib.hid hc
          have HTJ := Lib.hid ht
          clear hc ht
          obtain ⟨F, hFF⟩ : ∃ F, F = tgF t := ⟨_, rfl⟩
          rw [← hFF] at HX
          have HFF := Lib.hid hFF
          clear hFF
          go_wp2_with (refine wpList_load_cells rfl 56 _ rfl gb (31 + j * 3) rfl 3 F _ HX.out Try.underlying56 rfl sizeTag ?_)
          go_at_call 89
          rw [HFF.out]
          refine (plainTag_any _ t).mono ?_
          rintro e w2 ⟨rfl, hB2⟩
          have HF2 := Lib.hid (HF.out.up hB2)
          have HB2 := Lib.hid (HB.out.trans (hB2.mono HB.out.size))
          clear hB2 HF HB HX
          cases hp : plainB t
          · have HE := Lib.hid (show plainsB G = false by unfold plainsB; rw [all_no hlt (p := fun s => plainB (G (10 + s))) (by rw [← HTJ.out, hp]), Bool.and_false])
            clear hp
            go_wp2_with fail
            go_ret
            exact ⟨ret_bool (by rw [HE.out]), HB2.out⟩
          · have HE := Lib.hid (show ∀ i, i < j + 1 → plainB (G (10 + i)) = true from fun i hi => by
              rcases Nat.lt_or_ge i j with h3 | h3
              · exact HA.out i h3
              · obtain rfl : i = j := by omega
                rw [← HTJ.out, hp])
            clear hp
            go_wp2_with fail
            go_roundw
            case rel =>
              repeat apply Exists.intro
              exact ⟨⟨j + 1, by omega, by go_num, HF2.out, HB2.out, HE.out⟩, rfl⟩
            case measure => simp [intOf]; omega
        · obtain rfl : j = 32 := by omega
          have HE := Lib.hid (show plainsB G = true by unfold plainsB; rw [HRG.out, all_yes HA.out]; rfl)
          clear hlt hj HA
          go_wp2_with fail
          go_ret
          exact ⟨ret_bool (by rw [HE.out]), HB.out⟩
end Go.Proofs.Ytbomihdnnidelaa
