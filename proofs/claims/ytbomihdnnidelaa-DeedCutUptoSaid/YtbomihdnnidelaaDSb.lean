/- Package deed: two claims held to be the same. Laid by wip/tools/mkdsb.py. -/
import Derived.Test.YtbomihdnnidelaaDSa
namespace Go.Proofs.Ytbomihdnnidelaa
open Go.ChangeShapes Go.WideShapes Go.ChangeAt Go.RowKit
open Dee
set_option linter.unusedVariables false
set_option linter.unusedSimpArgs false
set_option maxRecDepth 100000
def sameMb (x y : Mc) : Bool := (((x.dead == y.dead) && (List.range 10).all (fun i => decide (x.G i = y.G i))) && (List.range 32).all (fun i => decide (x.G (10 + i) = y.G (10 + i)))) && decide (x.cons = y.cons)
theorem sameMb_iff {x y : Mc} : sameMb x y = true ↔ Mc.same x y := by
  unfold sameMb Mc.same
  rw [Bool.and_eq_true, Bool.and_eq_true, Bool.and_eq_true, beq_iff_eq, decide_eq_true_eq]
  constructor
  · rintro ⟨⟨⟨h1, h2⟩, h3⟩, h4⟩
    refine ⟨h1, fun k hk => ?_, h4⟩
    by_cases h : k < 10
    · exact of_decide_eq_true (all_get h2 k h)
    · have := of_decide_eq_true (all_get h3 (k - 10) (by omega))
      rwa [show 10 + (k - 10) = k by omega] at this
  · rintro ⟨h1, h2, h3⟩
    exact ⟨⟨⟨h1, all_yes fun n hn => decide_eq_true (h2 n (by omega))⟩, all_yes fun n hn => decide_eq_true (h2 (10 + n) (by omega))⟩, h3⟩
set_option maxHeartbeats 16000000 in
theorem sameClaim_any (w : World) (x y : Mc) (A : Option Addr) (m c : Nat) (A' : Option Addr) (m' c' : Nat) (hm : x.cons.length = m) (hm' : y.cons.length = m') (hs : m ≤ 9223372036854775807) (hR : RowsAt w A 3 coF x.cons) (hR' : RowsAt w A' 3 coF y.cons) :
    Calls Try.prog 43 #[.agg (arr 128 (clF x.dead x.G (.slice A m c))), .agg (arr 128 (clF y.dead y.G (.slice A' m' c')))] w (RetB w (.bool (sameMb x y))) := by
  have HM := Lib.hid hm
  have HM' := Lib.hid hm'
  have HR := Lib.hid hR
  have HR' := Lib.hid hR'
  clear hm hm' hR hR'
  obtain ⟨T, hT⟩ : ∃ T, T = clF x.dead x.G (.slice A m c) := ⟨_, rfl⟩
  obtain ⟨U, hU⟩ : ∃ T, T = clF y.dead y.G (.slice A' m' c') := ⟨_, rfl⟩
  rw [← hT, ← hU]
  have HTT := Lib.hid hT
  have HUU := Lib.hid hU
  clear hT hU
  go_enter Try.func43, Try.ntmps43
  go_upto_region 1 with (first | (refine wpList_box_seg rfl _ (.tmp 0) rfl 128 T rfl ?_; intro w1 h1 hB1 hs1) | (refine wpList_box_seg rfl _ (.tmp 1) rfl 128 U rfl ?_; intro w2 h2 hB2 hs2))
  obtain ⟨gb, hgb⟩ : ∃ gb, gb = w.heap.size := ⟨_, rfl⟩
  obtain ⟨gc, hgc⟩ : ∃ gb, gb = w.heap.size + 1 := ⟨_, rfl⟩
  rw [← hgc, ← hgb]
  rw [← hgb] at h1
  rw [show w1.heap.size = gc by rw [hgc]; exact hs1] at h2
  have HF0 := Lib.hid (show FB w2 gb 61 128 (clF x.dead x.G (.slice A m c)) by rw [← HTT.out]; exact h1.up hB2)
  have HG0 := Lib.hid (show FB w2 gc 61 128 (clF y.dead y.G (.slice A' m' c')) by rw [← HUU.out]; exact h2)
  have HB := Lib.hid (hB1.trans (hB2.mono hB1.size))
  have HRW := Lib.hid (HR.out.below HB.out)
  have HRW' := Lib.hid (HR'.out.below HB.out)
  have HX1 := Lib.hid (show ∀ k, k < 30 → w2.cell? ⟨gb, 1 + k, none⟩ = some (tsF x.G k) from fun k hk => by
    rw [HF0.out.cell (1 + k) (by omega)]
    unfold clF tsF
    rw [if_neg (by omega), if_pos (by omega), show 1 + k - 1 = k by omega])
  have HX2 := Lib.hid (show ∀ k, k < 96 → w2.cell? ⟨gb, 31 + k, none⟩ = some (tsF (fun i => x.G (10 + i)) k) from fun k hk => by
    rw [HF0.out.cell (31 + k) (by omega)]
    unfold clF tsF
    rw [if_neg (by omega), if_pos (by omega), show (31 + k - 1) / 3 = 10 + k / 3 by omega, show (31 + k - 1) % 3 = k % 3 by omega])
  have HY1 := Lib.hid (show ∀ k, k < 30 → w2.cell? ⟨gc, 1 + k, none⟩ = some (tsF y.G k) from fun k hk => by
    rw [HG0.out.cell (1 + k) (by omega)]
    unfold clF tsF
    rw [if_neg (by omega), if_pos (by omega), show 1 + k - 1 = k by omega])
  have HY2 := Lib.hid (show ∀ k, k < 96 → w2.cell? ⟨gc, 31 + k, none⟩ = some (tsF (fun i => y.G (10 + i)) k) from fun k hk => by
    rw [HG0.out.cell (31 + k) (by omega)]
    unfold clF tsF
    rw [if_neg (by omega), if_pos (by omega), show (31 + k - 1) / 3 = 10 + k / 3 by omega, show (31 + k - 1) % 3 = k % 3 by omega])
  have hE1 := eq_tags 57 10 Try.underlying57 x.G y.G w2
  have hE2 := eq_tags 58 32 Try.underlying58 (fun i => x.G (10 + i)) (fun i => y.G (10 + i)) w2
  have x0 : w2.cell? ⟨gb, 0, none⟩ = some (.bool x.dead) := HF0.out.cell 0 (by decide)
  have y0 : w2.cell? ⟨gc, 0, none⟩ = some (.bool y.dead) := HG0.out.cell 0 (by decide)
  have x127 : w2.cell? ⟨gb, 127, none⟩ = some (.slice A m c) := HF0.out.cell 127 (by decide)
  have y127 : w2.cell? ⟨gc, 127, none⟩ = some (.slice A' m' c') := HG0.out.cell 127 (by decide)
  obtain ⟨dx, hdx⟩ : ∃ d, d = x.dead := ⟨_, rfl⟩
  obtain ⟨dy, hdy⟩ : ∃ d, d = y.dead := ⟨_, rfl⟩
  rw [← hdx] at x0
  rw [← hdy] at y0
  obtain ⟨r0, hr0⟩ : ∃ r, r = (dx == dy) := ⟨_, rfl⟩
  obtain ⟨r1, hr1⟩ : ∃ r, r = (List.range 10).all (fun i => decide (x.G i = y.G i)) := ⟨_, rfl⟩
  obtain ⟨r2, hr2⟩ : ∃ r, r = (List.range 32).all (fun i => decide (x.G (10 + i) = y.G (10 + i))) := ⟨_, rfl⟩
  rw [← hr1] at hE1
  rw [← hr2] at hE2
  have HBR := Lib.hid (show sameMb x y = (((r0 && r1) && r2) && decide (x.cons = y.cons)) by unfold sameMb; rw [← hdx, ← hdy, ← hr0, ← hr1, ← hr2])
  have HE1 := Lib.hid hE1
  have HE2 := Lib.hid hE2
  clear hr1 hr2 hdx hdy hE1 hE2 h1 hB1 hs1 h2 hB2 hs2 hgb hgc
  obtain ⟨F1, hF1⟩ : ∃ F, F = tsF x.G := ⟨_, rfl⟩
  obtain ⟨F2, hF2⟩ : ∃ F, F = tsF (fun i => x.G (10 + i)) := ⟨_, rfl⟩
  obtain ⟨U1, hU1⟩ : ∃ F, F = tsF y.G := ⟨_, rfl⟩
  obtain ⟨U2, hU2⟩ : ∃ F, F = tsF (fun i => y.G (10 + i)) := ⟨_, rfl⟩
  rw [← hF1, ← hU1] at HE1
  rw [← hF2, ← hU2] at HE2
  rw [← hF1] at HX1
  rw [← hF2] at HX2
  rw [← hU1] at HY1
  rw [← hU2] at HY2
  clear hF1 hF2 hU1 hU2
  cases r0
  · have HBB := Lib.hid (show false = sameMb x y by rw [HBR.out]; rfl)
    have t0 := hr0.symm
    clear hr0
    go_wp2_with (first
      | (refine wpList_load_cells rfl 57 _ rfl gb 1 rfl 30 F1 _ HX1.out Try.underlying57 rfl sizeTags10 ?_)
      | (refine wpList_load_cells rfl 57 _ rfl gc 1 rfl 30 U1 _ HY1.out Try.underlying57 rfl sizeTags10 ?_)
      | (refine wpList_eql_arr w2 rfl 57 _ _ _ rfl (arr 30 F1) (arr 30 U1) _ rfl rfl guard10 HE1.out ?_)
      | (refine wpList_load_cells rfl 58 _ rfl gb 31 rfl 96 F2 _ HX2.out Try.underlying58 rfl sizeTags32 ?_)
      | (refine wpList_load_cells rfl 58 _ rfl gc 31 rfl 96 U2 _ HY2.out Try.underlying58 rfl sizeTags32 ?_)
      | (refine wpList_eql_arr w2 rfl 58 _ _ _ rfl (arr 96 F2) (arr 96 U2) _ rfl rfl guard32 HE2.out ?_))
    go_ret
    exact ⟨ret_bool HBB.out, HB.out⟩
  cases r1
  · have HBB := Lib.hid (show false = sameMb x y by rw [HBR.out]; rfl)
    have t0 := hr0.symm
    clear hr0
    go_wp2_with (first
      | (refine wpList_load_cells rfl 57 _ rfl gb 1 rfl 30 F1 _ HX1.out Try.underlying57 rfl sizeTags10 ?_)
      | (refine wpList_load_cells rfl 57 _ rfl gc 1 rfl 30 U1 _ HY1.out Try.underlying57 rfl sizeTags10 ?_)
      | (refine wpList_eql_arr w2 rfl 57 _ _ _ rfl (arr 30 F1) (arr 30 U1) _ rfl rfl guard10 HE1.out ?_)
      | (refine wpList_load_cells rfl 58 _ rfl gb 31 rfl 96 F2 _ HX2.out Try.underlying58 rfl sizeTags32 ?_)
      | (refine wpList_load_cells rfl 58 _ rfl gc 31 rfl 96 U2 _ HY2.out Try.underlying58 rfl sizeTags32 ?_)
      | (refine wpList_eql_arr w2 rfl 58 _ _ _ rfl (arr 96 F2) (arr 96 U2) _ rfl rfl guard32 HE2.out ?_))
    go_ret
    exact ⟨ret_bool HBB.out, HB.out⟩
  cases r2
  · have HBB := Lib.hid (show false = sameMb x y by rw [HBR.out]; rfl)
    have t0 := hr0.symm
    clear hr0
    go_wp2_with (first
      | (refine wpList_load_cells rfl 57 _ rfl gb 1 rfl 30 F1 _ HX1.out Try.underlying57 rfl sizeTags10 ?_)
      | (refine wpList_load_cells rfl 57 _ rfl gc 1 rfl 30 U1 _ HY1.out Try.underlying57 rfl sizeTags10 ?_)
      | (refine wpList_eql_arr w2 rfl 57 _ _ _ rfl (arr 30 F1) (arr 30 U1) _ rfl rfl guard10 HE1.out ?_)
      | (refine wpList_load_cells rfl 58 _ rfl gb 31 rfl 96 F2 _ HX2.out Try.underlying58 rfl sizeTags32 ?_)
      | (refine wpList_load_cells rfl 58 _ rfl gc 31 rfl 96 U2 _ HY2.out Try.underlying58 rfl sizeTags32 ?_)
      | (refine wpList_eql_arr w2 rfl 58 _ _ _ rfl (arr 96 F2) (arr 96 U2) _ rfl rfl guard32 HE2.out ?_))
    go_ret
    exact ⟨ret_bool HBB.out, HB.out⟩
  have HBB := Lib.hid (show decide (x.cons = y.cons) = sameMb x y by rw [HBR.out]; rfl)
  have t0 := hr0.symm
  clear hr0
  go_wp2_with (first
    | (refine wpList_load_cells rfl 57 _ rfl gb 1 rfl 30 F1 _ HX1.out Try.underlying57 rfl sizeTags10 ?_)
    | (refine wpList_load_cells rfl 57 _ rfl gc 1 rfl 30 U1 _ HY1.out Try.underlying57 rfl sizeTags10 ?_)
    | (refine wpList_eql_arr w2 rfl 57 _ _ _ rfl (arr 30 F1) (arr 30 U1) _ rfl rfl guard10 HE1.out ?_)
    | (refine wpList_load_cells rfl 58 _ rfl gb 31 rfl 96 F2 _ HX2.out Try.underlying58 rfl sizeTags32 ?_)
    | (refine wpList_load_cells rfl 58 _ rfl gc 31 rfl 96 U2 _ HY2.out Try.underlying58 rfl sizeTags32 ?_)
    | (refine wpList_eql_arr w2 rfl 58 _ _ _ rfl (arr 96 F2) (arr 96 U2) _ rfl rfl guard32 HE2.out ?_))
  refine (sameCons_any w2 A m c A' m' c' x.cons y.cons HM.out HM'.out hs HRW.out HRW'.out).mono ?_
  rintro e w3 ⟨rfl, hB3⟩
  have HB3 := Lib.hid (HB.out.trans (hB3.mono HB.out.size))
  obtain ⟨r, hr⟩ : ∃ r, r = decide (x.cons = y.cons) := ⟨_, rfl⟩
  rw [← hr] at HBB ⊢
  clear hr hB3
  go_wp2_with fail
  go_ret
  exact ⟨ret_bool HBB.out, HB3.out⟩
end Go.Proofs.Ytbomihdnnidelaa
