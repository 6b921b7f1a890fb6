/- Contracts of package zone: open, New. -/
import Derived.Test.YtejcijbohnlbgaaZB
namespace Go.Proofs.Ytejcijbohnlbgaa
open Go.ChangeShapes Go.WideShapes Go.ChangeAt Go.RowKit
open Zon
set_option linter.unusedVariables false
set_option maxRecDepth 100000
/-- the cells of a table; of a zone -/
def tabC (M : Tab) : Nat → Value := fun k => .int .i64 (M (k / 60) (k % 60))
def zc (e : Bool) (M : Tab) : Nat → Value := fun k => if k = 0 then .bool e else tabC M (k - 1)
theorem tabC_at (M : Tab) (p q : Nat) (hq : q < 60) : tabC M (p * 60 + q) = .int .i64 (M p q) := by
  unfold tabC
  rw [show (p * 60 + q) / 60 = p by omega, show (p * 60 + q) % 60 = q by omega]
theorem zc_at (e : Bool) (M : Tab) (p q : Nat) (hq : q < 60) : zc e M (1 + p * 60 + q) = .int .i64 (M p q) := by
  unfold zc
  rw [if_neg (by omega), show 1 + p * 60 + q - 1 = p * 60 + q by omega, tabC_at M p q hq]
theorem open_step (z : Nat → Value) (k j : Nat) (hk : k < 60) : upd (updR (updR z 0 (k * 60) (tabC topT)) (k * 60) 60 blankF) (k * 60 + k) (.int .i64 0) j = updR z 0 ((k + 1) * 60) (tabC topT) j := by
  unfold upd updR
  by_cases e : j = k * 60 + k
  · subst e
    rw [if_pos rfl, if_pos (by omega), Nat.sub_zero, tabC_at _ _ _ hk]
    unfold topT
    rw [if_pos rfl]
  · rw [if_neg e]
    by_cases h1 : k * 60 ≤ j ∧ j < k * 60 + 60
    · rw [if_pos h1, if_pos (by omega), Nat.sub_zero]
      unfold tabC topT blankF
      have : j / 60 ≠ j % 60 := by omega
      rw [if_neg this]
    · rw [if_neg h1]
      by_cases h2 : j < k * 60
      · rw [if_pos (by omega)]
        have : 0 ≤ j ∧ j < 0 + (k + 1) * 60 := by omega
        rw [if_pos this]
      · rw [if_neg (by omega)]
        have : ¬ (0 ≤ j ∧ j < 0 + (k + 1) * 60) := by omega
        rw [if_neg this]
set_option maxHeartbeats 1000000 in
theorem open_any (w : World) : Calls Try.prog 40 #[] w fun e w' => e = .returned (.agg (arr 3600 (tabC topT))) ∧ Below w.heap.size w w' := by
  go_enter Try.func40, Try.ntmps40
  go_upto_region 1 with (refine wpList_alloc_seg rfl 103 rfl 3600 (fun _ => .int .i64 0) zeroTab ?_; intro w1 hb1 hB1 hs1)
  obtain ⟨g1, hg1⟩ : ∃ g, g = w.heap.size := ⟨_, rfl⟩
  rw [← hg1] at hb1 ⊢
  have HG1 := Lib.hid hg1
  have HB1 := Lib.hid hB1
  have Hb1 := Lib.hid hb1
  have HS1 := Lib.hid hs1
  clear hg1 hb1 hB1 hs1
  go_upto_region 2 with (refine wpList_alloc_seg rfl 103 rfl 3600 (fun _ => .int .i64 0) zeroTab ?_; intro w2 hb2 hB2 hs2)
  obtain ⟨g2, hg2⟩ : ∃ g, g = w1.heap.size := ⟨_, rfl⟩
  rw [← hg2] at hb2 ⊢
  have HG2 := Lib.hid hg2
  have HB2 := Lib.hid (HB1.out.trans (hB2.mono HB1.out.size))
  have Hb1' := Lib.hid (Hb1.out.up hB2)
  have Hb2 := Lib.hid hb2
  clear hg2 hb2 hB2 hs2 Hb1
  go_wp2_with fail
  go_loopw [3] (fun i wr => ∃ k : Nat, k ≤ 60 ∧ i = .int .i64 k ∧ FB wr g2 103 3600 (updR (fun _ => .int .i64 0) 0 (k * 60) (tabC topT)) ∧ Touch g2 w2 wr) (fun i _ => (60 - intOf i).toNat)
  case atStart => exact ⟨0, by omega, rfl, Hb2.out.congr fun k _ => (updR_zero (fun _ => .int .i64 0) (tabC topT) 0 k).symm, Touch.refl _ _⟩
  case round =>
    obtain ⟨k, hk, rfl, hB, hT⟩ := hrel
    by_cases hlt : k < 60
    · have hlt' : (k : Int) < 60 := by omega
      have hk0 : (0 : Int) ≤ k := by omega
      have HBk := Lib.hid hB
      have HTk := Lib.hid hT
      clear hB hT
      go_upto_region 5 with (fail)
      go_wp2_with fail
      go_at_call 71
      refine (blank_any _).mono ?_
      rintro e w3 ⟨rfl, hB3⟩
      have HBk3 := Lib.hid (HBk.out.up hB3)
      have HTk3 := Lib.hid (HTk.out.trans (.of_below hB3))
      clear hB3 HBk HTk
      go_upto_region 6 with (refine wpList_store_seg rfl 101 _ _ rfl g2 (k * 60) 103 3600 60 _ blankF rfl rfl HBk3.out (by omega) sizeRow (fun _ _ => rfl) ?_; intro w4 h4 hT4 hs4)
      have hx := h4.cell (k * 60 + k) (by omega)
      have hf := h4.frozen (k * 60 + k)
      have HBn := Lib.hid (h4.set_ (k * 60 + k) (.int .i64 0))
      have HTn := Lib.hid ((HTk3.out.trans hT4).trans (Touch.set_ w4 (k * 60 + k) (.int .i64 0)))
      clear h4 hT4 hs4 HTk3 HBk3
      go_wp2_with fail
      go_roundw
      case rel => exact ⟨k + 1, by omega, by go_num, HBn.out.congr fun j _ => open_step _ k j hlt, HTn.out⟩
      case measure => simp [intOf]; omega
    · obtain rfl : k = 60 := by omega
      have hg12 : g1 ≠ g2 := by have := HG1.out; have := HG2.out; have := HS1.out; omega
      have h1 := Lib.hid (Hb1'.out.touch hT hg12)
      have HBl := Lib.hid (show Below w.heap.size w wr from HB2.out.trans (hT.below (by rw [HG2.out]; exact HB1.out.size) HB2.out.size))
      have h2 := Lib.hid (hB.congr (f' := tabC topT) fun k hk => by unfold updR; rw [if_pos (by omega), Nat.sub_zero])
      clear hT hB
      go_wp2_with (first
        | (refine wpList_load_all rfl 103 _ rfl g2 rfl 103 3600 (tabC topT) _ h2.out Try.underlying103 rfl sizeTab ?_)
        | (refine wpList_store_all rfl 103 _ _ rfl g1 103 3600 _ (tabC topT) rfl rfl h1.out sizeTab (fun _ _ => rfl) ?_; intro w3 h3 hT3 hs3))
      refine bodyPost_ret (result_seg rfl _ _ g1 _ 3600 (tabC topT) _ rfl h3 Try.underlying103 rfl sizeTab) rfl ⟨rfl, ?_⟩
      exact HBl.out.trans (hT3.below (by rw [HG1.out]; exact Nat.le_refl _) HBl.out.size)
theorem placesZone : (match Try.prog.underlying 106 with | some (.struct fs) => fs.toList.mapM (fun f => (Try.prog.info? f.type).map fun i => (f.offset, i.size)) | _ => none) = some [(0, 1), (1, 3600)] := by kernel_rfl
theorem built_zone (M : Tab) : Try.prog.built 106 [(1, .agg (arr 3600 (tabC M)))] = some (arr 3601 (zc false M)) := by
  have h := placesZone
  rw [Try.underlying106] at h
  rw [built_seg 106 1 3601 1 3600 zr (tabC M) _ _ Try.underlying106 zeroZone h rfl (by omega)]
  refine congrArg some (arr_congr fun k hk => ?_)
  unfold updR zc zr
  by_cases e : k = 0
  · subst e; rfl
  · rw [if_pos (by omega), if_neg e]
def ZB (w : World) (g : Nat) (e : Bool) (M : Tab) : Prop := FB w g 106 3601 (zc e M)
set_option maxHeartbeats 1000000 in
theorem new_any (w : World) : Calls Try.prog 8 #[] w fun e w' => ∃ g, e = .returned (.pointer (some ⟨g, 0, none⟩)) ∧ w.heap.size ≤ g ∧ ZB w' g false topT ∧ Below w.heap.size w w' := by
  go_enter Try.func8, Try.ntmps8
  go_wp2_with fail
  go_at_call 40
  refine (open_any w).mono ?_
  rintro e w3 ⟨rfl, hB3⟩
  have HB := Lib.hid hB3
  clear hB3
  go_wp2_with (first
    | (refine wpList_build_one rfl 106 1 _ rfl (.agg (arr 3600 (tabC topT))) _ rfl (built_zone topT) ?_)
    | (refine wpList_box_seg rfl 106 _ rfl 3601 (zc false topT) rfl ?_; intro w4 h4 hB4 hs4))
  go_ret
  exact ⟨_, rfl, HB.out.size, h4, HB.out.trans (hB4.mono HB.out.size)⟩
end Go.Proofs.Ytejcijbohnlbgaa
