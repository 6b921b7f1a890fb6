/- ShapeNames: the walk of the law. Written by mkshn.py. -/
import Derived.Test.YtejcijbohnlbgaaShG
namespace Go.Proofs.Ytejcijbohnlbgaa
open Go.ChangeShapes Go.WideShapes Go.ChangeAt Go.RowKit
open Zon
set_option linter.unusedVariables false
set_option linter.unusedSimpArgs false
set_option maxRecDepth 100000
theorem neq_tags : ∀ w, (binOp .neq 80 (.agg (arr 126 (tgF numT))) (.agg Try.zeroCells80)).run Try.prog w = .ok (.bool true) w := fun _ => by kernel_rfl
set_option maxHeartbeats 4000000 in
theorem from_dead (w : World) (V : Value) : Calls Try.prog 26 #[.agg (arr 128 (clF true numT V))] w (RetV w (.tuple #[.pointer none, .int .i64 93])) := by
  obtain ⟨CF, hCF⟩ : ∃ f, f = clF true numT V := ⟨_, rfl⟩
  have X00 := Lib.hid (show CF 0 = .bool true by rw [hCF]; rfl)
  have HR := Lib.hid (show (arr 30 fun q => CF (1 + q)) = arr 30 (tgF numT) by rw [hCF]; exact cl_regs _ _ _)
  have HK := Lib.hid (show (arr 96 fun q => CF (31 + q)) = arr 96 (tgF fun k => numT (k + 30)) by rw [hCF]; exact cl_stack _ _ _)
  have HTO := Lib.hid (fun W => show Calls Try.prog 63 #[.agg (arr 30 fun q => CF (1 + q)), .agg (arr 96 fun q => CF (31 + q))] W (RetV W (.agg (arr 126 (tgF numT)))) by rw [HR.out, HK.out]; have := together_any W numT (fun k => numT (k + 30)); rw [cl_join] at this; exact this)
  rw [← hCF]
  clear hCF HR HK
  go_enter Try.func26, Try.ntmps26
  go_upto_region 1 with (refine wpList_box_seg rfl 62 (.tmp 0) rfl 128 CF rfl ?_; intro w1 hF1 hB1 hs1)
  obtain ⟨b, hb⟩ : ∃ b, b = w.heap.size := ⟨_, rfl⟩
  rw [← hb] at hF1 ⊢
  have HF1 := Lib.hid hF1
  have HB1 := Lib.hid hB1
  clear hF1 hB1 hs1 hb
  go_wp2_with (first
    | (refine wpList_load_seg rfl 59 _ rfl b 1 rfl 62 128 30 CF _ HF1.out (by omega) Try.underlying59 rfl sizeRegs ?_)
    | (refine wpList_load_seg rfl 60 _ rfl b 31 rfl 62 128 96 CF _ HF1.out (by omega) Try.underlying60 rfl sizeStack ?_))
  go_at_call 63
  refine (HTO.out _).mono ?_
  rintro e w2 ⟨rfl, hB⟩
  have HF2 := Lib.hid (HF1.out.up hB)
  have HB2 := Lib.hid (HB1.out.trans (hB.mono HB1.out.size))
  have HNE := Lib.hid neq_tags
  obtain ⟨J, hJ⟩ : ∃ J, J = tgF numT := ⟨_, rfl⟩
  rw [← hJ] at HNE ⊢
  have HJ1 := Lib.hid (show ∀ q, q < 126 → (J q).oneCell' = true by rw [hJ]; exact tgF_one _ _)
  clear hB hJ HF1 HB1 HTO
  go_upto_region 2 with (first
    | (refine wpList_alloc_seg rfl 80 rfl 126 (tgF fun _ => 0) zeroTags ?_; intro w3 hF3 hB3 hs3)
    | (refine wpList_store_all rfl 80 _ _ rfl w2.heap.size 80 126 _ J rfl rfl hF3 sizeTags HJ1.out ?_; intro w4 hF4 hT4 hs4))
  have y0 : w4.cell? ⟨b, 0, none⟩ = some (.bool true) := by
    rw [← X00.out]
    exact ((HF2.out.up hB3).touch hT4 (Nat.ne_of_lt HF2.out.lt)).cell 0 (by decide)
  obtain ⟨g, hg⟩ : ∃ g, g = w2.heap.size := ⟨_, rfl⟩
  have HB4 := Lib.hid (show Below w.heap.size w w4 from (HB2.out.trans (hB3.mono HB2.out.size)).trans (hT4.below HB2.out.size (by have := HB2.out.size; omega)))
  rw [← hg] at hF4 ⊢
  have HF4 := Lib.hid hF4
  clear hF3 hB3 hs3 hF4 hT4 hs4 hg HF2 HB2 HJ1
  go_upto_region 3 with (fail)
  have hne := HNE.out
  go_wp2_with (refine wpList_load_all rfl 80 _ rfl g rfl 80 126 J _ HF4.out Try.underlying80 rfl sizeTags ?_)
  go_ret2
  exact ⟨rfl, HB4.out⟩
theorem cons_claim (T : Nat → Int) (V V0 : Value) (k : Nat) (hk : k < 128) : upd (clF false T V0) 127 V k = clF false T V k := by
  unfold upd clF
  by_cases e : k = 127
  · rw [if_pos e, if_neg (by omega), if_neg (by omega)]
  · rw [if_neg e]
    by_cases e3 : k = 0
    · rw [if_pos e3, if_pos e3]
    · rw [if_neg e3, if_neg e3, if_pos (by omega), if_pos (by omega)]
theorem dead_claim (k : Nat) (hk : k < 128) : updR (upd (clF false (fun _ => 0) (.slice none 0 0)) 0 (.bool true)) 10 3 (fun q => if q = 0 then .int .i64 1 else if q = 1 then .int .i64 0 else .int .i64 0) k = clF true numT (.slice none 0 0) k := by
  unfold updR
  by_cases e2 : 10 ≤ k ∧ k < 10 + 3
  · rw [if_pos e2]
    obtain rfl | rfl | rfl : k = 10 ∨ k = 11 ∨ k = 12 := by omega
    · rfl
    · rfl
    · rfl
  · rw [if_neg e2]
    unfold upd clF numT
    by_cases e3 : k = 0
    · rw [if_pos e3, if_pos e3]
    · rw [if_neg e3, if_neg e3, if_neg e3]
      by_cases e4 : k < 127
      · rw [if_pos e4, if_pos e4, if_neg (by omega)]
      · rw [if_neg e4, if_neg e4]
theorem names_zone : ∃ M, startZ 4 100 = some M ∧ bnd (M 0 1) = some (-4) ∧ bnd (M 1 0) = some 100 ∧ bnd (M 0 3) = some 0 ∧ bnd (M 3 0) = some 0 ∧ bnd (M 4 1) = some 0 := ⟨_, rfl, by rfl, by rfl, by rfl, by rfl, by rfl⟩
theorem eq_sp1 : ∀ w, (binOp .eql 74 (.agg #[.int .i64 4, .int .i64 100, .bool false, .bool false]) (.agg #[.int .i64 4, .int .i64 100, .bool false, .bool false])).run Try.prog w = .ok (.bool true) w := fun _ => by kernel_rfl
theorem eq_sp0 : ∀ w, (binOp .eql 74 (.agg #[.int .i64 0, .int .i64 0, .bool false, .bool false]) (.agg #[.int .i64 0, .int .i64 0, .bool false, .bool false])).run Try.prog w = .ok (.bool true) w := fun _ => by kernel_rfl
theorem eq_bd : ∀ w, (binOp .eql 77 (.agg #[.bool true, .int .i64 0]) (.agg #[.bool true, .int .i64 0])).run Try.prog w = .ok (.bool true) w := fun _ => by kernel_rfl
theorem eq_ctx : ∀ w, (binOp .eql 58 (.agg #[.int .i64 3, .int .i64 0, .int .i64 0]) (.agg #[.int .i64 3, .int .i64 0, .int .i64 0])).run Try.prog w = .ok (.bool true) w := fun _ => by kernel_rfl
theorem tag_ctx : tagV startT 3 = .agg #[.int .i64 3, .int .i64 0, .int .i64 0] := by rfl
theorem dead_void : voidB deadZ = true := by rfl
set_option maxHeartbeats 8000000 in
theorem shapeNames_walk (w : World) : Calls Try.prog 4 #[] w (True_ w) := by
  go_enter Try.func4, Try.ntmps4
  go_upto_region 3 with (refine wpList_alloc_seg rfl 62 rfl 128 (clF false (fun _ => 0) (.slice none 0 0)) zeroClaim ?_; intro w1 h1 hB1 hs1)
  obtain ⟨b, hb⟩ : ∃ b, b = w.heap.size := ⟨_, rfl⟩
  rw [← hb] at h1 ⊢
  have H1 := Lib.hid h1
  have HB1 := Lib.hid hB1
  have HBb := Lib.hid (show w.heap.size ≤ b by omega)
  clear h1 hB1 hs1 hb
  have y127 : ∀ o, (w1.alloc o).cell? ⟨b, 127, none⟩ = some (.slice none 0 0) := fun o => by
    rw [(below_box w1 o).cell (p := ⟨b, 127, none⟩) H1.out.lt]
    exact H1.out.cell 127 (by decide)
  have f127 : ∀ o, (w1.alloc o).frozen? ⟨b, 127, none⟩ = false := fun o => FB.frozen (H1.out.alloc o) 127
  go_upto_region 4 with (fail)
  obtain ⟨W4, hW4⟩ : ∃ W, W = (w1.alloc (.cells #[.int .i64 5, .int .i64 0, .int .i64 9] 45)).setCell ⟨b, 127, none⟩ (.slice (some ⟨w1.heap.size, 0, none⟩) 1 1) := ⟨_, rfl⟩
  have H4 := Lib.hid (show FB W4 b 62 128 (clF false (fun _ => 0) (.slice (some ⟨w1.heap.size, 0, none⟩) 1 1)) by rw [hW4]; exact FB.congr (FB.set_ (FB.alloc H1.out (.cells #[.int .i64 5, .int .i64 0, .int .i64 9] 45)) 127 (.slice (some ⟨w1.heap.size, 0, none⟩) 1 1)) fun k hk => cons_claim _ _ _ k hk)
  have HC4 := Lib.hid (show ConsAt W4 (some ⟨w1.heap.size, 0, none⟩) [⟨5, 0, 9⟩] by
    rw [hW4]
    exact ConsAt.touch (g := b) (cons_one w1 45 5 0 9) (fun b' off' e => by injection e with e; injection e with e1; have := H1.out.lt; omega) (Touch.set_ _ 127 (.slice (some ⟨w1.heap.size, 0, none⟩) 1 1)))
  have HB4 := Lib.hid (show Below w.heap.size w W4 by
    rw [hW4]
    exact (HB1.out.trans ((below_box w1 (.cells #[.int .i64 5, .int .i64 0, .int .i64 9] 45)).mono HB1.out.size)).trans ((Touch.set_ (g := b) (w1.alloc (.cells #[.int .i64 5, .int .i64 0, .int .i64 9] 45)) 127 (.slice (some ⟨w1.heap.size, 0, none⟩) 1 1)).below HBb.out (HB1.out.trans ((below_box w1 (.cells #[.int .i64 5, .int .i64 0, .int .i64 9] 45)).mono HB1.out.size)).size))
  rw [← hW4]
  clear hW4 y127 f127
  obtain ⟨q, hq⟩ : ∃ q, q = w1.heap.size := ⟨_, rfl⟩
  rw [← hq] at H4 HC4 ⊢
  clear hq H1 HB1
  go_wp2_with (refine wpList_load_all rfl 62 _ rfl b rfl 62 128 (clF false (fun _ => 0) (.slice (some ⟨q, 0, none⟩) 1 1)) _ H4.out Try.underlying62 rfl sizeClaim ?_)
  go_at_call 26
  refine (from_any _ (fun _ => 0) (some ⟨q, 0, none⟩) 1 1 [⟨5, 0, 9⟩] rfl (by omega) HC4.out zero_good).mono ?_
  rw [names_from]
  rintro e w5 (⟨-, rfl, hB⟩ | ⟨hE, -⟩ | ⟨hE, -⟩)
  rotate_left
  · exact absurd hE (by decide)
  · exact absurd hE (by decide)
  have HB5 := Lib.hid (HB4.out.trans (hB.mono HB4.out.size))
  clear hB H4 HC4 HB4 HBb
  go_upto_region 6 with (refine wpList_alloc_seg rfl 62 rfl 128 (clF false (fun _ => 0) (.slice none 0 0)) zeroClaim ?_; intro w6 h6 hB6 hs6)
  obtain ⟨b2, hb2⟩ : ∃ b, b = w5.heap.size := ⟨_, rfl⟩
  rw [← hb2] at h6 ⊢
  have H6 := Lib.hid h6
  have HBb2 := Lib.hid (show w.heap.size ≤ b2 by have := HB5.out.size; omega)
  have HB6 := Lib.hid (HB5.out.trans (hB6.mono HB5.out.size))
  clear h6 hB6 hs6 hb2 HB5
  have y0 : w6.cell? ⟨b2, 0, none⟩ = some (.bool false) := H6.out.cell 0 (by decide)
  have f0 : w6.frozen? ⟨b2, 0, none⟩ = false := FB.frozen H6.out 0
  go_upto_region 7 with (fail)
  obtain ⟨W7, hW7⟩ : ∃ W, W = w6.setCell ⟨b2, 0, none⟩ (.bool true) := ⟨_, rfl⟩
  have H7 := Lib.hid (show FB W7 b2 62 128 (upd (clF false (fun _ => 0) (.slice none 0 0)) 0 (.bool true)) by rw [hW7]; exact FB.set_ H6.out 0 _)
  have HB7 := Lib.hid (show Below w.heap.size w W7 by rw [hW7]; exact HB6.out.trans ((Touch.set_ (g := b2) w6 0 (.bool true)).below HBb2.out HB6.out.size))
  rw [← hW7]
  clear hW7 y0 f0 H6 HB6
  go_wp2_with fail
  go_at_call 27
  refine (lawTag_any _ 1 0 0).mono ?_
  rintro e w8 ⟨rfl, hB⟩
  have H8 := Lib.hid (H7.out.up hB)
  have HB8 := Lib.hid (HB7.out.trans (hB.mono HB7.out.size))
  clear hB H7 HB7
  go_upto_region 8 with (refine wpList_store_seg rfl 58 _ _ rfl b2 10 62 128 3 _ (fun q => if q = 0 then .int .i64 1 else if q = 1 then .int .i64 0 else .int .i64 0) rfl (congrArg Value.agg (three_arrT _ _ _)) H8.out (by omega) sizeTag (fun q _ => by show (if q = 0 then Value.int .i64 1 else if q = 1 then .int .i64 0 else .int .i64 0).oneCell' = true; split; rfl; split <;> rfl) ?_; intro w9 h9 hT9 hs9)
  have H9 := Lib.hid (h9.congr dead_claim)
  have HB9 := Lib.hid (HB8.out.trans (hT9.below HBb2.out HB8.out.size))
  clear h9 hT9 hs9 H8 HB8
  go_wp2_with (refine wpList_load_all rfl 62 _ rfl b2 rfl 62 128 (clF true numT (.slice none 0 0)) _ H9.out Try.underlying62 rfl sizeClaim ?_)
  go_at_call 26
  refine (from_dead _ _).mono ?_
  rintro e w10 ⟨rfl, hB⟩
  have HB10 := Lib.hid (HB9.out.trans (hB.mono HB9.out.size))
  clear hB H9 HB9
  go_wp2_with fail
  go_at_call 28
  refine (start_any _ 4 100 _ _ _ (by omega) (by omega) (by omega)).mono ?_
  rintro e w11 ⟨g, rfl, hg, hS, hB⟩
  obtain ⟨M, hM, m1, m2, m3, m4, m5⟩ := names_zone
  rw [hM] at hS
  have HS11 := Lib.hid hS
  have M1 := Lib.hid m1
  have M2 := Lib.hid m2
  have M3 := Lib.hid m3
  have M4 := Lib.hid m4
  have M5 := Lib.hid m5
  have HB11 := Lib.hid (HB10.out.trans (((below_box w10 (.cells #[.int .i64 4, .int .i64 100, .slice none 0 0, .slice none 0 0, .slice none 0 0] 71)).trans (hB.mono (below_box w10 (.cells #[.int .i64 4, .int .i64 100, .slice none 0 0, .slice none 0 0, .slice none 0 0] 71)).size)).mono HB10.out.size))
  clear hS hM m1 m2 m3 m4 m5 hB hg HB10
  go_wp2_with fail
  go_at_call 29
  refine (shAwake_any _).mono ?_
  rintro e w12 ⟨rfl, hB⟩
  have HS12 := Lib.hid (HS11.out.up hB)
  have HB12 := Lib.hid (HB11.out.trans (hB.mono HB11.out.size))
  clear hB HS11 HB11
  have e1 := eq_sp1
  have e2 := eq_sp0
  have e3 := eq_bd
  have e4 := eq_ctx
  go_wp2_with fail
  go_at_call 30
  refine (shSpan_any _ g 1 M startT (-4) 100 HS12.out (by omega) M1.out M2.out (by omega)).mono ?_
  rintro e w13 ⟨rfl, hB⟩
  have HS13 := Lib.hid (HS12.out.up hB)
  have HB13 := Lib.hid (HB12.out.trans (hB.mono HB12.out.size))
  clear hB HS12 HB12
  go_wp2_with fail
  go_at_call 30
  refine (shSpan_any _ g 3 M startT 0 0 HS13.out (by omega) M3.out M4.out (by omega)).mono ?_
  rintro e w14 ⟨rfl, hB⟩
  have HS14 := Lib.hid (HS13.out.up hB)
  have HB14 := Lib.hid (HB13.out.trans (hB.mono HB13.out.size))
  clear hB HS13 HB13
  obtain ⟨p, hF, hZ⟩ := HS14.out
  have x0 : w14.cell? ⟨g, 0, none⟩ = some (.pointer (some ⟨p, 0, none⟩)) := hF.cell 0 (by decide)
  have HZ14 := Lib.hid hZ
  clear hF hZ
  go_wp2_with fail
  go_at_call 31
  refine (Bound_at _ p 4 1 M HZ14.out (by omega) (by omega)).mono ?_
  rintro e w15 ⟨rfl, hB⟩
  rw [M5.out]
  have HS15 := Lib.hid (HS14.out.up hB)
  have HB15 := Lib.hid (HB14.out.trans (hB.mono HB14.out.size))
  clear hB HS14 HB14 HZ14 x0
  have ebv : bv (some 0) = .agg #[.bool true, .int .i64 0] := rfl
  rw [ebv]
  clear ebv
  go_wp2_with fail
  go_at_call 32
  refine (shTag_any _ g _ startT 3 HS15.out).mono ?_
  rintro e w16 ⟨rfl, hB⟩
  rw [tag_ctx]
  have HS16 := Lib.hid (HS15.out.up hB)
  have HB16 := Lib.hid (HB15.out.trans (hB.mono HB15.out.size))
  clear hB HS15 HB15
  go_wp2_with fail
  go_at_call 27
  refine (lawTag_any _ 3 0 0).mono ?_
  rintro e w17 ⟨rfl, hB⟩
  have HS17 := Lib.hid (HS16.out.up hB)
  have HB17 := Lib.hid (HB16.out.trans (hB.mono HB16.out.size))
  clear hB HS16 HB16
  go_wp2_with fail
  go_at_call 33
  refine (dead_any _).mono ?_
  rintro e w18 ⟨gd, rfl, hg, hD, hB⟩
  have HD18 := Lib.hid hD
  have HS18 := Lib.hid (HS17.out.up hB)
  have HB18 := Lib.hid (HB17.out.trans (hB.mono HB17.out.size))
  clear hB hg hD HS17 HB17
  go_wp2_with fail
  go_at_call 34
  refine (shDead_any _ gd deadZ _ HD18.out).mono ?_
  rintro e w19 ⟨rfl, hB⟩
  rw [dead_void]
  have HS19 := Lib.hid (HS18.out.up hB)
  have HB19 := Lib.hid (HB18.out.trans (hB.mono HB18.out.size))
  clear hB HS18 HB18 HD18
  go_wp2_with fail
  go_at_call 34
  refine (shDead_any _ g (some M) _ HS19.out).mono ?_
  rintro e w20 ⟨rfl, hB⟩
  have HB20 := Lib.hid (HB19.out.trans (hB.mono HB19.out.size))
  have ev : voidB (some M) = false := rfl
  rw [ev]
  clear hB HS19 HB19 ev
  go_wp2_with fail
  go_ret
  exact ⟨rfl, HB20.out⟩
end Go.Proofs.Ytejcijbohnlbgaa
