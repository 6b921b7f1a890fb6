/- Package shape: the law's own answer. -/
import Derived.Test.YtejcijbohnlbgaaShF
import Derived.Test.YtejcijbohnlbgaaShP
namespace Go.Proofs.Ytejcijbohnlbgaa
open Go.ChangeShapes Go.WideShapes Go.ChangeAt Go.RowKit
open Zon
set_option linter.unusedVariables false
set_option linter.unusedSimpArgs false
set_option maxRecDepth 100000
theorem zeroClaim : (Try.prog.info? 62).bind (fun i => i.zero.map Value.cells) = some (arr 128 (clF false (fun _ => 0) (.slice none 0 0))) := by kernel_rfl
theorem sizeClaim : (Try.prog.info? 62).map (·.size) = some 128 := by kernel_rfl
/-- one tag: of a number, at the fourth register -/
def numT : Nat → Int := fun k => if k = 9 then 1 else 0
theorem num_good : goodT numT = true := by kernel_rfl
theorem zero_good : goodT (fun _ => 0) = true := by kernel_rfl
theorem awake_from : fromW numT [⟨5, 0, 9⟩, ⟨0, 5, 0⟩] = 0 := by kernel_rfl
theorem names_from : fromW (fun _ => 0) [⟨5, 0, 9⟩] = 91 := by kernel_rfl
theorem awake_zone : ∃ M, withZ (some topT) [⟨5, 0, 9⟩, ⟨0, 5, 0⟩] = some M ∧ bnd (M 0 5) = some 0 ∧ bnd (M 5 0) = some 9 := ⟨_, rfl, by rfl, by rfl⟩
theorem eq_span : ∀ w, (binOp .eql 74 (.agg #[.int .i64 0, .int .i64 9, .bool false, .bool false]) (.agg #[.int .i64 0, .int .i64 9, .bool false, .bool false])).run Try.prog w = .ok (.bool true) w := fun _ => by kernel_rfl
theorem eq_num : ∀ w, (binOp .eql 58 (.agg #[.int .i64 1, .int .i64 0, .int .i64 0]) (.agg #[.int .i64 1, .int .i64 0, .int .i64 0])).run Try.prog w = .ok (.bool true) w := fun _ => by kernel_rfl
theorem tag_num : tagV numT 5 = .agg #[.int .i64 1, .int .i64 0, .int .i64 0] := by rfl
/-- the claim of one number, as it is made -/
theorem num_claim (V : Value) (k : Nat) (hk : k < 128) : upd (updR (clF false (fun _ => 0) (.slice none 0 0)) 10 3 (fun q => if q = 0 then .int .i64 1 else if q = 1 then .int .i64 0 else .int .i64 0)) 127 V k = clF false numT V k := by
  unfold upd
  by_cases e : k = 127
  · rw [if_pos e]
    unfold clF
    rw [if_neg (by omega), if_neg (by omega)]
  · rw [if_neg e]
    unfold updR
    by_cases e2 : 10 ≤ k ∧ k < 10 + 3
    · rw [if_pos e2]
      obtain rfl | rfl | rfl : k = 10 ∨ k = 11 ∨ k = 12 := by omega
      · rfl
      · rfl
      · rfl
    · rw [if_neg e2]
      unfold clF numT
      by_cases e3 : k = 0
      · rw [if_pos e3, if_pos e3]
      · rw [if_neg e3, if_neg e3, if_pos (by omega), if_pos (by omega), if_neg (by omega)]
set_option maxHeartbeats 4000000 in
theorem shAwake_any (w : World) : Calls Try.prog 29 #[] w (RetV w (.bool true)) := by
  go_enter Try.func29, Try.ntmps29
  go_upto_region 2 with (refine wpList_alloc_seg rfl 62 rfl 128 (clF false (fun _ => 0) (.slice none 0 0)) zeroClaim ?_; intro w1 h1 hB1 hs1)
  obtain ⟨b, hb⟩ : ∃ b, b = w.heap.size := ⟨_, rfl⟩
  rw [← hb] at h1 ⊢
  have H1 := Lib.hid h1
  have HB1 := Lib.hid hB1
  have HBb := Lib.hid (show w.heap.size ≤ b by omega)
  clear h1 hB1 hs1 hb
  go_wp2_with fail
  go_at_call 27
  refine (lawTag_any _ 1 0 0).mono ?_
  rintro e w2 ⟨rfl, hB⟩
  have H2 := Lib.hid (H1.out.up hB)
  have HB2 := Lib.hid (HB1.out.trans (hB.mono HB1.out.size))
  clear hB H1 HB1
  go_upto_region 3 with (refine wpList_store_seg rfl 58 _ _ rfl b 10 62 128 3 _ (fun q => if q = 0 then .int .i64 1 else if q = 1 then .int .i64 0 else .int .i64 0) rfl (congrArg Value.agg (three_arrT _ _ _)) H2.out (by omega) sizeTag (fun q _ => by show (if q = 0 then Value.int .i64 1 else if q = 1 then .int .i64 0 else .int .i64 0).oneCell' = true; split; rfl; split <;> rfl) ?_; intro w3 h3 hT3 hs3)
  have H3 := Lib.hid h3
  have HB3 := Lib.hid (HB2.out.trans (hT3.below HBb.out HB2.out.size))
  clear h3 hT3 hs3 H2 HB2
  have y127 : ∀ o, (w3.alloc o).cell? ⟨b, 127, none⟩ = some (.slice none 0 0) := fun o => by
    rw [(below_box w3 o).cell (p := ⟨b, 127, none⟩) H3.out.lt]
    exact H3.out.cell 127 (by decide)
  have f127 : ∀ o, (w3.alloc o).frozen? ⟨b, 127, none⟩ = false := fun o => FB.frozen (H3.out.alloc o) 127
  go_upto_region 4 with (fail)
  obtain ⟨W4, hW4⟩ : ∃ W, W = (w3.alloc (.cells #[.int .i64 5, .int .i64 0, .int .i64 9, .int .i64 0, .int .i64 5, .int .i64 0] 45)).setCell ⟨b, 127, none⟩ (.slice (some ⟨w3.heap.size, 0, none⟩) 2 2) := ⟨_, rfl⟩
  have H4 := Lib.hid (show FB W4 b 62 128 (clF false numT (.slice (some ⟨w3.heap.size, 0, none⟩) 2 2)) by rw [hW4]; exact FB.congr (FB.set_ (FB.alloc H3.out (.cells #[.int .i64 5, .int .i64 0, .int .i64 9, .int .i64 0, .int .i64 5, .int .i64 0] 45)) 127 (.slice (some ⟨w3.heap.size, 0, none⟩) 2 2)) fun k hk => num_claim _ k hk)
  have HC4 := Lib.hid (show ConsAt W4 (some ⟨w3.heap.size, 0, none⟩) [⟨5, 0, 9⟩, ⟨0, 5, 0⟩] by
    rw [hW4]
    exact ConsAt.touch (g := b) (cons_two w3 45 ⟨5, 0, 9⟩ ⟨0, 5, 0⟩) (fun b' off' e => by injection e with e; injection e with e1; have := H3.out.lt; omega) (Touch.set_ _ 127 (.slice (some ⟨w3.heap.size, 0, none⟩) 2 2)))
  have HB4 := Lib.hid (show Below w.heap.size w W4 by
    rw [hW4]
    exact (HB3.out.trans ((below_box w3 (.cells #[.int .i64 5, .int .i64 0, .int .i64 9, .int .i64 0, .int .i64 5, .int .i64 0] 45)).mono HB3.out.size)).trans ((Touch.set_ (g := b) (w3.alloc (.cells #[.int .i64 5, .int .i64 0, .int .i64 9, .int .i64 0, .int .i64 5, .int .i64 0] 45)) 127 (.slice (some ⟨w3.heap.size, 0, none⟩) 2 2)).below HBb.out (HB3.out.trans ((below_box w3 (.cells #[.int .i64 5, .int .i64 0, .int .i64 9, .int .i64 0, .int .i64 5, .int .i64 0] 45)).mono HB3.out.size)).size))
  rw [← hW4]
  clear hW4 y127 f127
  obtain ⟨q, hq⟩ : ∃ q, q = w3.heap.size := ⟨_, rfl⟩
  rw [← hq] at H4 HC4 ⊢
  clear hq H3 HB3
  go_wp2_with (refine wpList_load_all rfl 62 _ rfl b rfl 62 128 (clF false numT (.slice (some ⟨q, 0, none⟩) 2 2)) _ H4.out Try.underlying62 rfl sizeClaim ?_)
  go_at_call 26
  refine (from_any _ numT (some ⟨q, 0, none⟩) 2 2 [⟨5, 0, 9⟩, ⟨0, 5, 0⟩] rfl (by omega) HC4.out num_good).mono ?_
  rintro e w5 (⟨hE, -⟩ | ⟨-, hE, -⟩ | ⟨-, -, g, rfl, hg, hS, hB⟩)
  · exact absurd awake_from hE
  · obtain ⟨M, hM, -⟩ := awake_zone
    rw [hM] at hE
    cases hE
  obtain ⟨M, hM, hM1, hM2⟩ := awake_zone
  rw [hM] at hS
  have HS5 := Lib.hid hS
  have HM1 := Lib.hid hM1
  have HM2 := Lib.hid hM2
  have HB5 := Lib.hid (HB4.out.trans (hB.mono HB4.out.size))
  clear hS hM hM1 hM2 hB hg H4 HC4 HB4
  have e1 := eq_span
  have e2 := eq_num
  go_wp2_with fail
  go_at_call 30
  refine (shSpan_any _ g 5 M numT 0 9 HS5.out (by omega) HM1.out HM2.out (by omega)).mono ?_
  rintro e w6 ⟨rfl, hB⟩
  have HS6 := Lib.hid (HS5.out.up hB)
  have HB6 := Lib.hid (HB5.out.trans (hB.mono HB5.out.size))
  clear hB HS5 HB5
  go_wp2_with fail
  go_at_call 32
  refine (shTag_any _ g _ numT 5 HS6.out).mono ?_
  rintro e w7 ⟨rfl, hB⟩
  rw [tag_num]
  have HB7 := Lib.hid (HB6.out.trans (hB.mono HB6.out.size))
  clear hB HS6 HB6
  go_wp2_with fail
  go_at_call 27
  refine (lawTag_any _ 1 0 0).mono ?_
  rintro e w8 ⟨rfl, hB⟩
  have HB8 := Lib.hid (HB7.out.trans (hB.mono HB7.out.size))
  clear hB HB7
  go_wp2_with fail
  go_ret
  exact ⟨rfl, HB8.out⟩
end Go.Proofs.Ytejcijbohnlbgaa
