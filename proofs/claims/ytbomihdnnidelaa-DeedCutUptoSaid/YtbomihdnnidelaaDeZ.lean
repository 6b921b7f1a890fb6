/- Package deed: what is wrong with a deed; Encode. Laid by wip/tools/mkdez.py. -/
import Derived.Test.YtbomihdnnidelaaDeY
namespace Go.Proofs.Ytbomihdnnidelaa
open Go.ChangeShapes Go.WideShapes Go.ChangeAt Go.RowKit
open Dee
set_option linter.unusedVariables false
set_option linter.unusedSimpArgs false
set_option maxRecDepth 100000
theorem loop_split (l : Lp) : loopB l = (headB l.h && (varB l.a && (varB l.b && (constB l.k && fallB l.d)))) := rfl
theorem wrong_many {d : Md} (h : 8 < d.loops.length ∨ 512 < d.claims.length) : wrongMd d = 112 := by unfold wrongMd; rw [if_pos h]
theorem wrong_loop {d : Md} (h : ¬ (8 < d.loops.length ∨ 512 < d.claims.length)) {l : Lp} (hm : l ∈ d.loops) (hl : loopB l = false) : wrongMd d = 113 := by
  unfold wrongMd
  rw [if_neg h, if_neg]
  intro h2
  rw [h2 l hm] at hl
  cases hl
theorem wrong_rest {d : Md} (h : ¬ (8 < d.loops.length ∨ 512 < d.claims.length)) (h2 : ∀ l ∈ d.loops, loopB l = true) : wrongMd d = clsE d.claims := by
  unfold wrongMd
  rw [if_neg h, if_pos h2]
set_option maxHeartbeats 16000000 in
theorem wrong_any (w : World) (vl vc : Value) (d : Md) (hat : DeedAt w.heap.size w vl vc d) :
    Calls Try.prog 29 #[.agg (arr 2 (deF vl vc))] w (RetB w (.int .i64 (wrongMd d))) := by
  obtain ⟨⟨Al, ml, cl, rfl, HLL, hRl⟩, ⟨Ac, mc, cc, ps, rfl, HLC, hmap, hRc, hCV⟩⟩ := hat
  have HRL := Lib.hid hRl
  have HRC := Lib.hid hRc
  have HCV := Lib.hid hCV
  have HMP := Lib.hid hmap
  have HLD := Lib.hid (show d.claims.length = mc by rw [← HMP.out, List.length_map]; exact HLC.out)
  clear hRl hRc hCV hmap
  obtain ⟨T, hT⟩ : ∃ T, T = deF (.slice Al ml cl) (.slice Ac mc cc) := ⟨_, rfl⟩
  have HTT := Lib.hid hT
  rw [← hT]
  clear hT
  go_enter Try.func29, Try.ntmps29
  go_upto_region 1 with (refine wpList_box_seg rfl _ (.tmp 0) rfl 2 T rfl ?_; intro w1 h1 hB1 hs1)
  obtain ⟨gb, hgb⟩ : ∃ gb, gb = w.heap.size := ⟨_, rfl⟩
  rw [← hgb] at h1 ⊢
  have HF0 := Lib.hid (show FB w1 gb 26 2 (deF (.slice Al ml cl) (.slice Ac mc cc)) by rw [← HTT.out]; exact h1)
  have HB0 := Lib.hid hB1
  clear h1 hB1 hs1 hgb
  have x0 : w1.cell? ⟨gb, 0, none⟩ = some (.slice Al ml cl) := HF0.out.cell 0 (by decide)
  have x1 : w1.cell? ⟨gb, 1, none⟩ = some (.slice Ac mc cc) := HF0.out.cell 1 (by decide)
  by_cases h8 : 8 < ml
  · have HE := Lib.hid (wrong_many (d := d) (.inl (by rw [HLL.out]; exact h8)))
    have t8 : decide ((8 : Int) < ml) = true := decide_eq_true (by omega)
    go_wp2_with fail
    go_ret
    exact ⟨ret_i64 (by rw [HE.out]), HB0.out⟩
  have t8 : decide ((8 : Int) < ml) = false := decide_eq_false (by omega)
  by_cases h512 : 512 < mc
  · have HE := Lib.hid (wrong_many (d := d) (.inr (by rw [HLD.out]; exact h512)))
    have t5 : decide ((512 : Int) < mc) = true := decide_eq_true (by omega)
    go_wp2_with fail
    go_ret
    exact ⟨ret_i64 (by rw [HE.out]), HB0.out⟩
  have t5 : decide ((512 : Int) < mc) = false := decide_eq_false (by omega)
  have HN := Lib.hid (show ¬ (8 < d.loops.length ∨ 512 < d.claims.length) by rw [HLL.out, HLD.out]; omega)
  go_wp2_with fail
  clear x0 x1 t8 t5
  go_loopw [2, 4, 21, 22, 23, 24, 25, 26, 27, 28, 29, 30, 31, 32, 33, 34, 35, 36, 37, 38, 39, 40, 41, 42, 43, 44, 45, 46, 47, 48, 49, 50, 51, 52, 53] (fun a2 _ a21 _ _ _ _ _ _ _ _ _ _ _ _ _ _ _ _ _ _ _ _ _ _ _ _ _ _ _ _ _ _ _ _ wr => ∃ (j : Nat), j ≤ ml ∧ a2 = .int .i64 0 ∧ a21 = .int .i64 j ∧ FB wr gb 26 2 (deF (.slice Al ml cl) (.slice Ac mc cc)) ∧ Below w.heap.size w wr ∧ ∀ l ∈ d.loops.take j, loopB l = true) (fun _ _ a21 _ _ _ _ _ _ _ _ _ _ _ _ _ _ _ _ _ _ _ _ _ _ _ _ _ _ _ _ _ _ _ _ _ => (ml - intOf a21).toNat)
  case atStart => exact ⟨0, by omega, rfl, rfl, HF0.out, HB0.out, fun l hl => by simp at hl⟩
  case round =>
    obtain ⟨j, hj, rfl, rfl, hF, hB, hall⟩ := hrel
    clear HF0 HB0
    have HF := Lib.hid hF
    have HB := Lib.hid hB
    have HALL := Lib.hid hall
    clear hF hB hall
    by_cases hlt : j < ml
    · have hlt' : (j : Int) < ml := by omega
      obtain ⟨b, off, rfl, hbB, hcells⟩ := HRL.out (by have := HLL.out; omega)
      obtain ⟨y, hy⟩ : ∃ y, d.loops[j]? = some y := ⟨d.loops[j]'(by have := HLL.out; omega), List.getElem?_eq_getElem _⟩
      have HX3 := Lib.hid (fun k (hk : k < 5) => (HB.out.cell (p := ⟨b, off + j * 5 + k, none⟩) hbB).trans (hcells j y hy k hk))
      have HYM := Lib.hid (List.mem_of_getElem? hy)
      have HTK := Lib.hid (show d.loops.take (j + 1) = d.loops.take j ++ [y] by rw [List.take_add_one, hy]; rfl)
      clear hcells hy
      obtain ⟨F, hFF⟩ : ∃ F, F = loF y := ⟨_, rfl⟩
      rw [← hFF] at HX3
      have HO := Lib.hid (show ∀ q, q < 5 → (F q).oneCell' = true by rw [hFF]; exact loF_one y)
      have HFF := Lib.hid hFF
      clear hFF
      go_upto_region 6 with (first
        | (refine wpList_load_cells rfl 54 _ rfl b (off + j * 5) rfl 5 F _ HX3.out Try.underlying54 rfl sizeLoop ?_)
        | (refine wpList_alloc_seg rfl 54 rfl 5 (loF ⟨0, 0, 0, 0, 0⟩) zeroLoop ?_; intro w6 h6 hB6 hs6)
        | (refine wpList_store_all rfl 54 _ _ rfl wr.heap.size 54 5 _ F rfl rfl h6 sizeLoop HO.out ?_; intro w7 h7 hT7 hs7))
      obtain ⟨gc, hgc⟩ : ∃ gc, gc = wr.heap.size := ⟨_, rfl⟩
      rw [← hgc] at h6 h7 hT7 ⊢
      have hbw : Below wr.heap.size wr w7 := hB6.trans (hT7.below (by omega) hB6.size)
      have HF7 := Lib.hid (show FB w7 gc 54 5 (loF y) by rw [← HFF.out]; exact h7)
      have HFC := Lib.hid (HF.out.up hbw)
      have HB7 := Lib.hid (HB.out.trans (hbw.mono HB.out.size))
      clear h6 hB6 hs6 h7 hT7 hs7 hgc hbw HX3 HO HF HB
      have z0 : w7.cell? ⟨gc, 0, none⟩ = some (.int .i64 y.h) := HF7.out.cell 0 (by decide)
      have z1 : w7.cell? ⟨gc, 1, none⟩ = some (.int .i64 y.a) := HF7.out.cell 1 (by decide)
      have z2 : w7.cell? ⟨gc, 2, none⟩ = some (.int .i64 y.b) := HF7.out.cell 2 (by decide)
      have z3 : w7.cell? ⟨gc, 3, none⟩ = some (.int .i64 y.k) := HF7.out.cell 3 (by decide)
      have z4 : w7.cell? ⟨gc, 4, none⟩ = some (.int .i64 y.d) := HF7.out.cell 4 (by decide)
      obtain ⟨yh, ya, yb, yk, yd⟩ := y
      simp only at z0 z1 z2 z3 z4
      have hcs := loop_split ⟨yh, ya, yb, yk, yd⟩
      simp only at hcs
      cases h0 : headB yh
      · have HE := Lib.hid (wrong_loop HN.out HYM.out (by rw [hcs, h0]; simp))
        clear hcs
        go_wp2_with fail
        go_at_call 46
        refine (head_deed yh _).mono ?_
        rintro e u0 ⟨rfl, rfl⟩
        rw [h0]
        go_wp2_with fail
        go_ret
        exact ⟨ret_i64 (by rw [HE.out]), HB7.out⟩
      cases h1 : varB ya
      · have HE := Lib.hid (wrong_loop HN.out HYM.out (by rw [hcs, h0, h1]; simp))
        clear hcs
        go_wp2_with fail
        go_at_call 46
        refine (head_deed yh _).mono ?_
        rintro e u0 ⟨rfl, rfl⟩
        rw [h0]
        go_wp2_with fail
        go_at_call 47
        refine (variable_deed ya _).mono ?_
        rintro e u0 ⟨rfl, rfl⟩
        rw [h1]
        go_wp2_with fail
        go_ret
        exact ⟨ret_i64 (by rw [HE.out]), HB7.out⟩
      cases h2 : varB yb
      · have HE := Lib.hid (wrong_loop HN.out HYM.out (by rw [hcs, h0, h1, h2]; simp))
        clear hcs
        go_wp2_with fail
        go_at_call 46
        refine (head_deed yh _).mono ?_
        rintro e u0 ⟨rfl, rfl⟩
        rw [h0]
        go_wp2_with fail
        go_at_call 47
        refine (variable_deed ya _).mono ?_
        rintro e u0 ⟨rfl, rfl⟩
        rw [h1]
        go_wp2_with fail
        go_at_call 47
        refine (variable_deed yb _).mono ?_
        rintro e u0 ⟨rfl, rfl⟩
        rw [h2]
        go_wp2_with fail
        go_ret
        exact ⟨ret_i64 (by rw [HE.out]), HB7.out⟩
      cases h3 : constB yk
      · have HE := Lib.hid (wrong_loop HN.out HYM.out (by rw [hcs, h0, h1, h2, h3]; simp))
        clear hcs
        go_wp2_with fail
        go_at_call 46
        refine (head_deed yh _).mono ?_
        rintro e u0 ⟨rfl, rfl⟩
        rw [h0]
        go_wp2_with fail
        go_at_call 47
        refine (variable_deed ya _).mono ?_
        rintro e u0 ⟨rfl, rfl⟩
        rw [h1]
        go_wp2_with fail
        go_at_call 47
        refine (variable_deed yb _).mono ?_
        rintro e u0 ⟨rfl, rfl⟩
        rw [h2]
        go_wp2_with fail
        go_at_call 48
        refine (constant_deed yk _).mono ?_
        rintro e u0 ⟨rfl, rfl⟩
        rw [h3]
        go_wp2_with fail
        go_ret
        exact ⟨ret_i64 (by rw [HE.out]), HB7.out⟩
      cases h4 : fallB yd
      · have HE := Lib.hid (wrong_loop HN.out HYM.out (by rw [hcs, h0, h1, h2, h3, h4]; simp))
        clear hcs
        go_wp2_with fail
        go_at_call 46
        refine (head_deed yh _).mono ?_
        rintro e u0 ⟨rfl, rfl⟩
        rw [h0]
        go_wp2_with fail
        go_at_call 47
        refine (variable_deed ya _).mono ?_
        rintro e u0 ⟨rfl, rfl⟩
        rw [h1]
        go_wp2_with fail
        go_at_call 47
        refine (variable_deed yb _).mono ?_
        rintro e u0 ⟨rfl, rfl⟩
        rw [h2]
        go_wp2_with fail
        go_at_call 48
        refine (constant_deed yk _).mono ?_
        rintro e u0 ⟨rfl, rfl⟩
        rw [h3]
        go_wp2_with fail
        go_at_call 49
        refine (fall_deed yd _).mono ?_
        rintro e u0 ⟨rfl, rfl⟩
        rw [h4]
        go_wp2_with fail
        go_ret
        exact ⟨ret_i64 (by rw [HE.out]), HB7.out⟩
      have HA2 := Lib.hid (show ∀ l ∈ d.loops.take (j + 1), loopB l = true by
        rw [HTK.out]
        intro l hl
        rcases List.mem_append.1 hl with hl | hl
        · exact HALL.out l hl
        · rw [List.mem_singleton.1 hl, hcs, h0, h1, h2, h3, h4]
          rfl)
      clear hcs
      go_wp2_with fail
      go_at_call 46
      refine (head_deed yh _).mono ?_
      rintro e u0 ⟨rfl, rfl⟩
      rw [h0]
      go_wp2_with fail
      go_at_call 47
      refine (variable_deed ya _).mono ?_
      rintro e u0 ⟨rfl, rfl⟩
      rw [h1]
      go_wp2_with fail
      go_at_call 47
      refine (variable_deed yb _).mono ?_
      rintro e u0 ⟨rfl, rfl⟩
      rw [h2]
      go_wp2_with fail
      go_at_call 48
      refine (constant_deed yk _).mono ?_
      rintro e u0 ⟨rfl, rfl⟩
      rw [h3]
      go_wp2_with fail
      go_at_call 49
      refine (fall_deed yd _).mono ?_
      rintro e u0 ⟨rfl, rfl⟩
      rw [h4]
      go_wp2_with fail
      go_roundw
      case rel => exact ⟨j + 1, by omega, rfl, by go_num, HFC.out, HB7.out, HA2.out⟩
      case measure => simp [intOf]; omega
    · obtain rfl : j = ml := by omega
      have HE := Lib.hid (wrong_rest HN.out (fun l hl => HALL.out l (by rw [List.take_of_length_le (by rw [HLL.out]; exact Nat.le_refl _)]; exact hl)))
      have hlt' : decide (j < j) = false := by simp
      have x1 : wr.cell? ⟨gb, 1, none⟩ = some (.slice Ac mc cc) := HF.out.cell 1 (by decide)
      clear hlt hj HALL
      go_wp2_with fail
      clear x1 HF
      go_loopw [2, 6, 7, 57, 58, 59, 60, 61, 62, 63, 64, 65, 66] (fun a2 _ _ a57 _ _ _ _ _ _ _ _ _ wr => ∃ (i : Nat), i ≤ mc ∧ a2 = .int .i64 0 ∧ a57 = .int .i64 i ∧ Below w.heap.size w wr ∧ clsE (d.claims.drop i) = clsE d.claims) (fun _ _ _ a57 _ _ _ _ _ _ _ _ _ _ => (mc - intOf a57).toNat)
      case atStart => exact ⟨0, by omega, rfl, rfl, HB.out, rfl⟩
      case round =>
        obtain ⟨i, hi, rfl, rfl, hB, hce⟩ := hrel
        clear HB
        have HB := Lib.hid hB
        have HCE := Lib.hid hce
        clear hB hce
        by_cases hlt : i < mc
        · have hlt' : (i : Int) < mc := by omega
          obtain ⟨b, off, rfl, hbB, hcells⟩ := HRC.out (by have := HLC.out; omega)
          obtain ⟨y, hy⟩ : ∃ y, ps[i]? = some y := ⟨ps[i]'(by have := HLC.out; omega), List.getElem?_eq_getElem _⟩
          have hyc : d.claims[i]? = some y.1 := by rw [← HMP.out, List.getElem?_map, hy]; rfl
          have HX3 := Lib.hid (fun k (hk : k < 128) => (HB.out.cell (p := ⟨b, off + i * 128 + k, none⟩) hbB).trans (hcells i y hy k hk))
          have hyv := HCV.out y (List.mem_of_getElem? hy)
          have HYV := Lib.hid (hyv.keep HB.out)
          have HV1 := Lib.hid (show y.2.oneCell' = true by obtain ⟨A, m, c, e, _⟩ := hyv; rw [e]; rfl)
          have hdr : d.claims.drop i = y.1 :: d.claims.drop (i + 1) := by
            have hlj : i < d.claims.length := by rw [HLD.out]; exact hlt
            rw [List.drop_eq_getElem_cons hlj]
            rw [List.getElem?_eq_getElem hlj] at hyc
            injection hyc with hyc
            rw [hyc]
          have hce := HCE.out
          rw [hdr] at hce
          have HCE2 := Lib.hid (show (if wrongCl y.1 = 0 then clsE (d.claims.drop (i + 1)) else wrongCl y.1) = clsE d.claims from hce)
          clear hcells hy hyc hyv hdr hce HCE
          obtain ⟨F, hFF⟩ : ∃ F, F = mcF y := ⟨_, rfl⟩
          rw [← hFF] at HX3
          have HO := Lib.hid (show ∀ q, q < 128 → (F q).oneCell' = true by rw [hFF]; exact clF_one _ _ _ HV1.out)
          have HFF := Lib.hid hFF
          clear hFF
          go_upto_region 12 with (first
            | (refine wpList_load_cells rfl 61 _ rfl b (off + i * 128) rfl 128 F _ HX3.out Try.underlying61 rfl sizeClaim ?_)
            | (refine wpList_alloc_seg rfl 61 rfl 128 (clF false (fun _ => Tag.zero) (.slice none 0 0)) zeroClaim ?_; intro w6 h6 hB6 hs6)
            | (refine wpList_store_all rfl 61 _ _ rfl wr.heap.size 61 128 _ F rfl rfl h6 sizeClaim HO.out ?_; intro w7 h7 hT7 hs7))
          obtain ⟨gc, hgc⟩ : ∃ gc, gc = wr.heap.size := ⟨_, rfl⟩
          rw [← hgc] at h6 h7 hT7 ⊢
          have hbw : Below wr.heap.size wr w7 := hB6.trans (hT7.below (by omega) hB6.size)
          have HF7 := Lib.hid h7
          have HB7 := Lib.hid (HB.out.trans (hbw.mono HB.out.size))
          have HYV7 := Lib.hid (HYV.out.keep (hbw.mono HB.out.size))
          clear h6 hB6 hs6 h7 hT7 hs7 hgc hbw HX3 HO HB HYV
          go_wp2_with (refine wpList_load_all rfl 61 _ rfl gc rfl 61 128 F _ HF7.out Try.underlying61 rfl sizeClaim ?_)
          go_at_call 50
          rw [HFF.out]
          obtain ⟨y, yv⟩ := y
          obtain ⟨A, m, c, hyv, hm, hmc, hR⟩ := HYV7.out
          simp only at hyv
          subst hyv
          refine (wrongClaim_any _ y A m c hm.out hmc.2 hmc.1 (hR.at_ HB7.out.size)).mono ?_
          rintro e w8 ⟨rfl, hB8⟩
          have HB8 := Lib.hid (HB7.out.trans (hB8.mono HB7.out.size))
          clear hm hmc hR hB8 HYV7 HF7 HV1 HB7
          by_cases hz : wrongCl y = 0
          · have HC3 := Lib.hid (show clsE (d.claims.drop (i + 1)) = clsE d.claims by have h := HCE2.out; rw [if_pos hz] at h; exact h)
            rw [hz]
            clear hz HCE2
            go_wp2_with fail
            go_roundw
            case rel => exact ⟨i + 1, by omega, rfl, by go_num, HB8.out, HC3.out⟩
            case measure => simp [intOf]; omega
          · have HC3 := Lib.hid (show wrongMd d = wrongCl y by have h := HCE2.out; rw [if_neg hz] at h; rw [HE.out]; exact h.symm)
            have tz : ((wrongCl y) == 0) = false := by rw [beq_eq_false_iff_ne]; exact hz
            clear HCE2
            go_wp2_with fail
            go_ret
            exact ⟨ret_i64 (by rw [HC3.out]), HB8.out⟩
        · obtain rfl : i = mc := by omega
          have HE2 := Lib.hid (show wrongMd d = 0 by rw [HE.out, ← HCE.out, List.drop_of_length_le (by rw [HLD.out]; exact Nat.le_refl _)]; rfl)
          have hlt' : decide (i < i) = false := by simp
          clear hlt hi HCE
          go_wp2_with fail
          go_ret
          exact ⟨ret_i64 (by rw [HE2.out]), HB.out⟩
end Go.Proofs.Ytbomihdnnidelaa
