/- The document's zone: Close. -/
import Derived.Test.YtockoolcdhgopaaZRb
import Derived.Deep.CutBlock
namespace Go.Proofs.Ytockoolcdhgopaa
open Go.ChangeShapes Go.WideShapes Go.ChangeAt Go.RowKit
open Zon
set_option linter.unusedVariables false
set_option maxRecDepth 100000
theorem zeroSq : (Try.prog.info? 50).bind (fun i => i.zero.map Value.cells) = some (arr 3600 (fun _ => .int .i64 0)) := by kernel_rfl
theorem sizeSq : (Try.prog.info? 50).map (·.size) = some 3600 := by kernel_rfl
theorem rmin {x y : Int} (h : Ok x) (g : Ok y) : lessV (rN x) (rN y) = rN (min x y) := rN_min h g
/-- the table while ways through k are taken, the rows below i done and of row i the places below j -/
def stK (M : Tab) (k i j : Nat) : Tab := fun p q => if p < i ∨ (p = i ∧ q < j) then rN (stepF M k p q) else rN (M p q)
theorem stK_step {M : Tab} {k i j : Nat} (a b : Nat) : (if a = i ∧ b = j then rN (stepF M k i j) else stK M k i j a b) = stK M k i (j + 1) a b := by
  unfold stK
  by_cases e : a = i ∧ b = j
  · rw [if_pos e, if_pos (show a < i ∨ (a = i ∧ b < j + 1) by omega), e.1, e.2]
  · rw [if_neg e]
    by_cases e2 : a < i ∨ (a = i ∧ b < j)
    · rw [if_pos e2, if_pos (show a < i ∨ (a = i ∧ b < j + 1) by omega)]
    · rw [if_neg e2, if_neg (show ¬ (a < i ∨ (a = i ∧ b < j + 1)) by omega)]
theorem stK_row {M : Tab} {k i : Nat} (a b : Nat) (hb : b < 60) : stK M k i 60 a b = stK M k (i + 1) 0 a b := by
  unfold stK
  by_cases e2 : a < i ∨ (a = i ∧ b < 60)
  · rw [if_pos e2, if_pos (show a < i + 1 ∨ (a = i + 1 ∧ b < 0) by omega)]
  · rw [if_neg e2, if_neg (show ¬ (a < i + 1 ∨ (a = i + 1 ∧ b < 0)) by omega)]
theorem stK_skip {M : Tab} (hM : OkT M) {k i : Nat} (hk : k < 60) (hi : i < 60) (h : M i k = 3458764513820540928) (a b : Nat) (ha : a < 60) (hb : b < 60) : stK M k i 0 a b = stK M k (i + 1) 0 a b := by
  unfold stK
  by_cases e2 : a < i ∨ (a = i ∧ b < 0)
  · rw [if_pos e2, if_pos (show a < i + 1 ∨ (a = i + 1 ∧ b < 0) by omega)]
  · rw [if_neg e2]
    by_cases e : a = i
    · rw [if_pos (show a < i + 1 ∨ (a = i + 1 ∧ b < 0) by omega), e]
      unfold stepF
      rw [psum_no _ _ h (hM k b hk hb).rng.1, Int.min_eq_left (hM i b hi hb).rng.2]
    · rw [if_neg (show ¬ (a < i + 1 ∨ (a = i + 1 ∧ b < 0)) by omega)]
theorem okT_mins {M : Tab} (hM : OkT M) (L : List Con) (hL : ∀ x ∈ L, wrong1 x = 0) : OkT (L.foldl minT M) := by
  induction L generalizing M with
  | nil => exact hM
  | cons x L ih =>
    obtain ⟨_, _, g5⟩ := wrong1_zero (hL x (by simp))
    exact ih (okT_min hM (by unfold rngB; simp; omega)) fun y hy => hL y (by simp [hy])
set_option maxHeartbeats 8000000 in
theorem refClose_any (w : World) (A : Option Addr) (n c : Nat) (L : List Con) (hL : L.length = n) (hn : n ≤ 4000000000000000000) (h : ConsAt w A L) (h0 : wrongL L = 0) :
    Calls Try.prog 28 #[.slice A n c] w fun e w' => e = .returned (rvV (rv (closeZ L))) ∧ Below w.heap.size w w' := by
  have HL := Lib.hid hL
  have HA := Lib.hid h
  have HW := Lib.hid (wrongL_zero h0)
  have HCZ := Lib.hid (show closeZ L = if negT (floydT (L.foldl minT topT) 60) then none else some (floydT (L.foldl minT topT) 60) from rfl)
  clear hL h h0
  go_enter Try.func28, Try.ntmps28
  go_upto_region 1 with (refine wpList_alloc_seg rfl 52 rfl 3601 zr zeroZ ?_; intro w1 hb1 hB1 hs1)
  obtain ⟨g0, hg0⟩ : ∃ g, g = w.heap.size := ⟨_, rfl⟩
  rw [← hg0] at hb1 ⊢
  have HG0 := Lib.hid (show w.heap.size ≤ g0 by omega)
  have HB1 := Lib.hid hB1
  have Hb1 := Lib.hid (show RB w1 g0 false zeroM from FB.congr hb1 zr_zc)
  clear hg0 hb1 hB1 hs1
  go_wp2_with fail
  go_at_call 33
  refine (Top_any w1).mono ?_
  rintro e w2 ⟨rfl, hB2⟩
  have HB2 := Lib.hid (HB1.out.trans (hB2.mono HB1.out.size))
  have Hb2 := Lib.hid (Hb1.out.up hB2)
  obtain ⟨T, hT0⟩ : ∃ T, T = rT topT := ⟨_, rfl⟩
  rw [← hT0]
  have HTT := Lib.hid hT0
  clear hB2 hT0
  go_upto_region 2 with (
    refine wpList_alloc_seg rfl 52 rfl 3601 zr zeroZ ?_
    intro w3 hb3 hB3 hs3
    obtain ⟨g, hg⟩ : ∃ g, g = w2.heap.size := ⟨_, rfl⟩
    rw [← hg] at hb3 ⊢
    have HG := Lib.hid (show w.heap.size ≤ g by have := HB2.out.size; omega)
    have HNE := Lib.hid (show g0 ≠ g by have := Hb2.out.lt; omega)
    have HB3 := Lib.hid (HB2.out.trans (hB3.mono HB2.out.size))
    have Hb3 := Lib.hid (Hb2.out.up hB3)
    clear hg hs3 hB3
    refine wpList_store_all rfl 52 _ _ rfl g 52 3601 _ (zc false T) rfl rfl hb3 sizeZ (rz_one _ _) ?_
    intro w4 hb4 hT4 hs4
    have HR := Lib.hid (show RB w4 g false (rT (([] : List Con).foldl minT topT)) by rw [HTT.out] at hb4; exact hb4)
    have H0 := Lib.hid (Hb3.out.touch hT4 HNE.out)
    have HB4 := Lib.hid (HB3.out.trans (hT4.below HG.out HB3.out.size))
    clear hb3 hb4 hT4 hs4)
  have HGL := Lib.hid HR.out.lt
  go_wp2_with fail
  go_loopw [4] (fun i wr => ∃ k : Nat, k ≤ n ∧ i = .int .i64 k ∧ RB wr g false (rT ((L.take k).foldl minT topT)) ∧ RB wr g0 false zeroM ∧ Below w.heap.size w wr) (fun i _ => (n - intOf i).toNat)
  case atStart => exact ⟨0, by omega, rfl, HR.out, H0.out, HB4.out⟩
  case round =>
    clear HR H0 HB4
    obtain ⟨k, hk, rfl, hR, h0, hB⟩ := hrel
    have hk0 : (0 : Int) ≤ k := by omega
    by_cases hlt : k < n
    · have hlt' : (k : Int) < n := by omega
      have HRr := Lib.hid hR
      have H0r := Lib.hid h0
      have HBr := Lib.hid hB
      clear hR h0 hB
      go_upto_region 5 with (fail)
      refine wp_region_tail 33 (by kernel_rfl) (by kernel_rfl) fun W hW => ?_
      simp only [List.take_succ_cons, List.take_zero, List.drop_succ_cons, List.drop_zero]
      have hR : RB W g false (rT ((L.take k).foldl minT topT)) := by rw [hW]; exact HRr.out
      have h0 : RB W g0 false zeroM := by rw [hW]; exact H0r.out
      have hB : Below w.heap.size w W := by rw [hW]; exact below_drewN' HBr.out 1
      clear hW HRr H0r HBr
      obtain ⟨b, off, rfl, hbl, -⟩ := HA.out (by have := HL.out; omega)
      obtain ⟨x, hx, -, x0, x1, x2⟩ := (HA.out.below hB).get (k := k) (by have := HL.out; omega)
      have hxm := List.mem_of_getElem? hx
      obtain ⟨⟨g1, g2⟩, ⟨g3, g4⟩, g5⟩ := wrong1_zero (HW.out x hxm)
      obtain ⟨ni, hni⟩ : ∃ ni : Nat, x.i = ni := ⟨x.i.toNat, by omega⟩
      obtain ⟨nj, hnj⟩ : ∃ nj : Nat, x.j = nj := ⟨x.j.toNat, by omega⟩
      have hi6 : ni < 60 := by omega
      have hj6 : nj < 60 := by omega
      have hokc : Ok x.c := .inr g5
      have hok : OkT ((L.take k).foldl minT topT) := okT_mins okT_top _ fun y hy => HW.out y (List.mem_of_mem_take hy)
      have HST := Lib.hid (show ∀ a b, (if a = ni ∧ b = nj then rN (min ((L.take k).foldl minT topT ni nj) x.c) else rT ((L.take k).foldl minT topT) a b) = rT ((L.take (k + 1)).foldl minT topT) a b from fun a b => by
        rw [take_next L k x hx, List.foldl_append]
        show _ = rN (minT ((L.take k).foldl minT topT) x a b)
        unfold minT
        rw [hni, hnj, Int.toNat_natCast, Int.toNat_natCast]
        by_cases e : a = ni ∧ b = nj
        · rw [if_pos e, if_pos e, e.1, e.2]
        · rw [if_neg e, if_neg e]; rfl)
      rw [hni] at x0
      rw [hnj] at x1
      have hc1 : x.c = rN x.c := (rN_num g5.2).symm
      have HLE := Lib.hid (fun W => show Calls Try.prog 58 #[.int .i64 (rT ((L.take k).foldl minT topT) ni nj), .int .i64 x.c] W (fun e w' => e = .returned (.int .i64 (rN (min ((L.take k).foldl minT topT ni nj) x.c))) ∧ W = w') from by
        refine (lesser_any _ _ W).mono fun e w' hh => ⟨?_, hh.2⟩
        rw [hh.1]
        congr 2
        have := rmin (hok ni nj hi6 hj6) hokc
        rw [← hc1] at this
        exact this)
      have z0 := hR.at_ ni nj hi6 hj6
      have f0 := FB.frozen hR (1 + ni * 60 + nj)
      generalize hmv : rT ((L.take k).foldl minT topT) ni nj = mv at *
      generalize hnv : rN (min ((L.take k).foldl minT topT ni nj) x.c) = nv at *
      have HN := Lib.hid (hR.set (N := rT ((L.take (k + 1)).foldl minT topT)) ni nj nv hi6 hj6 (fun a b _ _ => HST.out a b))
      have H0n := Lib.hid (h0.touch (Touch.set_ (g := g) W (1 + ni * 60 + nj) (.int .i64 nv)) HNE.out)
      have HBn := Lib.hid (hB.trans ((Touch.set_ (g := g) W (1 + ni * 60 + nj) (.int .i64 nv)).below HG.out hB.size))
      have hi0 : (0 : Int) ≤ ni := by omega
      have hi1 : (ni : Int) < 60 := by omega
      have hj0 : (0 : Int) ≤ nj := by omega
      have hj1 : (nj : Int) < 60 := by omega
      generalize x.c = xc at *
      have HKT := Lib.hid hlt
      clear hxm g1 g2 g3 g4 g5 hni hnj hokc hok hc1 hR h0 hB hx hmv hnv HST hlt
      have HLW := Lib.hid (HLE.out W)
      clear HLE
      iterate 29 still_step
      still_call (HLW.out.mono fun e w'' h => ⟨h.1, h.2.symm⟩)
      iterate 3 still_step
      refine wpStill_nil ?_
      clear HLW x0 x1 x2
      go_wp2_with fail
      go_roundw
      case rel => exact ⟨k + 1, by have := HKT.out; omega, by go_num, HN.out, H0n.out, HBn.out⟩
      case measure => simp [intOf]; omega
    · have hjn : decide ((k : Int) < n) = false := decide_eq_false (by omega)
      have hjn3 : decide (k < n) = false := decide_eq_false (by omega)
      obtain ⟨M0, hM0⟩ : ∃ M0, M0 = L.foldl minT topT := ⟨_, rfl⟩
      rw [List.take_of_length_le (by rw [HL.out]; omega), ← hM0] at hR
      rw [← hM0] at HCZ
      have HOK := Lib.hid (show OkT M0 by rw [hM0]; exact okT_mins okT_top L HW.out)
      have HR := Lib.hid (show RB wr g false (rT (floydT M0 0)) from hR)
      have H0 := Lib.hid h0
      have HBb := Lib.hid hB
      clear hR h0 hB hM0 hlt
      go_wp2_with fail
      go_loopw [5] (fun i wr => ∃ k : Nat, k ≤ 60 ∧ i = .int .i64 k ∧ RB wr g false (rT (floydT M0 k)) ∧ RB wr g0 false zeroM ∧ Below w.heap.size w wr) (fun i _ => (60 - intOf i).toNat)
      case atStart => exact ⟨0, by omega, rfl, HR.out, H0.out, HBb.out⟩
      case round =>
        clear HR H0 HBb
        obtain ⟨m, hm, rfl, hR, h0, hB⟩ := hrel
        have hm0 : (0 : Int) ≤ m := by omega
        by_cases hlt : m < 60
        · have hm1 : (m : Int) < 60 := by omega
          have HMT := Lib.hid hlt
          have HFS := Lib.hid (floydT_succ M0 m)
          have HOF := Lib.hid (okT_floyd HOK.out m)
          obtain ⟨F, hF⟩ : ∃ F, F = floydT M0 m := ⟨_, rfl⟩
          rw [← hF] at hR HOF HFS
          have HF := Lib.hid hF
          have HRr := Lib.hid hR
          have H0r := Lib.hid h0
          have HBr := Lib.hid hB
          clear hR h0 hB hlt hF
          go_upto_region 10 with (first
            | (refine wpList_load_seg rfl 50 _ rfl g 1 rfl 52 3601 3600 (zc false (rT F)) _ HRr.out (by omega) Try.underlying50 rfl sizeSq ?_)
            | (refine wpList_alloc_seg rfl 50 rfl 3600 (fun _ => .int .i64 0) zeroSq ?_
               intro w5 hb5 hB5 hs5
               obtain ⟨g6, hg6⟩ : ∃ g6, g6 = wr.heap.size := ⟨_, rfl⟩
               rw [← hg6] at hb5 ⊢
               have HG6 := Lib.hid (show w.heap.size ≤ g6 by have := HBr.out.size; omega)
               have HN6 := Lib.hid (show g ≠ g6 by have := HRr.out.lt; omega)
               have HN60 := Lib.hid (show g0 ≠ g6 by have := H0r.out.lt; omega)
               have HB5 := Lib.hid (HBr.out.trans (hB5.mono HBr.out.size))
               have HR5 := Lib.hid (HRr.out.up hB5)
               have H05 := Lib.hid (H0r.out.up hB5)
               clear hg6 hs5 hB5
               refine wpList_store_all rfl 50 _ _ rfl g6 50 3600 _ (fun q => zc false (rT F) (1 + q)) rfl rfl hb5 sizeSq (fun q hq => rz_one _ _ (1 + q) (by omega)) ?_
               intro w6 hb6 hT6 hs6
               have HO6 := Lib.hid hb6
               have HR6 := Lib.hid (HR5.out.touch hT6 HN6.out)
               have H06 := Lib.hid (H05.out.touch hT6 HN60.out)
               have HB6 := Lib.hid (HB5.out.trans (hT6.below HG6.out HB5.out.size))
               clear hb5 hb6 hT6 hs6))
          have HRs := Lib.hid (show RB w6 g false (stK F m 0 0) from RB.congr HR6.out fun p q _ _ => by unfold stK; rw [if_neg (by omega)]; rfl)
          clear HRr H0r HBr HB5 HR5 H05 HR6
          go_wp2_with fail
          go_loopw [7] (fun i wr => ∃ k : Nat, k ≤ 60 ∧ i = .int .i64 k ∧ RB wr g false (stK F m k 0) ∧ Touch g w6 wr) (fun i _ => (60 - intOf i).toNat)
          case atStart => exact ⟨0, by omega, rfl, HRs.out, Touch.refl _ _⟩
          case round =>
            clear HRs
            obtain ⟨i, hi, rfl, hR, hT⟩ := hrel
            have hi0 : (0 : Int) ≤ i := by omega
            by_cases hit : i < 60
            · have hi1 : (i : Int) < 60 := by omega
              have HIT := Lib.hid hit
              have HOi := Lib.hid (FB.touch HO6.out hT (fun e => HN6.out e.symm))
              have y0 := HOi.out.cell (i * 60 + m) (by have := HMT.out; omega)
              rw [← Nat.add_assoc, zc_at false (rT F) i m HMT.out] at y0
              have hof := HOF.out i m hit HMT.out
              obtain ⟨v1, hv1⟩ : ∃ v1, v1 = rT F i m := ⟨_, rfl⟩
              rw [← hv1] at y0
              have HV1 := Lib.hid hv1
              have HRr := Lib.hid hR
              have HTr := Lib.hid hT
              clear hR hT hit
              by_cases hno : F i m = 3458764513820540928
              · have t1 : decide (2305843009213693952 ≤ v1) = true := decide_eq_true (by rw [hv1]; exact (rN_top hof).mpr hno)
                have HN := Lib.hid (HRr.out.congr (N := stK F m (i + 1) 0) fun a b ha hb => stK_skip HOF.out HMT.out HIT.out hno a b ha hb)
                clear hno hof HRr hv1
                go_wp2_with fail
                go_roundw
                case rel => exact ⟨i + 1, by have := HIT.out; omega, by go_num, HN.out, HTr.out⟩
                case measure => simp [intOf]; omega
              · have t1 : decide (2305843009213693952 ≤ v1) = false := decide_eq_false (fun e => hno ((rN_top hof).mp (by rw [hv1] at e; exact e)))
                clear hno hv1
                go_upto_region 14 with (fail)
                clear t1 y0
                go_wp2_with fail
                go_loopw [8] (fun i' wr => ∃ j : Nat, j ≤ 60 ∧ i' = .int .i64 j ∧ RB wr g false (stK F m i j) ∧ Touch g w6 wr) (fun i' _ => (60 - intOf i').toNat)
                case atStart => exact ⟨0, by omega, rfl, HRr.out, HTr.out⟩
                case round =>
                  clear HRr HTr HOi
                  obtain ⟨j, hj, rfl, hR, hT⟩ := hrel
                  have hj0 : (0 : Int) ≤ j := by omega
                  by_cases hjt : j < 60
                  · have hj1 : (j : Int) < 60 := by omega
                    have HJT := Lib.hid hjt
                    have HRr := Lib.hid hR
                    have HTr := Lib.hid hT
                    clear hR hT hjt
                    go_upto_region 17 with (fail)
                    refine wp_region_tail 22 (by kernel_rfl) (by kernel_rfl) fun W hW => ?_
                    simp only [List.take_succ_cons, List.take_zero, List.drop_succ_cons, List.drop_zero]
                    have hR : RB W g false (stK F m i j) := by rw [hW]; exact HRr.out
                    have hT : Touch g w6 W := by rw [hW]; exact HTr.out.trans (Touch.drewN wr 1)
                    have hO := FB.touch HO6.out hT (fun e => HN6.out e.symm)
                    have y0 := hO.cell (i * 60 + j) (by have := HIT.out; have := HJT.out; omega)
                    have y1 := hO.cell (i * 60 + m) (by have := HIT.out; have := HMT.out; omega)
                    have y2 := hO.cell (m * 60 + j) (by have := HMT.out; have := HJT.out; omega)
                    rw [← Nat.add_assoc, zc_at false (rT F) i j HJT.out] at y0
                    rw [← Nat.add_assoc, zc_at false (rT F) i m HMT.out, ← HV1.out] at y1
                    rw [← Nat.add_assoc, zc_at false (rT F) m j HJT.out] at y2
                    have z0 := hR.at_ i j HIT.out HJT.out
                    have f0 := FB.frozen hR (1 + i * 60 + j)
                    have o0 := HOF.out i j HIT.out HJT.out
                    have o1 := HOF.out i m HIT.out HMT.out
                    have o2 := HOF.out m j HMT.out HJT.out
                    have HSU := Lib.hid (show Calls Try.prog 59 #[.int .i64 v1, .int .i64 (rT F m j)] W (fun e w' => e = .returned (.int .i64 (rN (psum (F i m) (F m j)))) ∧ W = w') from
                      (refSum_any _ _ W (by rw [HV1.out]; have := rN_rng o1; exact ⟨by show _ ≤ rN _; omega, this.2⟩) (by have := rN_rng o2; exact ⟨by show _ ≤ rN _; omega, this.2⟩)).mono fun e w' hh => ⟨by rw [hh.1, HV1.out, ← rsum_psum o1 o2]; rfl, hh.2⟩)
                    have HLE := Lib.hid (show Calls Try.prog 58 #[.int .i64 (rT F i j), .int .i64 (rN (psum (F i m) (F m j)))] W (fun e w' => e = .returned (.int .i64 (rN (stepF F m i j))) ∧ W = w') from
                      (lesser_any _ _ W).mono fun e w' hh => ⟨by rw [hh.1]; congr 2; exact rmin o0 (psum_ok _ _), hh.2⟩)
                    have HN := Lib.hid (hR.set (N := stK F m i (j + 1)) i j (rN (stepF F m i j)) HIT.out HJT.out fun a b _ _ => stK_step a b)
                    have HTn := Lib.hid (hT.trans (Touch.set_ W (1 + i * 60 + j) (.int .i64 (rN (stepF F m i j)))))
                    generalize rN (stepF F m i j) = nv at *
                    generalize rN (psum (F i m) (F m j)) = sv at *
                    generalize rT F m j = v2 at *
                    generalize rT F i j = v3 at *
                    generalize stK F m i j i j = v4 at *
                    have hi0' := hi0
                    have hit : i < 60 := HIT.out
                    have hjt : j < 60 := HJT.out
                    have hmt : m < 60 := HMT.out
                    clear hR hT hO o0 o1 o2 hW HRr HTr
                    iterate 17 still_step
                    still_call (HSU.out.mono fun e w'' h => ⟨h.1, h.2.symm⟩)
                    still_call (HLE.out.mono fun e w'' h => ⟨h.1, h.2.symm⟩)
                    iterate 3 still_step
                    refine wpStill_nil ?_
                    clear HSU HLE y0 y1 y2
                    go_wp2_with fail
                    go_roundw
                    case rel => exact ⟨j + 1, by have := HJT.out; omega, by go_num, HN.out, HTn.out⟩
                    case measure => simp [intOf]; omega
                  · obtain rfl : j = 60 := by omega
                    have HN := Lib.hid (hR.congr (N := stK F m (i + 1) 0) fun a b _ hb => stK_row a b hb)
                    have HTn := Lib.hid hT
                    clear hR hT
                    go_wp2_with fail
                    go_roundw
                    case rel => exact ⟨i + 1, by have := HIT.out; omega, by go_num, HN.out, HTn.out⟩
                    case measure => simp [intOf]; omega
            · have hjn2 : decide ((i : Int) < 60) = false := decide_eq_false (by omega)
              have hi60 : i = 60 := by omega
              have HN := Lib.hid (show RB wr g false (rT (floydT M0 (m + 1))) from hR.congr fun p q hp _ => by
                rw [HFS.out]; unfold stK; rw [if_pos (by omega)]; rfl)
              have H0n := Lib.hid (H06.out.touch hT HNE.out)
              have HBn := Lib.hid (HB6.out.trans (hT.below HG.out HB6.out.size))
              clear hR hT hi60
              go_wp2_with fail
              go_roundw
              case rel => exact ⟨m + 1, by have := HMT.out; omega, by go_num, HN.out, H0n.out, HBn.out⟩
              case measure => simp [intOf]; omega
        · have hjn2 : decide ((m : Int) < 60) = false := decide_eq_false (by omega)
          have hm60 : m = 60 := by omega
          rw [hm60] at hR
          have HOF := Lib.hid (okT_floyd HOK.out 60)
          have HR := Lib.hid hR
          have H0 := Lib.hid h0
          have HBb := Lib.hid hB
          clear hR h0 hB hm60
          obtain ⟨F, hF⟩ : ∃ F, F = floydT M0 60 := ⟨_, rfl⟩
          rw [← hF] at HR HOF HCZ
          clear hF
          go_wp2_with fail
          go_loopw [9] (fun i wr' => ∃ k : Nat, k ≤ 60 ∧ i = .int .i64 k ∧ (∀ p, p < k → 0 ≤ F p p) ∧ wr' = wr) (fun i _ => (60 - intOf i).toNat)
          case atStart => exact ⟨0, by omega, rfl, fun p hp => absurd hp (by omega), rfl⟩
          case round =>
            obtain ⟨p, hp, rfl, hneg, rfl⟩ := hrel
            have hp0 : (0 : Int) ≤ p := by omega
            by_cases hlt : p < 60
            · have hp1 : (p : Int) < 60 := by omega
              have z0 := HR.out.at_ p p hlt hlt
              have hok := HOF.out p p hlt hlt
              obtain ⟨v, hv⟩ : ∃ v, v = rT F p p := ⟨_, rfl⟩
              rw [← hv] at z0
              by_cases h0 : F p p < 0
              · have t1 : decide (v < 0) = true := decide_eq_true (by rw [hv]; exact (rN_neg hok).mpr h0)
                have HX := Lib.hid (show closeZ L = none by rw [HCZ.out, negT_true hlt h0]; rfl)
                clear h0 hneg hok hv
                go_wp2_with fail
                go_at_call 60
                refine (Nothing_any _).mono ?_
                rintro e w8 ⟨rfl, hB8⟩
                have H08 := Lib.hid (H0.out.up hB8)
                have HB8 := Lib.hid (HBb.out.trans (hB8.mono HBb.out.size))
                clear hB8 z0 t1
                obtain ⟨T8, hT8⟩ : ∃ T8, T8 = rT topT := ⟨_, rfl⟩
                rw [← hT8]
                have HT8 := Lib.hid hT8
                clear hT8
                go_wp2_with (refine wpList_store_all rfl 52 _ _ rfl g0 52 3601 _ (zc true T8) rfl rfl H08.out sizeZ (rz_one _ _) ?_; intro w9 h9 hT9 hs9)
                refine bodyPost_ret (result_z rfl _ _ g0 true T8 rfl h9) rfl ⟨by rw [HX.out, HT8.out]; rfl, ?_⟩
                exact HB8.out.trans (hT9.below HG0.out HB8.out.size)
              · have t1 : decide (v < 0) = false := decide_eq_false (by rw [hv]; exact fun e => h0 ((rN_neg hok).mp e))
                have HNG := Lib.hid (show ∀ q, q < p + 1 → 0 ≤ F q q from fun q hq => by
                  by_cases e : q = p
                  · rw [e]; omega
                  · exact hneg q (by omega))
                have HLT := Lib.hid hlt
                clear h0 hneg hok hv hlt
                go_wp2_with fail
                go_roundw
                case rel => exact ⟨p + 1, by have := HLT.out; omega, by go_num, HNG.out, by first | rfl | trivial⟩
                case measure => simp [intOf]; omega
            · have hjn4 : decide ((p : Int) < 60) = false := decide_eq_false (by omega)
              have HX := Lib.hid (show closeZ L = some F by rw [HCZ.out, negT_false.mpr fun q hq => hneg q (by omega)]; rfl)
              clear hneg
              go_wp2_with (first
                | (refine wpList_load_all rfl 52 _ rfl g rfl 52 3601 (zc false (rT F)) _ HR.out Try.underlying52 rfl sizeZ ?_)
                | (refine wpList_store_all rfl 52 _ _ rfl g0 52 3601 _ (zc false (rT F)) rfl rfl H0.out sizeZ (rz_one _ _) ?_; intro w7 h7 hT7 hs7))
              refine bodyPost_ret (result_z rfl _ _ g0 false (rT F) rfl h7) rfl ⟨by rw [HX.out]; rfl, ?_⟩
              exact HBb.out.trans (hT7.below HG0.out HBb.out.size)
end Go.Proofs.Ytockoolcdhgopaa
