/- The document's zone: Sum, lesser, Top, Nothing. -/
import Derived.Test.YtejcijbohnlbgaaZoneR1
import Derived.Test.YtejcijbohnlbgaaZPut
namespace Go.Proofs.Ytejcijbohnlbgaa
open Go.ChangeShapes Go.WideShapes Go.ChangeAt Go.RowKit
open Zon
set_option linter.unusedVariables false
set_option maxRecDepth 100000
/-- the document's zone in a block -/
def RB (w : World) (g : Nat) (e : Bool) (M : Tab) : Prop := FB w g 41 3601 (zc e M)
theorem RB.at_ {w : World} {g : Nat} {e : Bool} {M : Tab} (h : RB w g e M) (p q : Nat) (hp : p < 60) (hq : q < 60) : w.cell? ⟨g, 1 + p * 60 + q, none⟩ = some (.int .i64 (M p q)) := by
  rw [FB.cell h (1 + p * 60 + q) (by omega), zc_at e M p q hq]
theorem RB.head {w : World} {g : Nat} {e : Bool} {M : Tab} (h : RB w g e M) : w.cell? ⟨g, 0, none⟩ = some (.bool e) := FB.cell h 0 (by omega)
theorem RB.congr {w : World} {g : Nat} {e : Bool} {M N : Tab} (hb : RB w g e M) (h : ∀ p q, p < 60 → q < 60 → M p q = N p q) : RB w g e N := FB.congr hb (zc_congr h)
theorem RB.up {w w' : World} {g : Nat} {e : Bool} {M : Tab} (h : RB w g e M) (hb : Below w.heap.size w w') : RB w' g e M := FB.up h hb
theorem RB.touch {w w' : World} {g k : Nat} {e : Bool} {M : Tab} (h : RB w g e M) (ht : Touch k w w') (hne : g ≠ k) : RB w' g e M := FB.touch h ht hne
theorem RB.lt {w : World} {g : Nat} {e : Bool} {M : Tab} (h : RB w g e M) : g < w.heap.size := FB.lt h
theorem RB.set {w : World} {g : Nat} {e : Bool} {M N : Tab} (hb : RB w g e M) (p q : Nat) (v : Int) (hp : p < 60) (hq : q < 60) (hN : ∀ a b, a < 60 → b < 60 → (if a = p ∧ b = q then v else M a b) = N a b) : RB (w.setCell ⟨g, 1 + p * 60 + q, none⟩ (.int .i64 v)) g e N :=
  RB.congr (FB.congr (FB.set_ hb (1 + p * 60 + q) (.int .i64 v)) (zc_set e M p q v hp hq)) hN
theorem RB.void {w : World} {g : Nat} {e : Bool} {M : Tab} (hb : RB w g e M) (v : Bool) : RB (w.setCell ⟨g, 0, none⟩ (.bool v)) g v M :=
  FB.congr (FB.set_ hb 0 (.bool v)) fun k _ => by
    unfold upd zc
    by_cases h : k = 0
    · rw [if_pos h, if_pos h]
    · rw [if_neg h, if_neg h, if_neg h]
theorem sizeZ : (Try.prog.info? 41).map (·.size) = some 3601 := by kernel_rfl
theorem zeroZ : (Try.prog.info? 41).bind (fun i => i.zero.map Value.cells) = some (arr 3601 zr) := by kernel_rfl
theorem zr_zc : ∀ k, k < 3601 → zr k = zc false zeroM k := fun k _ => by
  unfold zr zc tabC zeroM
  rfl
set_option maxHeartbeats 1000000 in
theorem refSum_any (a b : Int) (w : World) (ha : -2305843009213693952 ≤ a ∧ a ≤ 2305843009213693952) (hb : -2305843009213693952 ≤ b ∧ b ≤ 2305843009213693952) :
    Calls Try.prog 75 #[.int .i64 a, .int .i64 b] w fun e w' => e = .returned (.int .i64 (rsum a b)) ∧ w = w' := by
  obtain ⟨a1, a2⟩ := ha
  obtain ⟨b1, b2⟩ := hb
  have HE := Lib.hid (show rsum a b = if 2305843009213693952 ≤ a then 2305843009213693952 else if 2305843009213693952 ≤ b then 2305843009213693952 else if 1152921504606846976 < a + b then 2305843009213693952 else if a + b < -1152921504606846976 then -1152921504606846976 else a + b from rfl)
  go_enter Try.func75, Try.ntmps75
  by_cases h1 : 2305843009213693952 ≤ a
  · have t1 : decide (2305843009213693952 ≤ a) = true := decide_eq_true h1
    have HX := Lib.hid (HE.out.trans (if_pos h1))
    clear h1
    go_wp2_with fail
    go_ret
    exact ⟨ret_i64 HX.out.symm, rfl⟩
  · have t1 : decide (2305843009213693952 ≤ a) = false := decide_eq_false h1
    have HX := Lib.hid (HE.out.trans (if_neg h1))
    clear h1 HE
    by_cases h2 : 2305843009213693952 ≤ b
    · have t2 : decide (2305843009213693952 ≤ b) = true := decide_eq_true h2
      have HY := Lib.hid (HX.out.trans (if_pos h2))
      clear h2
      go_wp2_with fail
      go_ret
      exact ⟨ret_i64 HY.out.symm, rfl⟩
    · have t2 : decide (2305843009213693952 ≤ b) = false := decide_eq_false h2
      have HY := Lib.hid (HX.out.trans (if_neg h2))
      clear h2 HX
      by_cases h3 : 1152921504606846976 < a + b
      · have t3 : decide (1152921504606846976 < a + b) = true := decide_eq_true h3
        have HW := Lib.hid (HY.out.trans (if_pos h3))
        clear h3
        go_wp2_with fail
        go_ret
        exact ⟨ret_i64 HW.out.symm, rfl⟩
      · have t3 : decide (1152921504606846976 < a + b) = false := decide_eq_false h3
        have HW := Lib.hid (HY.out.trans (if_neg h3))
        clear h3 HY
        by_cases h4 : a + b < -1152921504606846976
        · have t4 : decide (a + b < -1152921504606846976) = true := decide_eq_true h4
          have HV := Lib.hid (HW.out.trans (if_pos h4))
          clear h4
          go_wp2_with fail
          go_ret
          exact ⟨ret_i64 HV.out.symm, rfl⟩
        · have t4 : decide (a + b < -1152921504606846976) = false := decide_eq_false h4
          have HV := Lib.hid (HW.out.trans (if_neg h4))
          clear h4
          go_wp2_with fail
          go_ret
          exact ⟨ret_i64 HV.out.symm, rfl⟩
def lessV (a b : Int) : Int := if b < a then b else a
theorem lesser_any (a b : Int) (w : World) : Calls Try.prog 76 #[.int .i64 a, .int .i64 b] w fun e w' => e = .returned (.int .i64 (lessV a b)) ∧ w = w' := by
  by_cases h : b < a
  · have t : decide (b < a) = true := decide_eq_true h
    have HE := Lib.hid (show lessV a b = b from if_pos h)
    clear h
    go_enter Try.func76, Try.ntmps76
    go_wp2_with fail
    go_ret
    exact ⟨ret_i64 HE.out.symm, rfl⟩
  · have t : decide (b < a) = false := decide_eq_false h
    have HE := Lib.hid (show lessV a b = a from if_neg h)
    clear h
    go_enter Try.func76, Try.ntmps76
    go_wp2_with fail
    go_ret
    exact ⟨ret_i64 HE.out.symm, rfl⟩
/-- what a call answers that tells a zone of the document's -/
abbrev rvV (z : Bool × Tab) : Value := .agg (arr 3601 (zc z.1 z.2))
theorem rz_one (e : Bool) (M : Tab) : ∀ k, k < 3601 → (zc e M k).oneCell' = true := fun k _ => by
  unfold zc tabC; split <;> rfl
theorem result_z {fn : Func} {p : Tmp} (h : fn.results = #[.cell p 41]) (tmps : Array Value) (w : World) (g : Nat) (e : Bool) (M : Tab) (hp : tmps.getD p undef = .pointer (some ⟨g, 0, none⟩)) (hg : RB w g e M) :
    (results fn tmps).run Try.prog w = .ok (rvV (e, M)) w := result_seg h tmps w g _ 3601 _ _ hp hg Try.underlying41 rfl sizeZ
def topK (k j : Nat) : Tab := fun p q => if p < k ∨ (p = k ∧ q < j) then rT topT p q else 0
set_option maxHeartbeats 4000000 in
theorem Top_any (w : World) : Calls Try.prog 14 #[] w fun e w' => e = .returned (rvV (false, rT topT)) ∧ Below w.heap.size w w' := by
  go_enter Try.func14, Try.ntmps14
  go_upto_region 1 with (refine wpList_alloc_seg rfl 41 rfl 3601 zr zeroZ ?_; intro w1 hb1 hB1 hs1)
  obtain ⟨g0, hg0⟩ : ∃ g, g = w.heap.size := ⟨_, rfl⟩
  rw [← hg0] at hb1 ⊢
  have HG0 := Lib.hid hg0
  have HB1 := Lib.hid hB1
  have Hb1 := Lib.hid (show RB w1 g0 false zeroM from FB.congr hb1 zr_zc)
  clear hg0 hb1 hB1 hs1
  go_upto_region 2 with (refine wpList_alloc_seg rfl 41 rfl 3601 zr zeroZ ?_; intro w2 hb2 hB2 hs2)
  obtain ⟨g, hg⟩ : ∃ g, g = w1.heap.size := ⟨_, rfl⟩
  rw [← hg] at hb2 ⊢
  have HG := Lib.hid (show w.heap.size ≤ g by have := HB1.out.size; omega)
  have HNE := Lib.hid (show g0 ≠ g by have := Hb1.out.lt; omega)
  have HB2 := Lib.hid (HB1.out.trans (hB2.mono HB1.out.size))
  have Hb1' := Lib.hid (Hb1.out.up hB2)
  have Hb2 := Lib.hid (show RB w2 g false (topK 0 0) from RB.congr (show RB w2 g false zeroM from FB.congr hb2 zr_zc) fun p q _ _ => by unfold topK zeroM; rw [if_neg (by omega)])
  clear hg hb2 hB2 hs2 Hb1
  go_wp2_with fail
  go_loopw [2] (fun i wr => ∃ k : Nat, k ≤ 60 ∧ i = .int .i64 k ∧ RB wr g false (topK k 0) ∧ Touch g w2 wr) (fun i _ => (60 - intOf i).toNat)
  case atStart => exact ⟨0, by omega, rfl, Hb2.out, Touch.refl _ _⟩
  case round =>
    obtain ⟨k, hk, rfl, hB, hT⟩ := hrel
    have hk0 : (0 : Int) ≤ k := by omega
    by_cases hlt : k < 60
    · have hk1 : (k : Int) < 60 := by omega
      have HKT := Lib.hid hlt
      have HBk := Lib.hid hB
      have HTk := Lib.hid hT
      clear hB hT hlt
      go_wp2_with fail
      go_loopw [3] (fun i wr => ∃ j : Nat, j ≤ 60 ∧ i = .int .i64 j ∧ RB wr g false (topK k j) ∧ Touch g w2 wr) (fun i _ => (60 - intOf i).toNat)
      case atStart => exact ⟨0, by omega, rfl, HBk.out, HTk.out⟩
      case round =>
        clear HBk HTk
        obtain ⟨j, hj, rfl, hB, hT⟩ := hrel
        have hj0 : (0 : Int) ≤ j := by omega
        by_cases hjt : j < 60
        · have hj1 : (j : Int) < 60 := by omega
          have hstep : ∀ v : Int, v = rT topT k j → ∀ a b, a < 60 → b < 60 → (if a = k ∧ b = j then v else topK k j a b) = topK k (j + 1) a b := fun v hv a b _ _ => by
            unfold topK
            by_cases e : a = k ∧ b = j
            · rw [if_pos e, if_pos (show a < k ∨ (a = k ∧ b < j + 1) by omega), e.1, e.2, hv]
            · rw [if_neg e]
              by_cases e2 : a < k ∨ (a = k ∧ b < j)
              · rw [if_pos e2, if_pos (show a < k ∨ (a = k ∧ b < j + 1) by omega)]
              · rw [if_neg e2, if_neg (show ¬ (a < k ∨ (a = k ∧ b < j + 1)) by omega)]
          by_cases hkj : k = j
          · have t1 : ((k : Int) != (j : Int)) = false := by rw [hkj]; exact bne_self_eq_false _
            have t2 : ((k : Int) == (j : Int)) = true := by rw [hkj]; exact beq_self_eq_true _
            have HN := Lib.hid (show RB wr g false (topK k (j + 1)) from RB.congr hB fun a b ha hb => by
              rw [← hstep 0 (by unfold rT topT rN; rw [if_pos hkj]; rfl) a b ha hb]
              by_cases e : a = k ∧ b = j
              · rw [if_pos e]; unfold topK; rw [if_neg (by omega)]
              · rw [if_neg e])
            have HT := Lib.hid hT
            clear hB hT hkj hjt hstep
            go_wp2_with fail
            go_roundw
            case rel => exact ⟨j + 1, by omega, by go_num, HN.out, HT.out⟩
            case measure => simp [intOf]; omega
          · have t1 : ((k : Int) != (j : Int)) = true := by rw [bne_iff_ne]; omega
            have t2 : ((k : Int) == (j : Int)) = false := by rw [beq_eq_false_iff_ne]; omega
            have x0 := hB.at_ k j HKT.out hjt
            have f0 := FB.frozen hB (1 + k * 60 + j)
            have HN := Lib.hid (hB.set (N := topK k (j + 1)) k j 2305843009213693952 HKT.out hjt (hstep _ (by unfold rT topT rN; rw [if_neg hkj]; rfl)))
            have HT := Lib.hid (hT.trans (Touch.set_ wr (1 + k * 60 + j) (.int .i64 2305843009213693952)))
            clear hB hT hkj hstep
            go_wp2_with fail
            go_roundw
            case rel => exact ⟨j + 1, by omega, by go_num, HN.out, HT.out⟩
            case measure => simp [intOf]; omega
        · obtain rfl : j = 60 := by omega
          have HN := Lib.hid (show RB wr g false (topK (k + 1) 0) from RB.congr hB fun a b ha hb => by
            unfold topK
            by_cases e2 : a < k ∨ (a = k ∧ b < 60)
            · rw [if_pos e2, if_pos (show a < k + 1 ∨ (a = k + 1 ∧ b < 0) by omega)]
            · rw [if_neg e2, if_neg (show ¬ (a < k + 1 ∨ (a = k + 1 ∧ b < 0)) by omega)])
          have HT := Lib.hid hT
          clear hB hT
          go_wp2_with fail
          go_roundw
          case rel => exact ⟨k + 1, by have := HKT.out; omega, by go_num, HN.out, HT.out⟩
          case measure => simp [intOf]; omega
    · obtain rfl : k = 60 := by omega
      have HR := Lib.hid (show RB wr g false (rT topT) from RB.congr hB fun a b ha hb => by unfold topK; rw [if_pos (by omega)])
      have H0 := Lib.hid (Hb1'.out.touch hT HNE.out)
      have HBl := Lib.hid (show Below w.heap.size w wr from HB2.out.trans (hT.below HG.out HB2.out.size))
      clear hB hT
      go_wp2_with (first
        | (refine wpList_load_all rfl 41 _ rfl g rfl 41 3601 (zc false (rT topT)) _ HR.out Try.underlying41 rfl sizeZ ?_)
        | (refine wpList_store_all rfl 41 _ _ rfl g0 41 3601 _ (zc false (rT topT)) rfl rfl H0.out sizeZ (rz_one _ _) ?_; intro w7 h7 hT7 hs7))
      refine bodyPost_ret (result_z rfl _ _ g0 false (rT topT) rfl h7) rfl ⟨rfl, ?_⟩
      exact HBl.out.trans (hT7.below (by rw [HG0.out]; exact Nat.le_refl _) HBl.out.size)
set_option maxHeartbeats 2000000 in
theorem Nothing_any (w : World) : Calls Try.prog 74 #[] w fun e w' => e = .returned (rvV (true, rT topT)) ∧ Below w.heap.size w w' := by
  go_enter Try.func74, Try.ntmps74
  go_upto_region 1 with (refine wpList_alloc_seg rfl 41 rfl 3601 zr zeroZ ?_; intro w1 hb1 hB1 hs1)
  obtain ⟨g0, hg0⟩ : ∃ g, g = w.heap.size := ⟨_, rfl⟩
  rw [← hg0] at hb1 ⊢
  have HG0 := Lib.hid hg0
  have HB1 := Lib.hid hB1
  have Hb1 := Lib.hid (show RB w1 g0 false zeroM from FB.congr hb1 zr_zc)
  clear hg0 hb1 hB1 hs1
  go_wp2_with fail
  go_at_call 14
  refine (Top_any w1).mono ?_
  rintro e w2 ⟨rfl, hB2⟩
  have HB2 := Lib.hid (HB1.out.trans (hB2.mono HB1.out.size))
  have Hb2 := Lib.hid (Hb1.out.up hB2)
  obtain ⟨T, hT0⟩ : ∃ T, T = rT topT := ⟨_, rfl⟩
  rw [← hT0]
  have HTT := Lib.hid hT0
  clear hB2 hT0
  go_upto_region 2 with (
    refine wpList_alloc_seg rfl 41 rfl 3601 zr zeroZ ?_
    intro w3 hb3 hB3 hs3
    obtain ⟨g, hg⟩ : ∃ g, g = w2.heap.size := ⟨_, rfl⟩
    rw [← hg] at hb3 ⊢
    have HG := Lib.hid (show w.heap.size ≤ g by have := HB2.out.size; omega)
    have HNE := Lib.hid (show g0 ≠ g by have := Hb2.out.lt; omega)
    have HB3 := Lib.hid (HB2.out.trans (hB3.mono HB2.out.size))
    have Hb3 := Lib.hid (Hb2.out.up hB3)
    clear hg hs3 hB3
    refine wpList_store_all rfl 41 _ _ rfl g 41 3601 _ (zc false T) rfl rfl hb3 sizeZ (rz_one _ _) ?_
    intro w4 hb4 hT4 hs4
    have HR := Lib.hid (show RB w4 g false T from hb4)
    have H0 := Lib.hid (Hb3.out.touch hT4 HNE.out)
    have HB4 := Lib.hid (HB3.out.trans (hT4.below HG.out HB3.out.size))
    clear hb3 hb4 hT4 hs4)
  have x0 := HR.out.head
  have f0 := FB.frozen HR.out 0
  have HR2 := Lib.hid (HR.out.void true)
  have H02 := Lib.hid (H0.out.touch (Touch.set_ (g := g) w4 0 (.bool true)) HNE.out)
  have HB5 := Lib.hid (HB4.out.trans ((Touch.set_ (g := g) w4 0 (.bool true)).below HG.out HB4.out.size))
  go_upto_region 3 with (fail)
  generalize w4.setCell ⟨g, 0, none⟩ (.bool true) = w5 at *
  clear x0 f0
  go_wp2_with (first
    | (refine wpList_load_all rfl 41 _ rfl g rfl 41 3601 (zc true T) _ HR2.out Try.underlying41 rfl sizeZ ?_)
    | (refine wpList_store_all rfl 41 _ _ rfl g0 41 3601 _ (zc true T) rfl rfl H02.out sizeZ (rz_one _ _) ?_; intro w7 h7 hT7 hs7))
  refine bodyPost_ret (result_z rfl _ _ g0 true T rfl h7) rfl ⟨by rw [HTT.out], ?_⟩
  exact HB5.out.trans (hT7.below (by rw [HG0.out]; exact Nat.le_refl _) HB5.out.size)
end Go.Proofs.Ytejcijbohnlbgaa
