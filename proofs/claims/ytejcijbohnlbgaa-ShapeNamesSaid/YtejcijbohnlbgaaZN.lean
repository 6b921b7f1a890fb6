/- Contracts of package zone: greater, kept, merge, Join, Widen. -/
import Derived.Test.YtejcijbohnlbgaaZL
namespace Go.Proofs.Ytejcijbohnlbgaa
open Go.ChangeShapes Go.WideShapes Go.ChangeAt Go.RowKit
open Zon
set_option linter.unusedVariables false
set_option maxRecDepth 100000
theorem greater_any (a b : Int) (w : World) : Calls Try.prog 59 #[.int .i64 a, .int .i64 b] w fun e w' => e = .returned (.int .i64 (max a b)) ∧ w = w' := by
  go_enter Try.func59, Try.ntmps59
  go_wp2_with fail
  all_goals
    go_ret
    exact ⟨ret_i64 (by omega), rfl⟩
def keptV (a b : Int) : Int := if b ≤ a then a else 3458764513820540928
theorem kept_any (a b : Int) (w : World) : Calls Try.prog 60 #[.int .i64 a, .int .i64 b] w fun e w' => e = .returned (.int .i64 (keptV a b)) ∧ w = w' := by
  by_cases h : b ≤ a
  · have t : decide (b ≤ a) = true := decide_eq_true h
    have HE := Lib.hid (show keptV a b = a from if_pos h)
    clear h
    go_enter Try.func60, Try.ntmps60
    go_wp2_with fail
    go_ret
    exact ⟨ret_i64 HE.out.symm, rfl⟩
  · have t : decide (b ≤ a) = false := decide_eq_false h
    have HE := Lib.hid (show keptV a b = 3458764513820540928 from if_neg h)
    clear h
    go_enter Try.func60, Try.ntmps60
    go_wp2_with fail
    go_ret
    exact ⟨ret_i64 HE.out.symm, rfl⟩
theorem zc_set (e : Bool) (M : Tab) (p q : Nat) (v : Int) (hp : p < 60) (hq : q < 60) : ∀ k, k < 3601 → upd (zc e M) (1 + p * 60 + q) (.int .i64 v) k = zc e (fun a b => if a = p ∧ b = q then v else M a b) k := fun k hk => by
  unfold upd zc tabC
  by_cases h : k = 1 + p * 60 + q
  · rw [if_pos h, if_neg (by omega)]
    have h1 : (k - 1) / 60 = p := by omega
    have h2 : (k - 1) % 60 = q := by omega
    simp only [h1, h2, and_self, if_true]
  · rw [if_neg h]
    by_cases e0 : k = 0
    · rw [if_pos e0, if_pos e0]
    · rw [if_neg e0, if_neg e0]
      have h1 : ¬ ((k - 1) / 60 = p ∧ (k - 1) % 60 = q) := by omega
      simp only [if_neg h1]
theorem ZB.set {w : World} {g : Nat} {e : Bool} {M N : Tab} (hb : ZB w g e M) (p q : Nat) (v : Int) (hp : p < 60) (hq : q < 60) (hN : ∀ a b, a < 60 → b < 60 → (if a = p ∧ b = q then v else M a b) = N a b) : ZB (w.setCell ⟨g, 1 + p * 60 + q, none⟩ (.int .i64 v)) g e N :=
  ZB.congr (FB.congr (FB.set_ hb (1 + p * 60 + q) (.int .i64 v)) (zc_set e M p q v hp hq)) hN
theorem ZB.frozen {w : World} {g : Nat} {e : Bool} {M : Tab} (h : ZB w g e M) (k : Nat) : w.frozen? ⟨g, k, none⟩ = false := FB.frozen h k
def mergeT (f : Int → Int → Int) (M O : Tab) (k j : Nat) : Tab := fun p q => if p < k ∨ (p = k ∧ q < j) then f (M p q) (O p q) else M p q
set_option maxHeartbeats 4000000 in
theorem merge_any (w : World) (g g2 K : Nat) (f : Int → Int → Int) (e e2 : Bool) (M O : Tab) (hz : ZB w g e M) (ho : ZB w g2 e2 O) (hne : g2 ≠ g)
    (hen : ∀ (a : Array Value) (W : World), (callFunc K a).run Try.prog W = .ok (.enter K a) W)
    (hf : ∀ a b W, Calls Try.prog K #[.int .i64 a, .int .i64 b] W fun e w' => e = .returned (.int .i64 (f a b)) ∧ W = w') :
    Calls Try.prog 78 #[.pointer (some ⟨g, 1, none⟩), .pointer (some ⟨g2, 1, none⟩), .func (.func K) #[] #[]] w fun en w' => en = .returned (.tuple #[]) ∧ ZB w' g e (mergeT f M O 60 0) ∧ Touch g w w' := by
  have HZ := Lib.hid hz
  have HO := Lib.hid ho
  have HF := Lib.hid hf
  clear hz ho hf
  go_enter Try.func78, Try.ntmps78
  go_wp2_with fail
  go_loopw [9] (fun i wr => ∃ k : Nat, k ≤ 60 ∧ i = .int .i64 k ∧ ZB wr g e (mergeT f M O k 0) ∧ Touch g w wr) (fun i _ => (60 - intOf i).toNat)
  case atStart => exact ⟨0, by omega, rfl, HZ.out.congr fun p q _ _ => by unfold mergeT; rw [if_neg (by omega)], Touch.refl _ _⟩
  case round =>
    obtain ⟨k, hk, rfl, hB, hT⟩ := hrel
    by_cases hlt : k < 60
    · have hlt' : (k : Int) < 60 := by omega
      have hk0 : (0 : Int) ≤ k := by omega
      have HB := Lib.hid hB
      have HT := Lib.hid hT
      clear hB hT
      go_upto_region 3 with (fail)
      go_wp2_with (refine wpList_load_seg rfl 101 _ rfl g (1 + k * 60) rfl 106 3601 60 _ _ HB.out (by omega) Try.underlying101 rfl sizeRow ?_)
      obtain ⟨wo, rfl⟩ : ∃ wo : World, wo = wr := ⟨_, rfl⟩
      go_loopw [17] (fun i wr => ∃ j : Nat, j ≤ 60 ∧ i = .int .i64 j ∧ ZB wr g e (mergeT f M O k j) ∧ Touch g w wr) (fun i _ => (60 - intOf i).toNat)
      case atStart => exact ⟨0, by omega, rfl, HB.out, HT.out⟩
      case round =>
        clear HB HT
        obtain ⟨j, hj, rfl, hB, hT⟩ := hrel
        by_cases hjt : j < 60
        · have hjt' : (j : Int) < 60 := by omega
          have hj0 : (0 : Int) ≤ j := by omega
          have hix := fun W => index_row W (fun q => zc e (mergeT f M O k 0) (1 + k * 60 + q)) j hjt
          simp only [zc_at e (mergeT f M O k 0) k j hjt] at hix
          rw [show mergeT f M O k 0 k j = M k j by unfold mergeT; rw [if_neg (by omega)]] at hix
          have hy := (HO.out.touch hT hne).at_ k j hlt hjt
          have HB := Lib.hid hB
          have HT := Lib.hid hT
          clear hB hT
          go_upto_region 6 with (fail)
          clear hix
          refine wp_region_tail 16 (by kernel_rfl) (by kernel_rfl) fun W hW => ?_
          simp only [List.take_succ_cons, List.take_zero, List.drop_succ_cons, List.drop_zero]
          have hBW : ZB W g e (mergeT f M O k j) := by rw [hW]; exact HB.out
          have hTW : Touch g w W := by rw [hW]; exact HT.out.trans (Touch.drewN wr 1)
          have hyW : W.cell? ⟨g2, 1 + k * 60 + j, none⟩ = some (.int .i64 (O k j)) := by rw [hW]; exact hy
          have hxW := hBW.at_ k j hlt hjt
          have hfW := hBW.frozen (1 + k * 60 + j)
          have HBn := Lib.hid (hBW.set (N := mergeT f M O k (j + 1)) k j (f (M k j) (O k j)) hlt hjt fun a b ha hb => by
            unfold mergeT
            by_cases h1 : a = k ∧ b = j
            · rw [if_pos h1, if_pos (by omega), h1.1, h1.2]
            · rw [if_neg h1]
              by_cases h2 : a < k ∨ (a = k ∧ b < j)
              · rw [if_pos h2, if_pos (by omega)]
              · rw [if_neg h2, if_neg (by omega)])
          have HTn := Lib.hid (hTW.trans (Touch.set_ W (1 + k * 60 + j) (.int .i64 (f (M k j) (O k j)))))
          have HS := Lib.hid (HF.out (M k j) (O k j) W)
          clear hBW hTW hW hy HB HT
          iterate 12 still_step
          still_call (HS.out.mono fun e w'' h => ⟨h.1, h.2.symm⟩)
          iterate 3 still_step
          refine wpStill_nil ?_
          clear HS
          go_wp2_with fail
          go_roundw
          case rel => exact ⟨j + 1, by omega, by go_num, HBn.out, HTn.out⟩
          case measure => simp [intOf]; omega
        · obtain rfl : j = 60 := by omega
          have HB := Lib.hid (hB.congr (N := mergeT f M O (k + 1) 0) fun a b ha hb => by
            unfold mergeT
            by_cases h2 : a < k ∨ (a = k ∧ b < 60)
            · rw [if_pos h2, if_pos (by omega)]
            · rw [if_neg h2, if_neg (by omega)])
          have HT := Lib.hid hT
          clear hB hT
          go_wp2_with fail
          go_roundw
          case rel => exact ⟨k + 1, by omega, by go_num, HB.out, HT.out⟩
          case measure => simp [intOf]; omega
    · obtain rfl : k = 60 := by omega
      go_wp2_with fail
      go_end0
      exact ⟨rfl, hB, hT⟩
def byT (f : Int → Int → Int) (M O : Tab) : Tab := fun p q => f (M p q) (O p q)
theorem mergeT_all {w : World} {g : Nat} {e : Bool} {f : Int → Int → Int} {M O : Tab} (h : ZB w g e (mergeT f M O 60 0)) : ZB w g e (byT f M O) :=
  h.congr fun p q hp _ => by unfold mergeT byT; rw [if_pos (by omega)]
set_option maxHeartbeats 2000000 in
theorem merged_any (w : World) (g g2 K : Nat) (f : Int → Int → Int) (z o : Zn) (hz : ZoneAt w g z) (ho : ZoneAt w g2 o)
    (hen : ∀ (a : Array Value) (W : World), (callFunc K a).run Try.prog W = .ok (.enter K a) W)
    (hf : ∀ a b W, Calls Try.prog K #[.int .i64 a, .int .i64 b] W fun e w' => e = .returned (.int .i64 (f a b)) ∧ W = w') (hok : ∀ M O, OkT M → OkT O → OkT (byT f M O)) :
    Calls Try.prog 58 #[.pointer (some ⟨g, 0, none⟩), .pointer (some ⟨g2, 0, none⟩), .func (.func K) #[] #[]] w (Made w (mergeZ (byT f) z o)) := by
  have HX := Lib.hid hz.head
  have HY := Lib.hid ho.head
  obtain ⟨e1, M, hb, hM⟩ : ∃ e M, ZB w g e M ∧ (z = none ∧ e = true ∧ M = zeroM ∨ z = some M ∧ e = false ∧ OkT M) := by cases z with | none => exact ⟨_, _, hz, .inl ⟨rfl, rfl, rfl⟩⟩ | some M => exact ⟨_, _, hz.1, .inr ⟨rfl, rfl, hz.2⟩⟩
  obtain ⟨e2, O, hc, hO⟩ : ∃ e M, ZB w g2 e M ∧ (o = none ∧ e = true ∧ M = zeroM ∨ o = some M ∧ e = false ∧ OkT M) := by cases o with | none => exact ⟨_, _, ho, .inl ⟨rfl, rfl, rfl⟩⟩ | some M => exact ⟨_, _, ho.1, .inr ⟨rfl, rfl, ho.2⟩⟩
  have HM := Lib.hid hb
  have HO := Lib.hid hc
  have HZO := Lib.hid ho
  have HF := Lib.hid hf
  have HOK := Lib.hid hok
  have hx := hb.head
  have hy := hc.head
  clear hz ho hf hok hb hc
  have HCM := Lib.hid hM
  have HCO := Lib.hid hO
  have he : (e1 = true) ∨ (e1 = false ∧ e2 = true) ∨ (e1 = false ∧ e2 = false) := by cases e1 <;> cases e2 <;> simp
  clear hM hO
  have hx' : ∀ W, Below w.heap.size w W → W.cell? ⟨g, 0, none⟩ = some (.bool e1) := fun W h => by rw [h.cell (p := ⟨g, 0, none⟩) HM.out.lt]; exact hx
  have hy' : ∀ W, Below w.heap.size w W → W.cell? ⟨g2, 0, none⟩ = some (.bool e2) := fun W h => by rw [h.cell (p := ⟨g2, 0, none⟩) HO.out.lt]; exact hy
  have HX' := Lib.hid hx'
  have HY' := Lib.hid hy'
  clear hx hy hx' hy' HX HY
  go_enter Try.func58, Try.ntmps58
  go_upto_region 2 with (first
    | (refine wpList_load_all rfl 106 _ rfl g rfl 106 3601 (zc e1 M) _ HM.out Try.underlying106 rfl sizeZone ?_)
    | (refine wpList_alloc_seg rfl 106 rfl 3601 zr zeroZone ?_; intro w2 hb2 hB2 hs2)
    | (refine wpList_store_all rfl 106 _ _ rfl w.heap.size 106 3601 _ (zc e1 M) rfl rfl hb2 sizeZone (zc_one _ _) ?_; intro w3 hb3 hT3 hs3))
  have HB3 := Lib.hid (Touch.new hT3 hB2)
  have Hb3 := Lib.hid (show ZB w3 w.heap.size e1 M from hb3)
  have x3 := HX'.out w3 HB3.out
  have y3 := HY'.out w3 HB3.out
  clear hb3 hT3 hs3 hB2 hs2 hb2 HX' HY'
  obtain ⟨gn, hgn⟩ : ∃ x, x = w.heap.size := ⟨_, rfl⟩
  rw [← hgn] at Hb3 ⊢
  have HG := Lib.hid hgn
  have HNE := Lib.hid (show g2 ≠ gn by have := HO.out.lt; omega)
  clear hgn
  rcases he with rfl | ⟨rfl, rfl⟩ | ⟨rfl, rfl⟩
  · have HZN := Lib.hid (show z = none by rcases HCM.out with ⟨h, _, _⟩ | ⟨_, h, _⟩; exact h; cases h)
    go_wp2_with (first
      | (refine wpList_load_all rfl 106 _ rfl g2 rfl 106 3601 (zc e2 O) _ (HO.out.up HB3.out) Try.underlying106 rfl sizeZone ?_)
      | (refine wpList_store_all rfl 106 _ _ rfl gn 106 3601 _ (zc e2 O) rfl rfl Hb3.out sizeZone (zc_one _ _) ?_; intro w5 hb5 hT5 hs5))
    go_ret
    refine ⟨gn, rfl, by rw [HG.out]; exact Nat.le_refl _, ?_, HB3.out.trans (hT5.below (by rw [HG.out]; exact Nat.le_refl _) HB3.out.size)⟩
    rw [HZN.out]
    show ZoneAt w5 gn o
    rcases HCO.out with ⟨h1, h2, h3⟩ | ⟨h1, h2, h3⟩
    · rw [h1]; subst h2; subst h3; exact hb5
    · rw [h1]; subst h2; exact ⟨hb5, h3⟩
  · have HZN := Lib.hid (show z = some M ∧ OkT M by rcases HCM.out with ⟨_, h, _⟩ | ⟨h, _, h2⟩; cases h; exact ⟨h, h2⟩)
    have HON := Lib.hid (show o = none by rcases HCO.out with ⟨h, _, _⟩ | ⟨_, h, _⟩; exact h; cases h)
    go_wp2_with fail
    go_ret
    refine ⟨gn, rfl, by rw [HG.out]; exact Nat.le_refl _, ?_, HB3.out⟩
    rw [HZN.out.1, HON.out]
    exact ⟨Hb3.out, HZN.out.2⟩
  · have HZN := Lib.hid (show z = some M ∧ OkT M by rcases HCM.out with ⟨_, h, _⟩ | ⟨h, _, h2⟩; cases h; exact ⟨h, h2⟩)
    have HON := Lib.hid (show o = some O ∧ OkT O by rcases HCO.out with ⟨_, h, _⟩ | ⟨h, _, h2⟩; cases h; exact ⟨h, h2⟩)
    have HCC := Lib.hid (merge_any w3 gn g2 K f false false M O Hb3.out (HO.out.up HB3.out) HNE.out hen HF.out)
    go_wp2_with fail
    go_at_call 78
    refine HCC.out.mono ?_
    rintro e w4 ⟨rfl, hb4, hT4⟩
    have HB4 := Lib.hid (HB3.out.trans (hT4.below (by rw [HG.out]; exact Nat.le_refl _) HB3.out.size))
    have Hb4 := Lib.hid (mergeT_all hb4)
    clear hb4 hT4 HCC
    go_wp2_with fail
    go_ret
    refine ⟨gn, rfl, by rw [HG.out]; exact Nat.le_refl _, ?_, HB4.out⟩
    rw [HZN.out.1, HON.out.1]
    exact ⟨Hb4.out, HOK.out M O HZN.out.2 HON.out.2⟩
theorem byT_join (M O : Tab) : byT max M O = joinT M O := rfl
theorem byT_keep (M O : Tab) : byT keptV M O = keepT M O := rfl
set_option maxHeartbeats 1000000 in
theorem Join_any (w : World) (g g2 : Nat) (z o : Zn) (hz : ZoneAt w g z) (ho : ZoneAt w g2 o) :
    Calls Try.prog 20 #[.pointer (some ⟨g, 0, none⟩), .pointer (some ⟨g2, 0, none⟩)] w (Made w (mergeZ joinT z o)) := by
  have HC := Lib.hid (merged_any w g g2 59 max z o hz ho (fun _ _ => by kernel_rfl) greater_any (fun M O h k => okT_join h k))
  clear hz ho
  go_enter Try.func20, Try.ntmps20
  go_wp2_with fail
  go_at_call 58
  refine HC.out.mono ?_
  rintro e w4 ⟨g4, rfl, h1, h2, h3⟩
  have H2 := Lib.hid h2
  have H3 := Lib.hid h3
  have H1 := Lib.hid h1
  clear h1 h2 h3
  go_wp2_with fail
  go_ret
  exact ⟨g4, rfl, H1.out, H2.out, H3.out⟩
set_option maxHeartbeats 1000000 in
theorem Widen_any (w : World) (g g2 : Nat) (z o : Zn) (hz : ZoneAt w g z) (ho : ZoneAt w g2 o) :
    Calls Try.prog 21 #[.pointer (some ⟨g, 0, none⟩), .pointer (some ⟨g2, 0, none⟩)] w (Made w (mergeZ keepT z o)) := by
  have HC := Lib.hid (merged_any w g g2 60 keptV z o hz ho (fun _ _ => by kernel_rfl) kept_any (fun M O h k => okT_keep h))
  clear hz ho
  go_enter Try.func21, Try.ntmps21
  go_wp2_with fail
  go_at_call 58
  refine HC.out.mono ?_
  rintro e w4 ⟨g4, rfl, h1, h2, h3⟩
  have H2 := Lib.hid h2
  have H3 := Lib.hid h3
  have H1 := Lib.hid h1
  clear h1 h2 h3
  go_wp2_with fail
  go_ret
  exact ⟨g4, rfl, H1.out, H2.out, H3.out⟩
end Go.Proofs.Ytejcijbohnlbgaa
