/- Contracts of package zone: add. -/
import Derived.Test.YtejcijbohnlbgaaZC
namespace Go.Proofs.Ytejcijbohnlbgaa
open Go.ChangeShapes Go.WideShapes Go.ChangeAt Go.RowKit
open Zon
set_option linter.unusedVariables false
set_option maxRecDepth 100000
theorem zc_congr {e : Bool} {M N : Tab} (h : ∀ p q, p < 60 → q < 60 → M p q = N p q) : ∀ k, k < 3601 → zc e M k = zc e N k := fun k hk => by
  unfold zc tabC
  by_cases e0 : k = 0
  · rw [if_pos e0, if_pos e0]
  · rw [if_neg e0, if_neg e0, h _ _ (by omega) (by omega)]
theorem ZB.congr {w : World} {g : Nat} {e : Bool} {M N : Tab} (hb : ZB w g e M) (h : ∀ p q, p < 60 → q < 60 → M p q = N p q) : ZB w g e N := FB.congr hb (zc_congr h)
theorem zc_row (e : Bool) (M : Tab) (p : Nat) (r : Nat → Int) (hp : p < 60) : ∀ k, k < 3601 → updR (zc e M) (1 + p * 60) 60 (fun q => .int .i64 (r q)) k = zc e (fun a q => if a = p then r q else M a q) k := fun k hk => by
  unfold updR zc tabC
  by_cases h : 1 + p * 60 ≤ k ∧ k < 1 + p * 60 + 60
  · rw [if_pos h, if_neg (by omega)]
    have h1 : (k - 1) / 60 = p := by omega
    have h2 : (k - 1) % 60 = k - (1 + p * 60) := by omega
    simp only [h1, h2, if_true]
  · rw [if_neg h]
    by_cases e0 : k = 0
    · rw [if_pos e0, if_pos e0]
    · rw [if_neg e0, if_neg e0]
      have h1 : (k - 1) / 60 ≠ p := by omega
      simp only [if_neg h1]
theorem ZB.row {w : World} {g : Nat} {e : Bool} {M N : Tab} {p : Nat} {r : Nat → Int} (h : FB w g 106 3601 (updR (zc e M) (1 + p * 60) 60 (fun q => .int .i64 (r q)))) (hp : p < 60) (hN : ∀ a q, a < 60 → q < 60 → (if a = p then r q else M a q) = N a q) : ZB w g e N :=
  ZB.congr (FB.congr h (zc_row e M p r hp)) hN
theorem ZB.at_ {w : World} {g : Nat} {e : Bool} {M : Tab} (h : ZB w g e M) (p q : Nat) (hp : p < 60) (hq : q < 60) : w.cell? ⟨g, 1 + p * 60 + q, none⟩ = some (.int .i64 (M p q)) := by
  rw [FB.cell h (1 + p * 60 + q) (by omega), zc_at e M p q hq]
theorem ZB.head {w : World} {g : Nat} {e : Bool} {M : Tab} (h : ZB w g e M) : w.cell? ⟨g, 0, none⟩ = some (.bool e) := FB.cell h 0 (by omega)
theorem ZB.lt {w : World} {g : Nat} {e : Bool} {M : Tab} (h : ZB w g e M) : g < w.heap.size := FB.lt h
theorem ZB.up {w w' : World} {g : Nat} {e : Bool} {M : Tab} (h : ZB w g e M) (hb : Below w.heap.size w w') : ZB w' g e M := FB.up h hb
theorem ZB.touch {w w' : World} {g k : Nat} {e : Bool} {M : Tab} (h : ZB w g e M) (ht : Touch k w w') (hne : g ≠ k) : ZB w' g e M := FB.touch h ht hne
def stepT (M : Tab) (i j : Nat) (c : Int) (k : Nat) : Tab := fun p q => if p < k then addT M i j c p q else M p q
def AddPost (w : World) (g : Nat) (z : Zn) (e : Ending) (w' : World) : Prop :=
  Touch g w w' ∧ ((∃ N, z = some N ∧ e = .returned (.bool true) ∧ ZB w' g false N) ∨ (z = none ∧ e = .returned (.bool false) ∧ ∃ N, ZB w' g false N))
theorem addPost_yes {w w' : World} {g : Nat} {z : Zn} {N : Tab} (ht : Touch g w w') (hz : z = some N) (hb : ZB w' g false N) : AddPost w g z (.returned (.bool true)) w' := ⟨ht, .inl ⟨N, hz, rfl, hb⟩⟩
theorem addPost_no {w w' : World} {g : Nat} {z : Zn} {N : Tab} (ht : Touch g w w') (hz : z = none) (hb : ZB w' g false N) : AddPost w g z (.returned (.bool false)) w' := ⟨ht, .inr ⟨hz, rfl, N, hb⟩⟩
set_option maxHeartbeats 4000000 in
theorem add_any (w : World) (g i j : Nat) (c : Int) (M : Tab) (hz : ZB w g false M) (hM : OkT M) (hi : i < 60) (hj : j < 60) (hc : rngB c = true) :
    Calls Try.prog 72 #[.pointer (some ⟨g, 1, none⟩), .int .i64 i, .int .i64 j, .int .i64 c] w (AddPost w g (addZ M i j c)) := by
  have HZ := Lib.hid hz
  have HM := Lib.hid hM
  have hc2 : Rn c := (ok_of_rng hc).rng
  have HC := Lib.hid hc2
  clear hz hM hc hc2
  have hi1 : (i : Int) < 60 := by omega
  have hi0 : (0 : Int) ≤ i := by omega
  have hj1 : (j : Int) < 60 := by omega
  have hj0 : (0 : Int) ≤ j := by omega
  by_cases hij : i = j
  · have HA := Lib.hid (show addZ M i j c = if 0 ≤ c then some M else none by unfold addZ; rw [if_pos hij])
    subst hij
    by_cases h0 : 0 ≤ c
    · have t1 : decide (0 ≤ c) = true := decide_eq_true h0
      have HX := Lib.hid (HA.out.trans (if_pos h0))
      clear HA h0
      go_enter Try.func72, Try.ntmps72
      go_wp2_with fail
      go_ret
      exact addPost_yes (Touch.refl _ _) HX.out HZ.out
    · have t1 : decide (0 ≤ c) = false := decide_eq_false h0
      have HX := Lib.hid (HA.out.trans (if_neg h0))
      clear HA h0
      go_enter Try.func72, Try.ntmps72
      go_wp2_with fail
      go_ret
      exact addPost_no (Touch.refl _ _) HX.out HZ.out
  · have t0 : ((i : Int) == (j : Int)) = false := by rw [beq_eq_false_iff_ne]; omega
    have x1 := HZ.out.at_ i j hi hj
    have x2 := HZ.out.at_ j i hj hi
    by_cases h1 : M i j ≤ c
    · have t1 : decide (M i j ≤ c) = true := decide_eq_true h1
      have HX := Lib.hid (show addZ M i j c = some M by unfold addZ; rw [if_neg hij, if_pos h1])
      clear h1 hij
      go_enter Try.func72, Try.ntmps72
      go_wp2_with fail
      go_ret
      exact addPost_yes (Touch.refl _ _) HX.out HZ.out
    · have t1 : decide (M i j ≤ c) = false := decide_eq_false h1
      have HS := Lib.hid (sum_any (M j i) c w (HM.out j i hj hi).rng HC.out)
      by_cases h2 : psum (M j i) c < 0
      · have t2 : decide (psum (M j i) c < 0) = true := decide_eq_true h2
        have HX := Lib.hid (show addZ M i j c = none by unfold addZ; rw [if_neg hij, if_neg h1, if_pos h2])
        clear h1 h2 hij
        go_enter Try.func72, Try.ntmps72
        go_wp2_with (go_at_call 77; refine HS.out.mono ?_; rintro e w' ⟨rfl, rfl⟩)
        go_ret
        exact addPost_no (Touch.refl _ _) HX.out HZ.out
      · have t2 : decide (psum (M j i) c < 0) = false := decide_eq_false h2
        have HX := Lib.hid (show addZ M i j c = if negT (addT M i j c) then none else some (addT M i j c) by unfold addZ; rw [if_neg hij, if_neg h1, if_neg h2])
        clear h1 h2 hij
        go_enter Try.func72, Try.ntmps72
        go_upto_region 7 with (go_at_call 77; refine HS.out.mono ?_; rintro e w' ⟨rfl, rfl⟩)
        clear HS t0 t1 t2 x1 x2
        go_upto_region 8 with (first
          | (refine wpList_load_seg rfl 101 _ rfl g (1 + j * 60) rfl 106 3601 60 (zc false M) _ HZ.out (by omega) Try.underlying101 rfl sizeRow ?_)
          | (refine wpList_alloc_seg rfl 101 rfl 60 (fun _ => .int .i64 0) zeroRow ?_; intro w2 hb2 hB2 hs2)
          | (refine wpList_store_all rfl 101 _ _ rfl w.heap.size 101 60 _ (fun q => zc false M (1 + j * 60 + q)) rfl rfl hb2 sizeRow (fun q hq => by rw [zc_at false M j q hq]; rfl) ?_; intro w3 hb3 hT3 hs3))
        obtain ⟨g9, hg9⟩ : ∃ x, x = w.heap.size := ⟨_, rfl⟩
        rw [← hg9] at hb3 hT3
        have hne : g9 ≠ g := by have := HZ.out.lt; omega
        have HNE := Lib.hid hne
        have HR3 := Lib.hid hb3
        have HZ3 := Lib.hid ((HZ.out.up hB2).touch hT3 (fun e => hne e.symm))
        have HT3 := Lib.hid (show Touch g w w3 from ⟨hT3.os.trans hB2.os, hT3.tape.trans hB2.tape, hT3.output.trans hB2.output, by have := hT3.size; have := hB2.size; omega, fun k hk _ => (hT3.block k (by omega) (by omega)).trans (hB2.block k hk)⟩)
        rw [← hg9]
        clear hb3 hB2 hs2 hs3 hT3 hb2 hne hg9
        go_wp2_with fail
        go_loopw [40] (fun i' wr => ∃ k : Nat, k ≤ 60 ∧ i' = .int .i64 k ∧ ZB wr g false (stepT M i j c k) ∧ (∀ p, p < k → 0 ≤ addT M i j c p p) ∧ FB wr g9 101 60 (fun q => zc false M (1 + j * 60 + q)) ∧ Touch g w wr) (fun i' _ => (60 - intOf i').toNat)
        case atStart => exact ⟨0, by omega, rfl, HZ3.out.congr fun p q _ _ => by unfold stepT; rw [if_neg (by omega)], fun p hp => absurd hp (by omega), HR3.out, HT3.out⟩
        case round =>
          clear HR3 HZ3 HT3
          obtain ⟨k, hk, rfl, hB, hneg, hR, hT⟩ := hrel
          by_cases hlt : k < 60
          · have hlt' : (k : Int) < 60 := by omega
            have hk0 : (0 : Int) ≤ k := by omega
            have hs1 : stepT M i j c k k i = M k i := by unfold stepT; rw [if_neg (by omega)]
            have HK := Lib.hid hB
            have HKR := Lib.hid hR
            have HKT := Lib.hid hT
            have HNG := Lib.hid hneg
            clear hB hR hT hneg
            go_upto_region 11 with (fail)
            refine wp_region_tail 13 (by kernel_rfl) (by kernel_rfl) fun W hW => ?_
            simp only [List.take_succ_cons, List.take_zero, List.drop_succ_cons, List.drop_zero]
            have hBW : ZB W g false (stepT M i j c k) := by rw [hW]; exact HK.out
            have hTW : Touch g w W := by rw [hW]; exact HKT.out.trans (Touch.drewN wr 1)
            have HRW := Lib.hid (show FB W g9 101 60 (fun q => zc false M (1 + j * 60 + q)) by rw [hW]; exact HKR.out)
            have x1 := hBW.at_ k i hlt hi
            rw [hs1] at x1
            have HBW := Lib.hid hBW
            have HTW := Lib.hid hTW
            have HS := Lib.hid (sum_any (M k i) c W (HM.out k i hlt hi).rng HC.out)
            clear hBW hTW hW hs1 HK HKR HKT
            iterate 12 still_step
            still_call (HS.out.mono fun e w'' h => ⟨h.1, h.2.symm⟩)
            refine wpStill_nil ?_
            clear HS x1
            go_wp2_with fail
            go_at_call 73
            refine (lower_any W g (1 + k * 60) _ 3601 _ g9 0 _ 60 _ (M k) (M j) (psum (M k i) c) HBW.out HRW.out HNE.out (by omega) (by omega) (fun q hq => ?_) (fun q hq => ?_) (fun q hq => (HM.out k q hlt hq).rng) (fun q hq => (HM.out j q hj hq).rng) (Rn.psum _ _)).mono ?_
            · rw [zc_at _ _ _ _ hq]; unfold stepT; rw [if_neg (by omega)]
            · rw [Nat.zero_add, zc_at _ _ _ _ hq]
            rintro e w4 ⟨rfl, hB4, hT4⟩
            have hZ4 : ZB w4 g false (stepT M i j c (k + 1)) := ZB.row hB4 hlt fun a q ha hq => by
              unfold stepT
              by_cases e : a = k
              · rw [if_pos e, if_pos (by omega), e]; rfl
              · rw [if_neg e]
                by_cases e2 : a < k
                · rw [if_pos e2, if_pos (by omega)]
                · rw [if_neg e2, if_neg (by omega)]
            have x2 := hZ4.at_ k k hlt hlt
            rw [show stepT M i j c (k + 1) k k = addT M i j c k k by unfold stepT; rw [if_pos (by omega)]] at x2
            have HZ4 := Lib.hid hZ4
            have HT4 := Lib.hid (HTW.out.trans hT4)
            have HR4 := Lib.hid (HRW.out.touch hT4 HNE.out)
            clear hB4 hT4 hZ4 HBW HTW HRW
            by_cases h0 : addT M i j c k k < 0
            · have t1 : decide (addT M i j c k k < 0) = true := decide_eq_true h0
              have HXn := Lib.hid (show addZ M i j c = none by rw [HX.out, negT_true hlt h0]; rfl)
              clear h0
              go_wp2_with fail
              go_ret
              exact addPost_no HT4.out HXn.out HZ4.out
            · have t1 : decide (addT M i j c k k < 0) = false := decide_eq_false h0
              have HN4 := Lib.hid (show ∀ p, p < k + 1 → 0 ≤ addT M i j c p p from fun p hp => by
                by_cases e : p = k
                · rw [e]; omega
                · exact HNG.out p (by omega))
              clear h0
              go_wp2_with fail
              go_roundw
              case rel => exact ⟨k + 1, by omega, by go_num, HZ4.out, HN4.out, HR4.out, HT4.out⟩
              case measure => simp [intOf]; omega
          · obtain rfl : k = 60 := by omega
            have HXy := Lib.hid (show addZ M i j c = some (addT M i j c) by rw [HX.out, negT_false.mpr hneg]; rfl)
            have HBn := Lib.hid (hB.congr (N := addT M i j c) fun p q hp _ => by unfold stepT; rw [if_pos hp])
            have HT := Lib.hid hT
            clear hB hT hneg hR
            go_wp2_with fail
            go_ret
            exact addPost_yes HT.out HXy.out HBn.out
end Go.Proofs.Ytejcijbohnlbgaa
