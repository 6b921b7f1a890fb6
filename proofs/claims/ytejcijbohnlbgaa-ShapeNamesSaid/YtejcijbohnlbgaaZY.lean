/- Contracts of package zone: assign, Assign. -/
import Derived.Test.YtejcijbohnlbgaaZX
import Derived.Deep.RegionWith
namespace Go.Proofs.Ytejcijbohnlbgaa
open Go.ChangeShapes Go.WideShapes Go.ChangeAt Go.RowKit
open Zon
set_option linter.unusedVariables false
set_option maxRecDepth 100000
/-- the first k places of a row and of a column made anew -/
def asgT (M : Tab) (x y : Nat) (c : Int) (k : Nat) : Tab := fun p q => if p = q then M p q else if p = x ∧ q < k then psum (M y q) c else if q = x ∧ p < k then psum (M p y) (-c) else M p q
theorem asgT_skip (M : Tab) (x y : Nat) (c : Int) (k p q : Nat) (hkx : k = x) : asgT M x y c k p q = asgT M x y c (k + 1) p q := by
  unfold asgT
  by_cases h : p = q
  · rw [if_pos h, if_pos h]
  · rw [if_neg h, if_neg h]
    have e1 : (p = x ∧ q < k + 1) ↔ (p = x ∧ q < k) := by omega
    have e2 : (q = x ∧ p < k + 1) ↔ (q = x ∧ p < k) := by omega
    simp only [e1, e2]
theorem asgT_step (M : Tab) (x y : Nat) (c : Int) (k a b : Nat) (hkx : k ≠ x) :
    (if a = k ∧ b = x then psum (M k y) (-c) else (fun a b => if a = x ∧ b = k then psum (M y k) c else asgT M x y c k a b) a b) = asgT M x y c (k + 1) a b := by
  show (if a = k ∧ b = x then psum (M k y) (-c) else if a = x ∧ b = k then psum (M y k) c else asgT M x y c k a b) = _
  unfold asgT
  by_cases h1 : a = k ∧ b = x
  · obtain ⟨rfl, rfl⟩ := h1
    rw [if_pos ⟨rfl, rfl⟩, if_neg hkx]
    have e1 : ¬ (a = b ∧ b < a + 1) := by omega
    have e2 : b = b ∧ a < a + 1 := ⟨rfl, by omega⟩
    rw [if_neg e1, if_pos e2]
  · rw [if_neg h1]
    by_cases h2 : a = x ∧ b = k
    · obtain ⟨rfl, rfl⟩ := h2
      rw [if_pos ⟨rfl, rfl⟩]
      have e0 : ¬ a = b := fun e => hkx e.symm
      have e1 : a = a ∧ b < b + 1 := ⟨rfl, by omega⟩
      rw [if_neg e0, if_pos e1]
    · rw [if_neg h2]
      by_cases h : a = b
      · rw [if_pos h, if_pos h]
      · rw [if_neg h, if_neg h]
        have e1 : (a = x ∧ b < k + 1) ↔ (a = x ∧ b < k) := by omega
        have e2 : (b = x ∧ a < k + 1) ↔ (b = x ∧ a < k) := by omega
        simp only [e1, e2]
theorem asgT_all (M : Tab) (x y : Nat) (c : Int) (p q : Nat) (hp : p < 60) (hq : q < 60) : asgT M x y c 60 p q = assignT M x y c p q := by
  unfold asgT assignT
  by_cases h : p = q
  · rw [if_pos h, if_pos h]
  · rw [if_neg h, if_neg h]
    have e1 : (p = x ∧ q < 60) ↔ p = x := by omega
    have e2 : (q = x ∧ p < 60) ↔ q = x := by omega
    simp only [e1, e2]
set_option maxHeartbeats 4000000 in
theorem assign_any (w : World) (g x y : Nat) (c : Int) (e : Bool) (M : Tab) (hz : ZB w g e M) (hM : OkT M) (hx : x < 60) (hy : y < 60) (hc : rngB c = true) :
    Calls Try.prog 54 #[.pointer (some ⟨g, 1, none⟩), .int .i64 x, .int .i64 y, .int .i64 c] w fun en w' => en = .returned (.tuple #[]) ∧ ZB w' g e (assignT M x y c) ∧ Touch g w w' := by
  have HZ := Lib.hid hz
  have HM := Lib.hid hM
  have hx1 : (x : Int) < 60 := by omega
  have hx0 : (0 : Int) ≤ x := by omega
  have hy1 : (y : Int) < 60 := by omega
  have hy0 : (0 : Int) ≤ y := by omega
  have hc1 : -1152921504606846976 ≤ c ∧ c ≤ 1152921504606846976 := by unfold rngB at hc; simp at hc; exact hc
  obtain ⟨c1, c2⟩ := hc1
  clear hz hM hc
  go_enter Try.func54, Try.ntmps54
  go_wp2_with fail
  go_loopw [9] (fun i wr => ∃ k : Nat, k ≤ 60 ∧ i = .int .i64 k ∧ ZB wr g e (asgT M x y c k) ∧ Touch g w wr) (fun i _ => (60 - intOf i).toNat)
  case atStart => exact ⟨0, by omega, rfl, HZ.out.congr fun p q _ _ => by unfold asgT; by_cases h : p = q; rw [if_pos h]; rw [if_neg h, if_neg (by omega), if_neg (by omega)], Touch.refl _ _⟩
  case round =>
    obtain ⟨k, hk, rfl, hB, hT⟩ := hrel
    by_cases hlt : k < 60
    · have hlt' : (k : Int) < 60 := by omega
      have hk0 : (0 : Int) ≤ k := by omega
      by_cases hkx : k = x
      · have HN := Lib.hid (hB.congr (N := asgT M x y c (k + 1)) fun p q hp hq => asgT_skip M x y c k p q hkx)
        have HT := Lib.hid hT
        have t1 : ((k : Int) != (x : Int)) = false := by rw [hkx]; exact bne_self_eq_false _
        have t2 : ((k : Int) == (x : Int)) = true := by rw [hkx]; exact beq_self_eq_true _
        clear hB hT hkx
        go_wp2_with fail
        go_roundw
        case rel => exact ⟨k + 1, by omega, by go_num, HN.out, HT.out⟩
        case measure => simp [intOf]; omega
      · have t1 : ((k : Int) != (x : Int)) = true := by rw [bne_iff_ne]; omega
        have t2 : ((k : Int) == (x : Int)) = false := by rw [beq_eq_false_iff_ne]; omega
        have y1 := hB.at_ y k hy hlt
        have y2 := hB.at_ k y hlt hy
        have z1 := hB.at_ x k hx hlt
        have z2 := hB.at_ k x hlt hx
        have f1 := hB.frozen (1 + x * 60 + k)
        have f2 := hB.frozen (1 + k * 60 + x)
        rw [show asgT M x y c k y k = M y k by unfold asgT; by_cases h : y = k; rw [if_pos h]; rw [if_neg h, if_neg (by omega), if_neg (by omega)]] at y1
        rw [show asgT M x y c k k y = M k y by unfold asgT; by_cases h : k = y; rw [if_pos h]; rw [if_neg h, if_neg (by omega), if_neg (by omega)]] at y2
        have HS1 := Lib.hid (fun W => sum_any (M y k) c W (HM.out y k hy hlt).rng ⟨by omega, by omega⟩)
        have HS2 := Lib.hid (fun W => sum_any (M k y) (-c) W (HM.out k y hlt hy).rng ⟨by omega, by omega⟩)
        have hw : IntKind.i64.wrap (-c) = -c := IntWalk.i64_in _ (by omega)
        have hB1 := hB.set (N := fun a b => if a = x ∧ b = k then psum (M y k) c else asgT M x y c k a b) x k (psum (M y k) c) hx hlt (fun _ _ _ _ => rfl)
        have x3 := hB1.at_ k x hlt hx
        have f3 := hB1.frozen (1 + k * 60 + x)
        have HN := Lib.hid (hB1.set (N := asgT M x y c (k + 1)) k x (psum (M k y) (-c)) hlt hx fun a b ha hb => asgT_step M x y c k a b hkx)
        have HTN := Lib.hid ((hT.trans (Touch.set_ wr (1 + x * 60 + k) (.int .i64 (psum (M y k) c)))).trans (Touch.set_ _ (1 + k * 60 + x) (.int .i64 (psum (M k y) (-c)))))
        clear hB hT hB1
        go_upto_region 4 with (fail)
        go_region_with (first
          | (go_at_call 77; (with_reducible refine (HS1.out _).mono ?_); rintro e w' ⟨rfl, rfl⟩)
          | (go_at_call 77; (with_reducible refine (HS2.out _).mono ?_); rintro e w' ⟨rfl, rfl⟩))
        all_goals
          clear x3 f3 z1 z2 f1 f2 y1 y2
          go_wp2_with fail
          go_roundw
          case rel => exact ⟨k + 1, by omega, by go_num, FB.drewN HN.out 1, HTN.out.trans (Touch.drewN _ 1)⟩
          case measure => simp [intOf]; omega
    · obtain rfl : k = 60 := by omega
      have HN := Lib.hid (hB.congr (N := assignT M x y c) fun p q hp hq => asgT_all M x y c p q hp hq)
      have HT := Lib.hid hT
      clear hB hT
      go_wp2_with fail
      go_end0
      exact ⟨rfl, HN.out, HT.out⟩
end Go.Proofs.Ytejcijbohnlbgaa
