/- The document's division with signs. -/
import Derived.Test.YtjhgjplhhhgfcaaDivided
namespace Go.Proofs.Ytjhgjplhhhgfcaa
open Go.ChangeShapes Go.WideShapes Go.ChangeAt Go.RowKit
open Bits
set_option linter.unusedVariables false

/-- a row's highest bit tells its sign, and how far it is from 0 -/
theorem sign_facts (a : Int) (k : Nat) (hk : 1 ≤ k) :
    (a / 2 ^ (k - 1) % 2 = 0 ∧ 0 ≤ sx k a ∧ a % 2 ^ k = sx k a) ∨ (a / 2 ^ (k - 1) % 2 = 1 ∧ sx k a < 0 ∧ -a % 2 ^ k = -sx k a) := by
  have hH := pow_pos' (k - 1)
  have hP : (2 : Int) ^ k = 2 ^ (k - 1) * 2 := by rw [← Int.pow_succ]; congr 1; omega
  have h1 := emod_mul2 a (2 ^ (k - 1)) hH
  have h2 := Int.emod_nonneg a (Int.ne_of_gt hH)
  have h3 := Int.emod_lt_of_pos a hH
  have h4 := Int.emod_add_mul_ediv a (2 ^ k)
  unfold sx
  rw [hP] at *
  generalize (2 : Int) ^ (k - 1) = H at *
  rcases Int.emod_two_eq (a / H) with h | h
  · left
    rw [h] at h1
    exact ⟨h, by rw [if_pos (by omega)]; omega, by rw [if_pos (by omega)]⟩
  · right
    rw [h] at h1
    refine ⟨h, by rw [if_neg (by omega)]; omega, ?_⟩
    rw [if_neg (by omega)]
    generalize a / (H * 2) = q at *
    have e : -a = (H * 2 - a % (H * 2)) + (H * 2) * (-q - 1) := by rw [Int.mul_sub, Int.mul_neg]; omega
    rw [e, Int.add_mul_emod_self_left, Int.emod_eq_of_lt (by omega) (by omega)]
    omega

/-- what far leaves -/
def FarPost (w : World) (k : Nat) (a : Int) (e : Ending) (w' : World) : Prop :=
  ∃ P c x s, e = .returned (.tuple #[.slice P k c, .int .i64 s]) ∧ IntsAt w' P (bitsL x k) ∧ ((s = 0 ∧ 0 ≤ sx k a ∧ x % 2 ^ k = sx k a) ∨ (s = 1 ∧ sx k a < 0 ∧ x % 2 ^ k = -sx k a)) ∧ Below w.heap.size w w'

set_option maxHeartbeats 1000000 in
theorem far_any (P : Option Addr) (c k : Nat) (a : Int) (w : World) (hk1 : 1 ≤ k) (hk : k ≤ 65) (ha : IntsAt w P (bitsL a k)) :
    Calls Try.prog 87 #[.slice P k c] w (FarPost w k a) := by
  obtain ⟨bb, oo, rfl, hcell⟩ := ha.bit (Below.refl _ _) (k - 1) (by omega)
  have h1 : (0 : Int) ≤ (k : Int) - 1 := by omega
  have h2 : ((k : Int) - 1).toNat = k - 1 := by omega
  have h3 : (k : Int) - 1 < k := by omega
  have hs := sign_facts a k hk1
  have HA := Lib.hid ha
  clear ha
  have HN := Lib.hid (negative_any (some ⟨bb, oo, none⟩) c k a w hk HA.out)
  generalize hf : a / 2 ^ (k - 1) % 2 = f at *
  clear hf
  obtain ⟨m, hm⟩ : ∃ m, k - 1 = m := ⟨_, rfl⟩
  rw [hm] at hcell h2
  clear hm
  rcases hs with ⟨rfl, q1, q2⟩ | ⟨rfl, q1, q2⟩
  · have HP := Lib.hid (show FarPost w k a (.returned (.tuple #[.slice (some ⟨bb, oo, none⟩) k c, .int .i64 0])) w from ⟨_, c, a, 0, rfl, HA.out, .inl ⟨rfl, q1, q2⟩, Below.refl _ _⟩)
    clear q1 q2
    go_enter Try.func87, Try.ntmps87
    go_wp2_with fail
    go_ret2
    exact HP.out
  · have HQ := Lib.hid (And.intro q1 q2)
    clear q1 q2
    go_enter Try.func87, Try.ntmps87
    go_wp2_with fail
    refine HN.out.mono ?_
    rintro e w1 ⟨P1, c1, rfl, hi, hB⟩
    go_wp2_with fail
    go_ret2
    exact ⟨P1, c1, -a, 1, rfl, hi, .inr ⟨rfl, HQ.out.1, HQ.out.2⟩, hB⟩

theorem tq (X Y : Int) (hX : 0 ≤ X) (hY : 0 ≤ Y) : X.tdiv Y = X / Y ∧ (-X).tdiv Y = -(X / Y) ∧ X.tdiv (-Y) = -(X / Y) ∧ (-X).tdiv (-Y) = X / Y ∧ X.tmod Y = X % Y ∧ (-X).tmod Y = -(X % Y) ∧ X.tmod (-Y) = X % Y ∧ (-X).tmod (-Y) = -(X % Y) := by
  refine ⟨Int.tdiv_eq_ediv_of_nonneg hX, by rw [Int.neg_tdiv, Int.tdiv_eq_ediv_of_nonneg hX], by rw [Int.tdiv_neg, Int.tdiv_eq_ediv_of_nonneg hX], by rw [Int.neg_tdiv, Int.tdiv_neg, Int.neg_neg, Int.tdiv_eq_ediv_of_nonneg hX], Int.tmod_eq_emod_of_nonneg hX, by rw [Int.neg_tmod, Int.tmod_eq_emod_of_nonneg hX], by rw [Int.tmod_neg, Int.tmod_eq_emod_of_nonneg hX], by rw [Int.neg_tmod, Int.tmod_neg, Int.tmod_eq_emod_of_nonneg hX]⟩

set_option maxHeartbeats 2000000 in
theorem over_any (P Q : Option Addr) (c d k : Nat) (a b : Int) (w : World) (hk1 : 1 ≤ k) (hk : k ≤ 64) (ha : IntsAt w P (bitsL a k)) (hb : IntsAt w Q (bitsL b k)) (hb0 : 0 < b % 2 ^ k) :
    Calls Try.prog 75 #[.slice P k c, .slice Q k d] w fun e w' => ∃ P1 c1 P2 c2, e = .returned (.tuple #[.slice P1 k c1, .slice P2 k c2]) ∧
      IntsAt w' P1 (bitsL ((sx k a).tdiv (sx k b)) k) ∧ IntsAt w' P2 (bitsL ((sx k a).tmod (sx k b)) k) ∧ Below w.heap.size w w' := by
  have hsb : sx k b ≠ 0 := by
    have hH := pow_pos' k
    unfold sx
    have := Int.emod_lt_of_pos b hH
    split <;> omega
  have HA := Lib.hid ha
  have HB := Lib.hid hb
  have HS := Lib.hid hsb
  have hk65 : k ≤ 65 := by omega
  clear ha hb hb0 hsb
  have C1 := Lib.hid (far_any P c k a w hk1 hk65 HA.out)
  go_enter Try.func75, Try.ntmps75
  go_wp2_with fail
  refine C1.out.mono ?_
  rintro e w1 ⟨P1, c1, x, s, rfl, hi1, hs1, hB1⟩
  have C2 := Lib.hid (far_any Q d k b w1 hk1 hk65 (HB.out.below hB1))
  have HI1 := Lib.hid hi1
  have HS1 := Lib.hid hs1
  clear C1 hi1 hs1
  go_wp2_with fail
  refine C2.out.mono ?_
  rintro e w2 ⟨P2, c2, y, t, rfl, hi2, hs2, hB2⟩
  have HS2 := Lib.hid hs2
  have hB2' := hB1.trans (hB2.mono hB1.size)
  have C3 := Lib.hid (divided_any P1 P2 c1 c2 k x y w2 hk1 hk (HI1.out.below hB2) hi2 (by have := HS.out; rcases hs2 with ⟨_, h1, h2⟩ | ⟨_, h1, h2⟩ <;> omega))
  clear C2 hi2 hs2 hB1 hB2
  go_wp2_with fail
  refine C3.out.mono ?_
  rintro e w3 ⟨P3, c3, P4, c4, rfl, hi3, hi4, hB3⟩
  have HBB := Lib.hid (hB2'.trans (hB3.mono hB2'.size))
  have HI3 := Lib.hid hi3
  have HI4 := Lib.hid hi4
  clear C3 hi3 hi4 hB3 hB2'
  have HT := Lib.hid (tq (x % 2 ^ k) (y % 2 ^ k) (Int.emod_nonneg _ (Int.ne_of_gt (pow_pos' k))) (Int.emod_nonneg _ (Int.ne_of_gt (pow_pos' k))))
  have CN3 := Lib.hid (negative_any P3 c3 k (x % 2 ^ k / (y % 2 ^ k)) w3 hk65 HI3.out)
  rcases HS1.out with ⟨rfl, _, h1⟩ | ⟨rfl, _, h1⟩ <;> rcases HS2.out with ⟨rfl, _, h2⟩ | ⟨rfl, _, h2⟩
  · have HE := Lib.hid (show (sx k a).tdiv (sx k b) = x % 2 ^ k / (y % 2 ^ k) ∧ (sx k a).tmod (sx k b) = x % 2 ^ k % (y % 2 ^ k) from ⟨by rw [← h1, ← h2]; exact HT.out.1, by rw [← h1, ← h2]; exact HT.out.2.2.2.2.1⟩)
    clear h1 h2
    go_wp2_with fail
    go_ret2
    exact ⟨_, _, _, _, rfl, by rw [HE.out.1]; exact HI3.out, by rw [HE.out.2]; exact HI4.out, HBB.out⟩
  · have HE := Lib.hid (show (sx k a).tdiv (sx k b) = -(x % 2 ^ k / (y % 2 ^ k)) ∧ (sx k a).tmod (sx k b) = x % 2 ^ k % (y % 2 ^ k) from ⟨by rw [← h1, show sx k b = -(y % 2 ^ k) by omega]; exact HT.out.2.2.1, by rw [← h1, show sx k b = -(y % 2 ^ k) by omega]; exact HT.out.2.2.2.2.2.2.1⟩)
    clear h1 h2
    go_wp2_with fail
    refine CN3.out.mono ?_
    rintro e w4 ⟨P5, c5, rfl, hi5, hB5⟩
    have HI6 := Lib.hid (HI4.out.below hB5)
    go_wp2_with fail
    go_ret2
    exact ⟨_, _, _, _, rfl, by rw [HE.out.1]; exact hi5, by rw [HE.out.2]; exact HI6.out, HBB.out.trans (hB5.mono HBB.out.size)⟩
  · have HE := Lib.hid (show (sx k a).tdiv (sx k b) = -(x % 2 ^ k / (y % 2 ^ k)) ∧ (sx k a).tmod (sx k b) = -(x % 2 ^ k % (y % 2 ^ k)) from ⟨by rw [← h2, show sx k a = -(x % 2 ^ k) by omega]; exact HT.out.2.1, by rw [← h2, show sx k a = -(x % 2 ^ k) by omega]; exact HT.out.2.2.2.2.2.1⟩)
    clear h1 h2
    go_wp2_with fail
    refine CN3.out.mono ?_
    rintro e w4 ⟨P5, c5, rfl, hi5, hB5⟩
    have CN4 := Lib.hid (negative_any P4 c4 k (x % 2 ^ k % (y % 2 ^ k)) w4 hk65 (HI4.out.below hB5))
    have HI5 := Lib.hid hi5
    clear hi5
    go_wp2_with fail
    refine CN4.out.mono ?_
    rintro e w5 ⟨P6, c6, rfl, hi6, hB6⟩
    have HI7 := Lib.hid (HI5.out.below hB6)
    go_wp2_with fail
    go_ret2
    exact ⟨_, _, _, _, rfl, by rw [HE.out.1]; exact HI7.out, by rw [HE.out.2]; exact hi6, (HBB.out.trans (hB5.mono HBB.out.size)).trans (hB6.mono (Nat.le_trans HBB.out.size hB5.size))⟩
  · have HE := Lib.hid (show (sx k a).tdiv (sx k b) = x % 2 ^ k / (y % 2 ^ k) ∧ (sx k a).tmod (sx k b) = -(x % 2 ^ k % (y % 2 ^ k)) from ⟨by rw [show sx k a = -(x % 2 ^ k) by omega, show sx k b = -(y % 2 ^ k) by omega]; exact HT.out.2.2.2.1, by rw [show sx k a = -(x % 2 ^ k) by omega, show sx k b = -(y % 2 ^ k) by omega]; exact HT.out.2.2.2.2.2.2.2⟩)
    have CN4 := Lib.hid (negative_any P4 c4 k (x % 2 ^ k % (y % 2 ^ k)) w3 hk65 HI4.out)
    clear h1 h2
    go_wp2_with fail
    refine CN4.out.mono ?_
    rintro e w4 ⟨P5, c5, rfl, hi5, hB5⟩
    have HI6 := Lib.hid (HI3.out.below hB5)
    go_wp2_with fail
    go_ret2
    exact ⟨_, _, _, _, rfl, by rw [HE.out.1]; exact HI6.out, by rw [HE.out.2]; exact hi5, HBB.out.trans (hB5.mono HBB.out.size)⟩
end Go.Proofs.Ytjhgjplhhhgfcaa
