/- Package help: contracts of plus and Sum, and of the document's Sum. -/
import Derived.Test.YtjjoblomfjfgfaaCore
import Derived.Test.YtjjoblomfjfgfaaHMath
import Derived.Test.YtjjoblomfjfgfaaHMix
import Derived.StillTail
import Derived.StillTailTactics
import Derived.Deep.RegionHeld3
import Derived.Deep.DeepCutAuto
namespace Go.Proofs.Ytjjoblomfjfgfaa
open Go.ChangeShapes Go.WideShapes Go.ChangeAt Go.RowKit
open Bits HM
set_option linter.unusedVariables false
set_option linter.unusedSimpArgs false

theorem and_lowI (x : Int) (k : Nat) (hk : k ≤ 62) : bits BinOp.and IntKind.i64 x (2 ^ k - 1) = x % 2 ^ k := by
  have hp : (0 : Int) < 2 ^ k := pow_pos' k
  have h62 : (2 : Int) ^ k ≤ 2 ^ 62 := pow_le_of hk
  rw [show (2 : Int) ^ 62 = 4611686018427387904 from rfl] at h62
  have em : ((2 : Int) ^ k - 1) = ((2 ^ k - 1 : Nat) : Int) := by
    rw [Int.ofNat_sub (Nat.pow_pos (by decide))]; simp
  show IntKind.i64.wrap (((BitVec.ofInt 64 x &&& BitVec.ofInt 64 (2 ^ k - 1)).toNat : Nat) : Int) = x % 2 ^ k
  have hlt : 2 ^ k - 1 < 18446744073709551616 := by omega
  have e1 : (BitVec.ofInt 64 ((2 : Int) ^ k - 1)).toNat = 2 ^ k - 1 := by rw [em]; exact ofInt_u64 _ hlt
  rw [BitVec.toNat_and, e1, Nat.and_two_pow_sub_one_eq_mod, BitVec.toNat_ofInt]
  have e2 : (((x % ((2 ^ 64 : Nat) : Int)).toNat % 2 ^ k : Nat) : Int) = x % 2 ^ k := by
    rw [Int.natCast_emod, Int.toNat_of_nonneg (Int.emod_nonneg _ (by decide))]
    rw [show (((2 : Nat) ^ k : Nat) : Int) = 2 ^ k by simp]
    exact Int.emod_emod_of_dvd x ⟨2 ^ (64 - k), (pow_split (show k + (64 - k) = 64 by omega)).symm⟩
  rw [e2]
  have h0 := Int.emod_nonneg x (show (2 : Int) ^ k ≠ 0 by omega)
  have h1 := Int.emod_lt_of_pos x hp
  exact IntWalk.i64_in _ (by omega)
theorem and16 (x : Int) : bits BinOp.and IntKind.i64 x 65535 = x % 65536 := and_lowI x 16 (by decide)
theorem and8 (x : Int) : bits BinOp.and IntKind.i64 x 255 = x % 256 := and_lowI x 8 (by decide)
theorem or16 (x y : Int) (hx : 0 ≤ x ∧ x < 256) (hy : 0 ≤ y ∧ y < 256) : bits BinOp.or IntKind.i64 (x * 256) y = 256 * x + y := by
  obtain ⟨m, rfl⟩ := Int.eq_ofNat_of_zero_le hx.1
  obtain ⟨k, rfl⟩ := Int.eq_ofNat_of_zero_le hy.1
  show IntKind.i64.wrap (((BitVec.ofInt 64 ((m : Int) * 256) ||| BitVec.ofInt 64 (k : Int)).toNat : Nat) : Int) = _
  have hm : m < 256 := by omega
  have hk : k < 2 ^ 8 := by omega
  have e0 : ((m : Int) * 256) = ((m * 256 : Nat) : Int) := by omega
  have e1 : (BitVec.ofInt 64 ((m * 256 : Nat) : Int)).toNat = m * 256 := ofInt_u64 _ (by omega)
  have e2 : (BitVec.ofInt 64 (k : Int)).toNat = k := ofInt_u64 _ (by omega)
  rw [BitVec.toNat_or, e0, e1, e2, show m * 256 = m * 2 ^ 8 from rfl, nat_join 8 _ _ (Nat.mul_mod_left _ _) hk, IntWalk.i64_in]
  all_goals omega

theorem plus_any (s x y : Int) (hs : 0 ≤ s ∧ s ≤ 65535) (hx : 0 ≤ x ∧ x < 256) (hy : 0 ≤ y ∧ y < 256) (w : World) :
    Calls Try.prog 32 #[.int .i64 s, .int .u8 x, .int .u8 y] w fun e w' => e = .returned (.int .i64 (plusV s (256 * x + y))) ∧ w = w' := by
  have ho := or16 x y hx hy
  obtain ⟨o, hoe⟩ : ∃ o, o = 256 * x + y := ⟨_, rfl⟩
  rw [← hoe] at ho ⊢
  have ho0 : 0 ≤ o := by omega
  have ho1 : o ≤ 65535 := by omega
  obtain ⟨hs0, hs1⟩ := hs
  obtain ⟨hx0, hx1⟩ := hx
  obtain ⟨hy0, hy1⟩ := hy
  clear hoe
  go_enter Try.func32, Try.ntmps32
  go_wp2_with fail
  all_goals
    go_ret
    refine ⟨?_, rfl⟩
    unfold plusV
    split <;> first | rfl | (exfalso; omega)

theorem sumW_two (L : List Int) (s : Int) (h : 2 ≤ L.length) : sumW L s = sumW (L.drop 2) (plusV s (256 * L[0]?.getD 0 + L[1]?.getD 0)) := by
  match L, h with
  | x :: y :: r, _ => rfl
/-- what a slice is when its first two elements are taken off -/
def cut2 (A : Option Addr) (c : Nat) : Option Addr := if c = 2 then A else A.map (·.add 2)
theorem cut2_some (b off c : Nat) : cut2 (some ⟨b, off, none⟩) c = if c = 2 then some ⟨b, off, none⟩ else some ⟨b, off + 2, none⟩ := by
  simp [cut2, Addr.add]
theorem BytesAt.cut2 {w : World} {A : Option Addr} {L : List Int} {c : Nat} (h : BytesAt w A L) (h2 : 2 ≤ L.length) (hc : L.length ≤ c) : BytesAt w (cut2 A c) (L.drop 2) := fun hp => by
  have hl : 2 < L.length := by
    rw [List.length_drop] at hp
    omega
  obtain ⟨b, off, rfl, hlt, hcell⟩ := h (by omega)
  refine ⟨b, off + 2, ?_, hlt, fun i hi => ?_⟩
  · unfold Proofs.Ytjjoblomfjfgfaa.cut2
    rw [if_neg (by omega)]
    simp [Addr.add]
  · rw [List.length_drop] at hi
    rw [show off + 2 + i = off + (2 + i) by omega, hcell (2 + i) (by omega), List.getElem?_drop]

def slLen : Value → Nat
  | .slice _ n _ => n
  | _ => 0
theorem byt_drop {L : List Int} (h : Byt L) (k : Nat) : Byt (L.drop k) := fun x hx => h x (List.mem_of_mem_drop hx)

set_option maxRecDepth 100000 in
set_option maxHeartbeats 1000000 in
theorem sum_any (w : World) (A : Option Addr) (n c : Nat) (L : List Int) (seed : Int) (hL : L.length = n) (hnc : n ≤ c) (hc : c ≤ maxLen) (hb : Byt L) (h : BytesAt w A L) :
    Calls Try.prog 21 #[.slice A n c, .int .i64 seed] w fun e w' => e = .returned (.int .i64 (sumW L (seed % 65536))) ∧ ∃ q, w' = w.drewN q := by
  have ha := and16 seed
  have h0 : 0 ≤ seed % 65536 ∧ seed % 65536 ≤ 65535 := by omega
  generalize seed % 65536 = s0 at *
  go_enter Try.func21, Try.ntmps21
  go_wp2_with fail
  go_loopw [0, 5] (fun b s wr => ∃ A' m c' L' s', b = .slice A' m c' ∧ L'.length = m ∧ m ≤ c' ∧ c' ≤ maxLen ∧ Byt L' ∧ BytesAt w A' L' ∧ s = .int .i64 s' ∧ 0 ≤ s' ∧ s' ≤ 65535 ∧ Hid (sumW L' s' = sumW L s0) ∧ ∃ q, wr = w.drewN q) (fun b _ _ => slLen b)
  case atStart => exact ⟨A, n, c, L, s0, rfl, hL, hnc, hc, hb, h, rfl, h0.1, h0.2, Lib.hid rfl, 0, rfl⟩
  case round =>
    clear hL hnc hc hb h h0 ha
    obtain ⟨A', m, c', L', s', rfl, hL, hnc, hc, hb, h, rfl, hs0, hs1, HS, q, rfl⟩ := hrel
    by_cases h2 : 2 ≤ m
    · have hb0 := byt_at hb 0
      have hb1 := byt_at hb 1
      have hp := fun w => plus_any s' (L'[0]?.getD 0) (L'[1]?.getD 0) ⟨hs0, hs1⟩ hb0 hb1 w
      have hr := plusV_rng s' (256 * (L'[0]?.getD 0) + (L'[1]?.getD 0)) ⟨hs0, hs1⟩ (by omega)
      have HS' := Lib.hid ((sumW_two L' s' (by omega)).symm.trans HS.out)
      have hcut := h.cut2 (by omega) (by omega : L'.length ≤ c')
      obtain ⟨b, off, rfl, hlt, hcell⟩ := h (by omega)
      have hc0 : (w.drewN q).cell? ⟨b, off, none⟩ = _ := hcell 0 (by omega)
      have hc1 : (w.drewN q).cell? ⟨b, off + 1, none⟩ = _ := hcell 1 (by omega)
      have HC := Lib.hid hcut
      have hlt0 : (0 : Int) < m := by omega
      have hlt1 : (1 : Int) < m := by omega
      have hm0 : 0 < m := by omega
      have hm1 : 1 < m := by omega
      have HB := Lib.hid (byt_drop hb 2)
      have HD := Lib.hid (show (L'.drop 2).length = m - 2 by rw [List.length_drop, hL])
      clear hcell hcut hb
      generalize L'[0]?.getD 0 = x at *
      generalize L'[1]?.getD 0 = y at *
      generalize plusV s' (256 * x + y) = s1 at *
      generalize L'.drop 2 = D at *
      obtain ⟨W, hW⟩ : ∃ W, W = w.drewN q := ⟨_, rfl⟩
      rw [← hW] at hc0 hc1 ⊢
      have HW := Lib.hid hW
      clear hW
      go_wp2_with fail
      refine wp_region_still_tail 8 (by kernel_rfl) (by kernel_rfl) ?_
      simp only [List.take_succ_cons, List.take_zero, List.drop_succ_cons, List.drop_zero]
      repeat still_step
      still_call ((hp _).mono fun _ _ ⟨h1, h2⟩ => ⟨h1, h2.symm⟩)
      repeat still_step
      refine wpStill_nil ?_
      rw [cut2_some] at HC
      go_wp2_with fail
      go_roundw
      case rel => exact ⟨_, _, _, D, s1, rfl, HD.out, by omega, by omega, HB.out, HC.out, rfl, hr.1, hr.2, HS', q + 1, by rw [HW.out]; rfl⟩
      case measure => simp [slLen]; omega
    · rcases (show m = 0 ∨ m = 1 by omega) with rfl | rfl
      · obtain rfl : L' = [] := List.eq_nil_of_length_eq_zero hL
        have e : s' = sumW L s0 := HS.out
        clear HS
        go_wp2_with fail
        go_ret
        exact ⟨by rw [← e]; rfl, q, rfl⟩
      · have e : plusV s' (256 * L'[0]?.getD 0 + 0) = sumW L s0 := by
          rw [← HS.out]
          match L', hL with
          | [x], _ => simp [sumW]
        have hp := plus_any s' (L'[0]?.getD 0) 0 ⟨hs0, hs1⟩ (byt_at hb 0) ⟨by decide, by decide⟩ (w.drewN q)
        obtain ⟨b, off, rfl, hlt, hcell⟩ := h (by omega)
        have hc0 : (w.drewN q).cell? ⟨b, off, none⟩ = _ := hcell 0 (by omega)
        have HE := Lib.hid e
        clear hcell h HS e hb
        generalize L'[0]?.getD 0 = x at *
        go_wp2_with fail
        refine hp.mono ?_
        rintro e w' ⟨rfl, rfl⟩
        go_wp2_with fail
        go_ret
        exact ⟨by rw [← HE.out, Int.add_zero]; rfl, q, rfl⟩

end Go.Proofs.Ytjjoblomfjfgfaa
