/- Package deed: numbers as groups. -/
import Derived.Test.YtbomihdnnidelaaDeA
import Derived.Lib.EndianBits
namespace Go.Proofs.Ytbomihdnnidelaa
open Go.ChangeShapes Go.WideShapes Go.ChangeAt Go.RowKit
open Dee
set_option linter.unusedVariables false
set_option linter.unusedSimpArgs false
set_option maxRecDepth 100000
section
variable {α : Type} {val : α → Value} {w w' : World} {g : Nat} {A : Option Addr} {n c : Nat} {B : List Int} {r : Rs α} {e : Ending}
theorem RdEnd.ok {x : α} {t : List Int} (h : RdEnd val w g A n c B r e w') (hr : r = .ok (x, t)) : e = .returned (val x) ∧ Rd w' g A n c B t ∧ Touch g w w' := by
  subst hr
  exact ⟨h.2.1, h.2.2, h.1⟩
theorem RdEnd.no {lf : Nat} {er : Int} (h : RdEnd val w g A n c B r e w') (hr : r = .error (lf, er)) : e = .panicked (fltV ((n - lf : Nat) : Int) er) ∧ Touch g w w' := by
  subst hr
  exact ⟨h.2, h.1⟩
theorem RdEnd.mk {x : α} {t : List Int} (hr : r = .ok (x, t)) (h1 : e = .returned (val x)) (h2 : Rd w' g A n c B t) (h3 : Touch g w w') : RdEnd val w g A n c B r e w' := by
  subst hr
  exact ⟨h3, h1, h2⟩
theorem RdEnd.bad {lf : Nat} {er : Int} (hr : r = .error (lf, er)) (h1 : e = .panicked (fltV ((n - lf : Nat) : Int) er)) (h3 : Touch g w w') : RdEnd val w g A n c B r e w' := by
  subst hr
  exact ⟨h3, h1⟩
end
theorem and_lowI (x : Int) (k : Nat) (hk : k ≤ 62) : bits BinOp.and IntKind.i64 x (2 ^ k - 1) = x % 2 ^ k := by
  have hp : (0 : Int) < 2 ^ k := pow_pos' k
  have h62 : (2 : Int) ^ k ≤ 2 ^ 62 := by
    have : (2 : Nat) ^ k ≤ 2 ^ 62 := Nat.pow_le_pow_right (by decide) hk
    have h2 : ((2 ^ k : Nat) : Int) ≤ ((2 ^ 62 : Nat) : Int) := by exact_mod_cast this
    simpa using h2
  rw [show (2 : Int) ^ 62 = 4611686018427387904 from rfl] at h62
  have em : ((2 : Int) ^ k - 1) = ((2 ^ k - 1 : Nat) : Int) := by
    rw [Int.ofNat_sub (Nat.pow_pos (by decide))]; simp
  show IntKind.i64.wrap (((BitVec.ofInt 64 x &&& BitVec.ofInt 64 (2 ^ k - 1)).toNat : Nat) : Int) = x % 2 ^ k
  have hlt : 2 ^ k - 1 < 18446744073709551616 := by omega
  have e1 : (BitVec.ofInt 64 ((2 : Int) ^ k - 1)).toNat = 2 ^ k - 1 := by rw [em]; exact ofInt_u64 _ hlt
  rw [BitVec.toNat_and, e1, Nat.and_two_pow_sub_one_eq_mod, BitVec.toNat_ofInt]
  have e2 : (((x % ((2 ^ 64 : Nat) : Int)).toNat % 2 ^ k : Nat) : Int) = x % 2 ^ k := by
    rw [Int.natCast_emod, Int.toNat_of_nonneg (Int.emod_nonneg _ (by decide))]
    rw [show (((2 : Nat) ^ k : Nat) : Int) = 2 ^ k by simp]
    exact Int.emod_emod_of_dvd x ⟨2 ^ (64 - k), (pow_split (show k + (64 - k) = 64 by omega)).symm⟩
  rw [e2]
  have h0 := Int.emod_nonneg x (show (2 : Int) ^ k ≠ 0 by omega)
  have h1 := Int.emod_lt_of_pos x hp
  exact IntWalk.i64_in _ (by omega)
theorem and127 (x : Int) : bits BinOp.and IntKind.i64 x 127 = x % 128 := and_lowI x 7 (by decide)
theorem i64_63 (n : Int) (h0 : 0 ≤ n) (h1 : n < 2 ^ 63) : IntKind.i64.wrap n = n := IntWalk.i64_in _ (by rw [show (2 : Int) ^ 63 = 9223372036854775808 from rfl] at h1; omega)
theorem w64_in (x : Int) (h : 0 ≤ x ∧ x < 9223372036854775808) : wrap64 x = x := by unfold wrap64; omega
theorem or_grp (k : Nat) (hk : k ≤ 8) (a b : Int) (h0 : 0 ≤ a) (h1 : a < 128 ^ k) (hb : 0 ≤ b ∧ b < 256) : bits BinOp.or IntKind.i64 a (wrap64 (bits BinOp.and IntKind.i64 b 127 * 2 ^ (7 * k))) = a + b % 128 * 128 ^ k := by
  rw [and127]
  obtain ⟨y, hy⟩ : ∃ y, y = b % 128 := ⟨_, rfl⟩
  have hy0 : 0 ≤ y ∧ y < 128 := by omega
  rw [← hy]
  clear hy hb
  have key : ∀ (i : Nat) (m : Int), (2 : Int) ^ i = m → i ≤ 56 → 1 ≤ m → m ≤ 72057594037927936 → a < m → bits BinOp.or IntKind.i64 a (wrap64 (y * m)) = a + y * m := by
    intro i m hm hi hm1 hm2 ham
    have hym : 0 ≤ y * m := Int.mul_nonneg hy0.1 (by omega)
    have hym2 : y * m ≤ 127 * m := Int.mul_le_mul_of_nonneg_right (by omega) (by omega)
    rw [w64_in _ (by omega)]
    exact bits_join_low .i64 63 (by decide) i64_63 i a (y * m) h0 (by rw [hm]; exact ham) (by rw [show (2 : Int) ^ 63 = 9223372036854775808 from rfl]; omega) hym (by rw [hm]; exact Int.mul_emod_left _ _) (by rw [show (2 : Int) ^ 63 = 9223372036854775808 from rfl]; omega)
  rcases (show k = 0 ∨ k = 1 ∨ k = 2 ∨ k = 3 ∨ k = 4 ∨ k = 5 ∨ k = 6 ∨ k = 7 ∨ k = 8 by omega) with rfl | rfl | rfl | rfl | rfl | rfl | rfl | rfl | rfl
  · exact key 0 1 rfl (by decide) (by decide) (by decide) h1
  · exact key 7 128 rfl (by decide) (by decide) (by decide) h1
  · exact key 14 16384 rfl (by decide) (by decide) (by decide) h1
  · exact key 21 2097152 rfl (by decide) (by decide) (by decide) h1
  · exact key 28 268435456 rfl (by decide) (by decide) (by decide) h1
  · exact key 35 34359738368 rfl (by decide) (by decide) (by decide) h1
  · exact key 42 4398046511104 rfl (by decide) (by decide) (by decide) h1
  · exact key 49 562949953421312 rfl (by decide) (by decide) (by decide) h1
  · exact key 56 72057594037927936 rfl (by decide) (by decide) (by decide) h1
theorem grp_lt (k : Nat) (a x : Int) (h1 : a < 128 ^ k) (hx : x < 128) : a + x * 128 ^ k < 128 ^ (k + 1) := by
  have hp : (0 : Int) < 128 ^ k := Int.pow_pos (by decide)
  have : x * 128 ^ k ≤ 127 * 128 ^ k := Int.mul_le_mul_of_nonneg_right (by omega) (by omega)
  rw [Int.pow_succ]
  omega
theorem grp_nn (k : Nat) (a x : Int) (h0 : 0 ≤ a) (hx : 0 ≤ x) : 0 ≤ a + x * 128 ^ k := by
  have hp : (0 : Int) < 128 ^ k := Int.pow_pos (by decide)
  have := Int.mul_nonneg hx (Int.le_of_lt hp)
  omega
set_option maxHeartbeats 1000000 in
theorem groups_any (w : World) (g : Nat) (A : Option Addr) (n c : Nat) (B L : List Int) (hn : n ≤ 4194304) (h : Rd w g A n c B L) :
    Calls Try.prog 91 #[.pointer (some ⟨g, 0, none⟩)] w (RdEnd i64V w g A n c B (groupsR L)) := by
  have HR := Lib.hid h
  have x1 : w.cell? ⟨g, 1, none⟩ = some (.int .i64 ((n - L.length : Nat) : Int)) := h.blk.cell 1
  have HLE := Lib.hid h.le
  clear h
  obtain ⟨p, hp⟩ : ∃ p : Nat, p = n - L.length := ⟨_, rfl⟩
  rw [← hp] at x1
  have HP := Lib.hid hp
  clear hp
  go_enter Try.func91, Try.ntmps91
  go_wp2_with fail
  clear x1
  go_loopw [4, 5, 6, 11] (fun a0 k0 b0 i wr => ∃ (k : Nat) (a : Int) (L' : List Int), k ≤ 9 ∧ i = .int .i64 k ∧ a0 = .int .i64 a ∧ 0 ≤ a ∧ a < 128 ^ k ∧ Rd wr g A n c B L' ∧ grp L.length (9 - k) a L' = grp L.length 9 0 L ∧ Touch g w wr) (fun _ _ _ i _ => (9 - intOf i).toNat)
  case atStart => exact ⟨0, 0, L, by omega, rfl, rfl, by omega, by decide, HR.out, rfl, Touch.refl _ _⟩
  case round =>
    obtain ⟨k, a, L', hk, rfl, rfl, ha0, ha1, hRr, hgr, hT⟩ := hrel
    have HRr := Lib.hid hRr
    have HG := Lib.hid hgr
    have HT := Lib.hid hT
    have HA1 := Lib.hid ha1
    clear hRr hgr hT ha1
    by_cases hlt : k < 9
    · have hlt' : (k : Int) < 9 := by omega
      cases L' with
      | nil =>
        have HG2 := Lib.hid (show groupsR L = .error (0, 110) by
          unfold groupsR
          rw [← HG.out, show 9 - k = (8 - k) + 1 by omega]
          rfl)
        clear HG
        go_wp2_with fail
        refine (next_any _ g A n c B [] hn HRr.out).mono ?_
        rintro e w1 ⟨hT1, rfl⟩
        have HT1 := Lib.hid (HT.out.trans hT1)
        clear hT1
        go_wp2_with fail
        exact ⟨rfl, RdEnd.bad HG2.out rfl HT1.out⟩
      | cons b t =>
        have hb := HRr.out.byteL.head
        go_wp2_with fail
        refine (next_any _ g A n c B (b :: t) hn HRr.out).mono ?_
        rintro e w1 ⟨hT1, rfl, hR1⟩
        have HR1 := Lib.hid hR1
        have HT1 := Lib.hid (HT.out.trans hT1)
        clear hT1 hR1 HT HRr
        unfold i64V
        have HO := Lib.hid (or_grp k (by omega) a b ha0 HA1.out hb)
        have HNN := Lib.hid (grp_nn k a (b % 128) ha0 (by omega))
        have HLT := Lib.hid (grp_lt k a (b % 128) HA1.out (by omega))
        have hgr : grp L.length (8 - k + 1) a (b :: t) = grp L.length 9 0 L := by rw [← HG.out]; congr 1; omega
        have HGE : Hid ((if b < 128 then (if 0 < b ∨ k = 0 then .ok (a + b * 128 ^ k, t) else .error (L.length, 110)) else grp L.length (8 - k) (a + (b - 128) * 128 ^ k) t) = groupsR L) := Lib.hid (by
          unfold groupsR
          rw [← hgr]
          show _ = (if b < 128 then (if 0 < b ∨ 8 - k = 8 then Except.ok (a + b * 128 ^ (8 - (8 - k)), t) else .error (L.length, 110)) else grp L.length (8 - k) (a + (b - 128) * 128 ^ (8 - (8 - k))) t)
          rw [show 8 - (8 - k) = k by omega]
          have : (8 - k = 8) ↔ k = 0 := by omega
          simp only [this])
        clear hgr HG HA1
        go_upto_region 7 with (fail)
        rw [HO.out]
        obtain ⟨x, hx⟩ : ∃ x, x = a + b % 128 * 128 ^ k := ⟨_, rfl⟩
        rw [← hx] at HNN HLT ⊢
        have HX := Lib.hid hx
        clear hx HO
        have hx0 := HNN.out
        by_cases hb1 : b < 128
        · have t1 : decide (b < 128) = true := decide_eq_true hb1
          have HX1 := Lib.hid (show x = a + b * 128 ^ k by rw [HX.out, show b % 128 = b by omega])
          rw [if_pos hb1] at HGE
          by_cases hb2 : 0 < b ∨ k = 0
          · rw [if_pos hb2, ← HX1.out] at HGE
            clear HX HX1
            rcases (show 0 < b ∨ (b = 0 ∧ k = 0) by omega) with h3 | ⟨h3, h4⟩
            · have t2 : decide (0 < b) = true := decide_eq_true h3
              have HH := Lib.hid (And.intro hb1 h3)
              clear hb1 h3 hb2
              go_wp2_with fail
              go_at_call 61
              refine (need_yes _ _ _).mono ?_
              rintro e w2 ⟨rfl, rfl⟩
              go_wp2_with fail
              go_ret
              exact RdEnd.mk HGE.out.symm rfl HR1.out HT1.out
            · subst h3 h4
              clear hb1 hb2
              go_wp2_with fail
              go_at_call 61
              refine (need_yes _ _ _).mono ?_
              rintro e w2 ⟨rfl, rfl⟩
              go_wp2_with fail
              go_ret
              exact RdEnd.mk HGE.out.symm rfl HR1.out HT1.out
          · rw [if_neg hb2] at HGE
            have t2 : decide (0 < b) = false := decide_eq_false (by omega)
            have t3 : ((k : Int) == 0) = false := by rw [beq_eq_false_iff_ne]; omega
            have HPE := Lib.hid (show (p : Int) = ((n - L.length : Nat) : Int) by rw [HP.out])
            clear HX HX1 hb2 hb1
            go_wp2_with fail
            go_at_call 61
            refine (need_no _ _ _).mono ?_
            rintro e w2 ⟨rfl, rfl⟩
            go_wp2_with fail
            exact ⟨rfl, RdEnd.bad HGE.out.symm (by rw [HPE.out]) HT1.out⟩
        · have t1 : decide (b < 128) = false := decide_eq_false hb1
          have HX1 := Lib.hid (show x = a + (b - 128) * 128 ^ k by rw [HX.out, show b % 128 = b - 128 by omega])
          rw [if_neg hb1, ← HX1.out] at HGE
          have HGE2 := Lib.hid (show grp L.length (9 - (k + 1)) x t = grp L.length 9 0 L by rw [show 9 - (k + 1) = 8 - k by omega]; exact HGE.out)
          clear HX HX1 hb1 HGE
          go_wp2_with fail
          go_roundw
          case rel => exact ⟨k + 1, x, t, by omega, by go_num, rfl, HNN.out, HLT.out, HR1.out, HGE2.out, HT1.out⟩
          case measure => simp [intOf]; omega
    · have hlt' : decide ((k : Int) < 9) = false := by simp; omega
      have HG2 := Lib.hid (show groupsR L = .error (L.length, 110) by
        unfold groupsR
        rw [← HG.out, show 9 - k = 0 by omega]
        rfl)
      have HPE := Lib.hid (show (p : Int) = ((n - L.length : Nat) : Int) by rw [HP.out])
      clear HG
      go_wp2_with fail
      exact ⟨rfl, RdEnd.bad HG2.out (by rw [HPE.out]; rfl) HT.out⟩
end Go.Proofs.Ytbomihdnnidelaa
