/- HelpOrders: the walk. -/
import Derived.Test.YtmdblhgnncfooaaHG
namespace Go.Proofs.Ytmdblhgnncfooaa
open Go.ChangeShapes Go.WideShapes Go.ChangeAt Go.RowKit
open Bits HM
set_option linter.unusedVariables false
set_option linter.unusedSimpArgs false

theorem str_inj {L M : List Int} (hl : Byt L) (hm : Byt M) (h1 : Lib.bytesOf L = Lib.bytesOf M) : L = M := by
  rw [← diffV_zero, ← cmp_diff L M hl hm, h1, cmp_diff M M hm hm, diffV_self]
theorem conv_all (w : World) (A : Option Addr) (n c : Nat) (L : List Int) (hL : L.length = n) (h : BytesAt w A L) :
    (convert 37 9 (.slice A n c)).run Try.prog w = .ok (.string (strOfNums L)) w := by
  rcases Nat.eq_zero_or_pos n with h0 | h0
  · subst h0
    obtain rfl : L = [] := List.eq_nil_of_length_eq_zero hL
    rcases A with _ | ⟨b, off, p⟩
    · kernel_rfl
    · kernel_rfl
  · exact conv_at w A n c L hL h0 h
theorem sameBytes_any (w : World) (A : Option Addr) (n c : Nat) (B : Option Addr) (m d : Nat) (L M : List Int) (hL : L.length = n) (hM : M.length = m) (hl : Byt L) (hm : Byt M) (ha : BytesAt w A L) (hb : BytesAt w B M) :
    Calls Try.prog 34 #[.slice A n c, .slice B m d] w fun e w' => e = .returned (.bool (decide (L = M))) ∧ w = w' := by
  have H1 := conv_all w A n c L hL ha
  have H2 := conv_all w B m d M hM hb
  have HE : ((strOfNums L).toList == (strOfNums M).toList) = decide (L = M) := by
    rw [Lib.strOfNums_toList, Lib.strOfNums_toList]
    by_cases e : L = M
    · subst e; simp
    · have h1 : Lib.bytesOf L ≠ Lib.bytesOf M := fun h => e (str_inj hl hm h)
      rw [decide_eq_false e]; simpa using h1
  have HE := Lib.hid HE
  clear ha hb hL hM hl hm
  generalize strOfNums L = S at *
  generalize strOfNums M = T at *
  go_enter Try.func34, Try.ntmps34
  go_wp2
  go_ret
  exact ⟨by rw [← HE.out]; rfl, rfl⟩

set_option maxRecDepth 100000 in
set_option maxHeartbeats 1600000 in
theorem helpOrders_core (w : World) (A0 : Option Addr) (n0 c0 : Nat) (A1 : Option Addr) (n1 c1 : Nat) (A2 : Option Addr) (n2 c2 : Nat)
    (x y z : Int) (s : Bool)
    (hkn : Calls Try.prog 16 #[] w fun e w' => e = .returned (.bool true) ∧ Below w.heap.size w w')
    (hab : ∀ w1, Below w.heap.size w w1 → Calls Try.prog 27 #[.slice A0 n0 c0, .slice A1 n1 c1] w1 fun e w' => e = .returned (.int .i64 x) ∧ w1 = w')
    (hbc : ∀ w1, Below w.heap.size w w1 → Calls Try.prog 27 #[.slice A1 n1 c1, .slice A2 n2 c2] w1 fun e w' => e = .returned (.int .i64 y) ∧ w1 = w')
    (hac : ∀ w1, Below w.heap.size w w1 → Calls Try.prog 27 #[.slice A0 n0 c0, .slice A2 n2 c2] w1 fun e w' => e = .returned (.int .i64 z) ∧ w1 = w')
    (hba : ∀ w1, Below w.heap.size w w1 → Calls Try.prog 27 #[.slice A1 n1 c1, .slice A0 n0 c0] w1 fun e w' => e = .returned (.int .i64 (-x)) ∧ w1 = w')
    (haa : ∀ w1, Below w.heap.size w w1 → Calls Try.prog 27 #[.slice A0 n0 c0, .slice A0 n0 c0] w1 fun e w' => e = .returned (.int .i64 0) ∧ w1 = w')
    (hs : ∀ w1, Below w.heap.size w w1 → Calls Try.prog 34 #[.slice A0 n0 c0, .slice A1 n1 c1] w1 fun e w' => e = .returned (.bool s) ∧ w1 = w')
    (hx : x = -1 ∨ x = 0 ∨ x = 1) (hy : y = -1 ∨ y = 0 ∨ y = 1) (hz : z = -1 ∨ z = 0 ∨ z = 1) (hsx : (x == 0) = s)
    (ht : x ≤ 0 → y ≤ 0 → z ≤ 0 ∧ ((x = 0 ∧ y = 0) ↔ z = 0)) :
    Calls Try.prog 12 #[.slice A0 n0 c0, .slice A1 n1 c1, .slice A2 n2 c2] w fun e w' => e = .returned (.bool true) ∧ Below w.heap.size w w' := by
  have Hkn := Lib.hid hkn
  have Hab := Lib.hid hab
  have Hbc := Lib.hid hbc
  have Hac := Lib.hid hac
  have Hba := Lib.hid hba
  have Haa := Lib.hid haa
  have Hs := Lib.hid hs
  have HX := Lib.hid hx
  have HT := Lib.hid ht
  have HY := Lib.hid hy
  have HZ := Lib.hid hz
  have HSX := Lib.hid hsx
  clear hkn hab hbc hac hba haa hs ht hx hy hz hsx
  go_enter Try.func12, Try.ntmps12
  go_wp2_with fail
  refine Hkn.out.mono ?_
  rintro e w1 ⟨rfl, hB⟩
  go_wp2_with fail
  refine (Hab.out w1 hB).mono ?_
  rintro e w' ⟨rfl, rfl⟩
  go_wp2_with fail
  refine (Hbc.out w1 hB).mono ?_
  rintro e w' ⟨rfl, rfl⟩
  go_wp2_with fail
  refine (Hac.out w1 hB).mono ?_
  rintro e w' ⟨rfl, rfl⟩
  go_upto_region 4 with (fail)
  have hx' := HX.out
  have hsx := HSX.out
  rcases hx' with rfl | rfl | rfl
  all_goals
    subst hsx
    go_wp2_with fail
    refine (Hba.out w1 hB).mono ?_
    rintro e w' ⟨rfl, rfl⟩
    go_wp2_with fail
    refine (Hs.out w1 hB).mono ?_
    rintro e w' ⟨rfl, rfl⟩
    go_wp2_with fail
    refine (Haa.out w1 hB).mono ?_
    rintro e w' ⟨rfl, rfl⟩
  all_goals
    rcases HY.out with rfl | rfl | rfl <;> rcases HZ.out with rfl | rfl | rfl
    all_goals
      have ht := HT.out
      first
        | (exfalso; revert ht; decide)
        | (clear ht; go_wp2_with fail; go_ret; exact ⟨rfl, hB⟩)

theorem helpOrders_walk (w : World) (A0 : Option Addr) (n0 c0 : Nat) (L0 : List Int) (hL0 : L0.length = n0) (hr0 : n0 ≤ c0 ∧ c0 ≤ 140737488351232) (hY0 : Byt L0) (hA0 : BytesAt w A0 L0)
    (A1 : Option Addr) (n1 c1 : Nat) (L1 : List Int) (hL1 : L1.length = n1) (hr1 : n1 ≤ c1 ∧ c1 ≤ 140737488351232) (hY1 : Byt L1) (hA1 : BytesAt w A1 L1)
    (A2 : Option Addr) (n2 c2 : Nat) (L2 : List Int) (hL2 : L2.length = n2) (hr2 : n2 ≤ c2 ∧ c2 ≤ 140737488351232) (hY2 : Byt L2) (hA2 : BytesAt w A2 L2) :
    Calls Try.prog 12 #[.slice A0 n0 c0, .slice A1 n1 c1, .slice A2 n2 c2] w fun e w' => e = .returned (.bool true) ∧ Below w.heap.size w w' := by
  refine helpOrders_core w A0 n0 c0 A1 n1 c1 A2 n2 c2 (diffV L0 L1) (diffV L1 L2) (diffV L0 L2) (decide (L0 = L1)) (known_any w)
    (fun w1 hb => diff_any w1 A0 A1 n0 n1 c0 c1 L0 L1 hL0 hL1 (hA0.below hb) (hA1.below hb) hY0 hY1)
    (fun w1 hb => diff_any w1 A1 A2 n1 n2 c1 c2 L1 L2 hL1 hL2 (hA1.below hb) (hA2.below hb) hY1 hY2)
    (fun w1 hb => diff_any w1 A0 A2 n0 n2 c0 c2 L0 L2 hL0 hL2 (hA0.below hb) (hA2.below hb) hY0 hY2)
    (fun w1 hb => ?_)
    (fun w1 hb => ?_)
    (fun w1 hb => sameBytes_any w1 A0 n0 c0 A1 n1 c1 L0 L1 hL0 hL1 hY0 hY1 (hA0.below hb) (hA1.below hb))
    (diffV_rng _ _) (diffV_rng _ _) (diffV_rng _ _) ?_ ?_
  · rw [← diffV_neg]
    exact diff_any w1 A1 A0 n1 n0 c1 c0 L1 L0 hL1 hL0 (hA1.below hb) (hA0.below hb) hY1 hY0
  · have := diff_any w1 A0 A0 n0 n0 c0 c0 L0 L0 hL0 hL0 (hA0.below hb) (hA0.below hb) hY0 hY0
    rwa [diffV_self] at this
  · by_cases e : L0 = L1
    · rw [decide_eq_true e, (diffV_zero L0 L1).2 e]; rfl
    · rw [decide_eq_false e]
      simpa using fun h => e ((diffV_zero L0 L1).1 h)
  · intro h1 h2
    obtain ⟨h3, h4⟩ := diffV_trans L0 L1 L2 h1 h2
    refine ⟨h3, fun ⟨e1, e2⟩ => ?_, h4⟩
    rw [(diffV_zero L0 L1).1 e1, (diffV_zero L1 L2).1 e2, diffV_self]
end Go.Proofs.Ytmdblhgnncfooaa
