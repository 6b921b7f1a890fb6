/- WordDivides: the walk of the law. -/
import Derived.Test.YtmoecflmdfkgdaaDivLaw
namespace Go.Proofs.Ytmoecflmdfkgdaa
open Go.ChangeShapes Go.WideShapes Go.ChangeAt Go.RowKit
open Bits
set_option linter.unusedVariables false

theorem dz1 : aluE 4 false 0 = 84 := by decide +kernel
theorem dz2 : aluE 7 true 4294967296 = 84 := by decide +kernel
theorem d723 : (aluV 4 false 7 2 == 3) = true := by decide +kernel

/-- the tests of rest and quotient, arm by arm -/
def TS (a s t wide : Int) (fw bn nb : Bool) : Prop :=
  ((t != 0) = false ∧ decide (t < 0) = false ∧ decide (t < wide) = fw ∧ (s == 0) = true) ∨
  ((t != 0) = false ∧ decide (t < 0) = false ∧ decide (t < wide) = fw ∧ (s == 0) = false ∧ decide (s < 0) = true ∧ decide (a < 0) = nb) ∨
  ((t != 0) = false ∧ decide (t < 0) = false ∧ decide (t < wide) = fw ∧ (s == 0) = false ∧ decide (s < 0) = false ∧ decide (a < 0) = bn) ∨
  ((t != 0) = true ∧ decide (t < 0) = true ∧ decide (a < 0) = true ∧ wrap64 (-t) = -t ∧ decide (-t < wide) = fw ∧ (s == 0) = true) ∨
  ((t != 0) = true ∧ decide (t < 0) = true ∧ decide (a < 0) = true ∧ wrap64 (-t) = -t ∧ decide (-t < wide) = fw ∧ (s == 0) = false ∧ decide (s < 0) = nb) ∨
  ((t != 0) = true ∧ decide (t < 0) = false ∧ decide (a < 0) = false ∧ decide (t < wide) = fw ∧ (s == 0) = true) ∨
  ((t != 0) = true ∧ decide (t < 0) = false ∧ decide (a < 0) = false ∧ decide (t < wide) = fw ∧ (s == 0) = false ∧ decide (s < 0) = bn)
theorem ts_any {a b s t wide : Int} (fw bn nb : Bool) (hbn : decide (b < 0) = bn) (hnb : nb = !bn) (b0 : b ≠ 0)
    (hw : ∀ v : Int, (0 ≤ v ∧ (v = t ∨ v = -t)) → decide (v < wide) = fw) (ht : -9223372036854775808 < t ∧ t ≤ 9223372036854775807)
    (hr : t = 0 ∨ (t < 0 ∧ a < 0) ∨ (0 < t ∧ 0 ≤ a))
    (hs : s = 0 ∨ (s < 0 ∧ (a < 0 ∧ 0 < b ∨ 0 ≤ a ∧ b < 0)) ∨ (0 < s ∧ (a < 0 ∧ b < 0 ∨ 0 ≤ a ∧ 0 < b))) : TS a s t wide fw bn nb := by
  have bnd : ∀ {p q : Prop} [Decidable p] [Decidable q], (p ↔ q) → decide p = decide q := fun h => by simp [h]
  subst hbn
  subst hnb
  have W1 : 0 ≤ t → decide (t < wide) = fw := fun h => hw t ⟨h, .inl rfl⟩
  have W2 : t < 0 → decide (-t < wide) = fw := fun h => hw (-t) ⟨by omega, .inr rfl⟩
  have N : ∀ {p q : Prop} [Decidable p] [Decidable q], (p ↔ ¬ q) → decide p = !decide q := fun h => by simp [h]
  rcases hr with h1 | ⟨h1, h2⟩ | ⟨h1, h2⟩
  · have e1 : (t != 0) = false := by simp [h1]
    have e2 : decide (t < 0) = false := by simp [h1]
    rcases hs with h3 | ⟨h3, h4⟩ | ⟨h3, h4⟩
    · exact .inl ⟨e1, e2, W1 (by omega), by simp [h3]⟩
    · exact .inr (.inl ⟨e1, e2, W1 (by omega), by rw [beq_eq_false_iff_ne]; omega, by simp [h3], N (by omega)⟩)
    · exact .inr (.inr (.inl ⟨e1, e2, W1 (by omega), by rw [beq_eq_false_iff_ne]; omega, by rw [decide_eq_false_iff_not]; omega, bnd (by omega)⟩))
  · have e1 : (t != 0) = true := by rw [bne_iff_ne]; omega
    have e2 : decide (t < 0) = true := by simp [h1]
    have e3 : decide (a < 0) = true := by simp [h2]
    have e4 : wrap64 (-t) = -t := w64_self (by omega)
    by_cases h3 : s = 0
    · exact .inr (.inr (.inr (.inl ⟨e1, e2, e3, e4, W2 h1, by simp [h3]⟩)))
    · exact .inr (.inr (.inr (.inr (.inl ⟨e1, e2, e3, e4, W2 h1, by simp [h3], N (by omega)⟩))))
  · have e1 : (t != 0) = true := by rw [bne_iff_ne]; omega
    have e2 : decide (t < 0) = false := by rw [decide_eq_false_iff_not]; omega
    have e3 : decide (a < 0) = false := by rw [decide_eq_false_iff_not]; omega
    by_cases h3 : s = 0
    · exact .inr (.inr (.inr (.inr (.inr (.inl ⟨e1, e2, e3, W1 (by omega), by simp [h3]⟩)))))
    · exact .inr (.inr (.inr (.inr (.inr (.inr ⟨e1, e2, e3, W1 (by omega), by simp [h3], bnd (by omega)⟩)))))

theorem div_cases {a b s t : Int} (ra : -9223372036854775808 ≤ a ∧ a ≤ 9223372036854775807) (rb : -9223372036854775808 ≤ b ∧ b ≤ 9223372036854775807) (b0 : b ≠ 0)
    (h : ¬ (a = -9223372036854775808 ∧ b = -1)) (F : Signed a b s t) :
    ((b == -9223372036854775808) = true ∧ (b != -9223372036854775808) = false ∧ wrap64 (-b) = -9223372036854775808 ∧ (b == -1) = false ∧ decide (b < 0) = true ∧ ((t == a) = true ∨ ((t == a) = false ∧ (a == -9223372036854775808) = true)) ∧ TS a s t (-9223372036854775808) false true false) ∨
    ((b == -9223372036854775808) = false ∧ (b != -9223372036854775808) = true ∧ wrap64 (-b) = -b ∧ (b == -1) = false ∧ decide (b < 0) = true ∧ TS a s t (-b) true true false) ∨
    ((b == -9223372036854775808) = false ∧ (b != -9223372036854775808) = true ∧ wrap64 (-b) = -b ∧ (a == -9223372036854775808) = false ∧ decide (b < 0) = true ∧ TS a s t (-b) true true false) ∨
    ((b == -9223372036854775808) = false ∧ (b != -9223372036854775808) = true ∧ (b == -1) = false ∧ decide (b < 0) = false ∧ TS a s t b true false true) := by
  obtain ⟨k1, k2, k3, k4, k5, k6⟩ := F
  clear k1
  by_cases c7 : b = -9223372036854775808
  · have c8 := k5 (by omega)
    have hn : wrap64 (-b) = -9223372036854775808 := by rw [c7]; decide +kernel
    refine .inl ⟨by simp [c7], by simp [c7], hn, by rw [beq_eq_false_iff_ne]; omega, by simp; omega, ?_, ts_any (b := b) false true false (by simp; omega) rfl b0 (fun v hv => by rw [decide_eq_false_iff_not]; omega) (by omega) k2 k3⟩
    by_cases c9 : t = a
    · exact .inl (by simp [c9])
    · refine .inr ⟨by simp [c9], ?_⟩
      rcases k6 c7 with h2 | h2
      · exact absurd h2 c9
      · simp [h2]
  · have e1 : (b == -9223372036854775808) = false := by simp [c7]
    have e2 : (b != -9223372036854775808) = true := by simp [c7]
    by_cases c8 : 0 < b
    · have c9 := k4 c8
      refine .inr (.inr (.inr ⟨e1, e2, by rw [beq_eq_false_iff_ne]; omega, by rw [decide_eq_false_iff_not]; omega, ts_any (b := b) true false true (by rw [decide_eq_false_iff_not]; omega) rfl b0 (fun v hv => by rw [decide_eq_true_iff]; omega) (by omega) k2 k3⟩))
    · have c9 : b < 0 := by omega
      have c10 := k5 c9
      have e3 : wrap64 (-b) = -b := w64_self (by omega)
      have e4 : decide (b < 0) = true := by simp [c9]
      have e5 : TS a s t (-b) true true false := ts_any (b := b) true true false e4 rfl b0 (fun v hv => by rw [decide_eq_true_iff]; omega) (by omega) k2 k3
      by_cases c11 : b = -1
      · refine .inr (.inr (.inl ⟨e1, e2, e3, ?_, e4, e5⟩))
        rw [beq_eq_false_iff_ne]
        exact fun h2 => h ⟨h2, c11⟩
      · exact .inr (.inl ⟨e1, e2, e3, by rw [beq_eq_false_iff_ne]; exact c11, e4, e5⟩)

set_option maxRecDepth 100000 in
set_option maxHeartbeats 4000000 in
theorem wordDivides_walk (a : Int) (ra : -9223372036854775808 ≤ a ∧ a ≤ 9223372036854775807) (b : Int) (rb : -9223372036854775808 ≤ b ∧ b ≤ 9223372036854775807) (w : World) :
    Calls Try.prog 11 #[.int .i64 a, .int .i64 b] w fun e w' => e = .returned (.bool true) ∧ Below w.heap.size w w' := by
  have RA := Lib.hid ra
  have RB := Lib.hid rb
  have z1 := dz1
  have z2 := dz2
  have z3 := d723
  have hB0 := Below.refl w.heap.size w
  clear ra rb
  by_cases hb : b = 0
  · have tb : (b == 0) = true := by simp [hb]
    clear hb
    go_enter Try.func11, Try.ntmps11
    go_wp2_with fail
    refine (alu_b w _ _ _ _ _ hB0).mono ?_
    rintro e w1 ⟨rfl, hB1⟩
    go_wp2_with fail
    refine (alu_b w _ _ _ _ _ hB1).mono ?_
    rintro e w2 ⟨rfl, hB2⟩
    go_wp2_with fail
    refine (is_b w 4 false 7 2 3 _ (aluE_d2 _) hB2).mono ?_
    rintro e w3 ⟨rfl, hB3⟩
    go_wp2_with fail
    go_ret
    exact ⟨rfl, hB3⟩
  · have tb : (b == 0) = false := by simp [hb]
    obtain ⟨rq, rr, u1, u2, u3, u4⟩ := ud_facts a b RA.out RB.out hb
    have E := fun op h => aluE_wide (op := op) (b := b) h (un_pos RB.out hb)
    have HE := Lib.hid E
    have HS := Lib.hid (fun h => signed_facts a b RA.out RB.out hb h)
    have HSP := Lib.hid (sd_eq a b RA.out RB.out)
    have HF := Lib.hid (fun w => fitted_any b (aluV 4 false a b) RB.out rq u3 w)
    have HA1 := Lib.hid (fun w => ahead_any (aluV 5 false a b) b rr RB.out w)
    have HA2 := Lib.hid (fun w => ahead_any a (aluV 5 false a b) RA.out rr w)
    have f1 : (wrap64 (wrap64 (aluV 4 false a b * b) + aluV 5 false a b) != a) = false := by simp [u1]
    have f2 : decide (IntKind.u64.wrap (aluV 5 false a b) < IntKind.u64.wrap b) = true := by simp [u2]
    have f3 : decide (IntKind.u64.wrap a < IntKind.u64.wrap (aluV 5 false a b)) = false := by simp [u4]
    have HB := Lib.hid hb
    clear E u1 u2 u3 u4 rq rr hb
    obtain ⟨q, hq⟩ : ∃ q, aluV 4 false a b = q := ⟨_, rfl⟩
    obtain ⟨r, hr⟩ : ∃ r, aluV 5 false a b = r := ⟨_, rfl⟩
    obtain ⟨s, hs⟩ : ∃ s, aluV 6 false a b = s := ⟨_, rfl⟩
    obtain ⟨t, ht⟩ : ∃ t, aluV 7 false a b = t := ⟨_, rfl⟩
    rw [hq, hr] at f1
    rw [hr] at f2 f3 HA1 HA2
    rw [hq] at HF
    rw [hs, ht] at HS
    have HQ := Lib.hid hq
    have HR := Lib.hid hr
    have HS6 := Lib.hid hs
    have HT7 := Lib.hid ht
    clear hq hr hs ht
    generalize IntKind.u64.wrap r = ur at *
    generalize IntKind.u64.wrap a = ua at *
    generalize IntKind.u64.wrap b = ub at *
    go_enter Try.func11, Try.ntmps11
    go_wp2_with fail
    refine (alu_b w _ _ _ _ _ hB0).mono ?_
    rintro e w1 ⟨rfl, hB1⟩
    go_wp2_with fail
    refine (alu_b w _ _ _ _ _ hB1).mono ?_
    rintro e w2 ⟨rfl, hB2⟩
    go_wp2_with fail
    refine (is_b w 4 false 7 2 3 _ (aluE_d2 _) hB2).mono ?_
    rintro e w3 ⟨rfl, hB3⟩
    go_wp2_with fail
    clear z1 z2 z3 hB0 hB1 hB2
    refine (of_b w 4 false a b _ (HE.out 4 (by decide)) hB3).mono ?_
    rintro e w4 ⟨rfl, hB4⟩
    rw [HQ.out]
    go_wp2_with fail
    refine (of_b w 5 false a b _ (HE.out 5 (by decide)) hB4).mono ?_
    rintro e w5 ⟨rfl, hB5⟩
    rw [HR.out]
    go_wp2_with fail
    refine (HA1.out _).mono ?_
    rintro e w' ⟨rfl, rfl⟩
    go_wp2_with fail
    refine (HF.out _).mono ?_
    rintro e w' ⟨rfl, rfl⟩
    go_wp2_with fail
    refine (HA2.out _).mono ?_
    rintro e w' ⟨rfl, rfl⟩
    go_wp2_with fail
    refine (of_b w 6 false a b _ (HE.out 6 (by decide)) hB5).mono ?_
    rintro e w6 ⟨rfl, hB6⟩
    rw [HS6.out]
    go_wp2_with fail
    refine (of_b w 7 false a b _ (HE.out 7 (by decide)) hB6).mono ?_
    rintro e w7 ⟨rfl, hB7⟩
    rw [HT7.out]
    clear f1 f2 f3 hB3 hB4 hB5 hB6
    by_cases hsp : a = -9223372036854775808 ∧ b = -1
    · obtain ⟨ha, hb⟩ := hsp
      have e := HSP.out
      have e6 := HS6.out
      have e7 := HT7.out
      subst ha
      subst hb
      rw [special.1] at e6
      rw [special.2] at e7
      subst e6
      subst e7
      have gw : wrap64 9223372036854775808 = -9223372036854775808 := by decide +kernel
      clear e HS HSP HQ HR HS6 HT7 HE HF HA1 HA2 HB tb RA RB
      go_wp2_with fail
      go_ret
      exact ⟨rfl, hB7⟩
    · have F := HS.out hsp
      obtain ⟨k1, k2, k3, k4, k5, k6⟩ := F
      have g1 : (wrap64 (wrap64 (s * b) + t) != a) = false := by simp [k1]
      have k7 := HB.out
      have k8 := RA.out
      have k9 := RB.out
      have C := div_cases RA.out RB.out HB.out hsp (HS.out hsp)
      clear k1 k2 k3 k4 k5 k6 k7 k8 k9 HS HSP HQ HR HS6 HT7 HE HF HA1 HA2 HB tb RA RB hsp
      rcases C with ⟨d1, d2, d3, d4, d5, d6 | ⟨d6, d7⟩, C⟩ | ⟨d1, d2, d3, d4, d5, C⟩ | ⟨d1, d2, d3, d4, d5, C⟩ | ⟨d1, d2, d3, d4, C⟩
      all_goals
        rcases C with ⟨e1, e2, e3, e4⟩ | ⟨e1, e2, e3, e4, e5, e6⟩ | ⟨e1, e2, e3, e4, e5, e6⟩ | ⟨e1, e2, e3, e4, e5, e6⟩ | ⟨e1, e2, e3, e4, e5, e6, e7⟩ | ⟨e1, e2, e3, e4, e5⟩ | ⟨e1, e2, e3, e4, e5, e6⟩
        all_goals
          go_wp2_with fail
          all_goals go_ret
          all_goals
            first
            | exact ⟨rfl, hB7⟩
            | (exfalso; omega)
            | (exfalso; have z := of_decide_eq_true e5; omega)
            | (exfalso; have z := of_decide_eq_false e6; omega)
            | (exfalso; have z := of_decide_eq_false e3; omega)
end Go.Proofs.Ytmoecflmdfkgdaa
