/- ZoneOrdered: the walk of the law. -/
import Derived.Test.YtilofjbobmeniaaRZQ
import Derived.Test.YtilofjbobmeniaaRZOpen
namespace Go.Proofs.YtilofjbobmeniaaR
open Go.ChangeShapes Go.WideShapes Go.ChangeAt Go.RowKit
open Zon
set_option linter.unusedVariables false
set_option maxRecDepth 100000
theorem bne_of {x : Int} (h : x ≠ 0) : (x != 0) = true ∧ (x == 0) = false := ⟨by rw [bne_iff_ne]; exact h, by rw [beq_eq_false_iff_ne]; exact h⟩
set_option maxHeartbeats 4000000 in
theorem zoneOrdered_bad0 (w : World) (A0 : Option Addr) (n0 c0 : Nat) (L0 : List Con) (i0 : ConIn w A0 n0 c0 L0) (A1 : Option Addr) (n1 c1 : Nat) (L1 : List Con) (i1 : ConIn w A1 n1 c1 L1) (A2 : Option Addr) (n2 c2 : Nat) (L2 : List Con) (i2 : ConIn w A2 n2 c2 L2) (h0 : wrongL L0 ≠ 0) :
    Calls Try.prog 9 #[.slice A0 n0 c0, .slice A1 n1 c1, .slice A2 n2 c2] w (True_ w) := by
  have I0 := Lib.hid i0
  have I1 := Lib.hid i1
  have I2 := Lib.hid i2
  clear i0 i1 i2
  obtain ⟨E, HE⟩ : ∃ E, Hid (wrongL L0 = E) := ⟨_, rfl⟩
  rw [HE.out] at h0
  obtain ⟨t1, t2⟩ := bne_of h0
  clear h0
  go_enter Try.func9, Try.ntmps9
  have S0 := Lib.hid (St.start w)
  go_wp2_with fail
  go_at_call 30
  refine (refWrong_any _ A0 n0 c0 L0 I0.out.len (by have := I0.out.reach; omega) (I0.out.at_.below S0.out.1)).mono ?_
  rintro e w' ⟨rfl, rfl⟩
  rw [HE.out]
  go_wp2_with fail
  go_at_call 13
  refine (awake_any _).mono ?_
  rintro e W1 ⟨rfl, hB⟩
  have S1 := Lib.hid (show St w W1 [] from (S0.out.up hB))
  clear hB S0
  go_wp2_with fail
  go_ret
  exact ⟨rfl, S1.out.1⟩
set_option maxHeartbeats 4000000 in
theorem zoneOrdered_bad1 (w : World) (A0 : Option Addr) (n0 c0 : Nat) (L0 : List Con) (i0 : ConIn w A0 n0 c0 L0) (A1 : Option Addr) (n1 c1 : Nat) (L1 : List Con) (i1 : ConIn w A1 n1 c1 L1) (A2 : Option Addr) (n2 c2 : Nat) (L2 : List Con) (i2 : ConIn w A2 n2 c2 L2) (h0 : wrongL L0 = 0) (h1 : wrongL L1 ≠ 0) :
    Calls Try.prog 9 #[.slice A0 n0 c0, .slice A1 n1 c1, .slice A2 n2 c2] w (True_ w) := by
  have I0 := Lib.hid i0
  have I1 := Lib.hid i1
  have I2 := Lib.hid i2
  clear i0 i1 i2
  have H0 := Lib.hid h0
  obtain ⟨E, HE⟩ : ∃ E, Hid (wrongL L1 = E) := ⟨_, rfl⟩
  rw [HE.out] at h1
  obtain ⟨t1, t2⟩ := bne_of h1
  clear h0 h1
  go_enter Try.func9, Try.ntmps9
  have S0 := Lib.hid (St.start w)
  go_wp2_with fail
  go_at_call 30
  refine (refWrong_any _ A0 n0 c0 L0 I0.out.len (by have := I0.out.reach; omega) (I0.out.at_.below S0.out.1)).mono ?_
  rintro e w' ⟨rfl, rfl⟩
  rw [H0.out]
  go_wp2_with fail
  go_at_call 30
  refine (refWrong_any _ A1 n1 c1 L1 I1.out.len (by have := I1.out.reach; omega) (I1.out.at_.below S0.out.1)).mono ?_
  rintro e w' ⟨rfl, rfl⟩
  rw [HE.out]
  go_wp2_with fail
  go_at_call 13
  refine (awake_any _).mono ?_
  rintro e W1 ⟨rfl, hB⟩
  have S1 := Lib.hid (show St w W1 [] from (S0.out.up hB))
  clear hB S0
  go_wp2_with fail
  go_ret
  exact ⟨rfl, S1.out.1⟩
set_option maxHeartbeats 4000000 in
theorem zoneOrdered_bad2 (w : World) (A0 : Option Addr) (n0 c0 : Nat) (L0 : List Con) (i0 : ConIn w A0 n0 c0 L0) (A1 : Option Addr) (n1 c1 : Nat) (L1 : List Con) (i1 : ConIn w A1 n1 c1 L1) (A2 : Option Addr) (n2 c2 : Nat) (L2 : List Con) (i2 : ConIn w A2 n2 c2 L2) (h0 : wrongL L0 = 0) (h1 : wrongL L1 = 0) (h2 : wrongL L2 ≠ 0) :
    Calls Try.prog 9 #[.slice A0 n0 c0, .slice A1 n1 c1, .slice A2 n2 c2] w (True_ w) := by
  have I0 := Lib.hid i0
  have I1 := Lib.hid i1
  have I2 := Lib.hid i2
  clear i0 i1 i2
  have H0 := Lib.hid h0
  have H1 := Lib.hid h1
  obtain ⟨E, HE⟩ : ∃ E, Hid (wrongL L2 = E) := ⟨_, rfl⟩
  rw [HE.out] at h2
  obtain ⟨t1, t2⟩ := bne_of h2
  clear h0 h1 h2
  go_enter Try.func9, Try.ntmps9
  have S0 := Lib.hid (St.start w)
  go_wp2_with fail
  go_at_call 30
  refine (refWrong_any _ A0 n0 c0 L0 I0.out.len (by have := I0.out.reach; omega) (I0.out.at_.below S0.out.1)).mono ?_
  rintro e w' ⟨rfl, rfl⟩
  rw [H0.out]
  go_wp2_with fail
  go_at_call 30
  refine (refWrong_any _ A1 n1 c1 L1 I1.out.len (by have := I1.out.reach; omega) (I1.out.at_.below S0.out.1)).mono ?_
  rintro e w' ⟨rfl, rfl⟩
  rw [H1.out]
  go_wp2_with fail
  go_at_call 30
  refine (refWrong_any _ A2 n2 c2 L2 I2.out.len (by have := I2.out.reach; omega) (I2.out.at_.below S0.out.1)).mono ?_
  rintro e w' ⟨rfl, rfl⟩
  rw [HE.out]
  go_wp2_with fail
  go_at_call 13
  refine (awake_any _).mono ?_
  rintro e W1 ⟨rfl, hB⟩
  have S1 := Lib.hid (show St w W1 [] from (S0.out.up hB))
  clear hB S0
  go_wp2_with fail
  go_ret
  exact ⟨rfl, S1.out.1⟩
set_option maxHeartbeats 4000000 in
theorem zoneOrdered_ok (w : World) (A0 : Option Addr) (n0 c0 : Nat) (L0 : List Con) (i0 : ConIn w A0 n0 c0 L0) (A1 : Option Addr) (n1 c1 : Nat) (L1 : List Con) (i1 : ConIn w A1 n1 c1 L1) (A2 : Option Addr) (n2 c2 : Nat) (L2 : List Con) (i2 : ConIn w A2 n2 c2 L2) (h0 : wrongL L0 = 0) (h1 : wrongL L1 = 0) (h2 : wrongL L2 = 0) :
    Calls Try.prog 9 #[.slice A0 n0 c0, .slice A1 n1 c1, .slice A2 n2 c2] w (True_ w) := by
  have I0 := Lib.hid i0
  have I1 := Lib.hid i1
  have I2 := Lib.hid i2
  clear i0 i1 i2
  have H0 := Lib.hid h0
  have H1 := Lib.hid h1
  have H2 := Lib.hid h2
  have OKa := Lib.hid (okZ_with (z := some topT) (fun M e => by injection e with e; exact e ▸ okT_top) L0)
  have OKc := Lib.hid (okZ_with (z := some topT) (fun M e => by injection e with e; exact e ▸ okT_top) L2)
  have OKb := Lib.hid (okZ_with OKa.out L1)
  have HBA := Lib.hid (withZ_in (withZ (some topT) L0) L1)
  clear h0 h1 h2
  go_enter Try.func9, Try.ntmps9
  have S0 := Lib.hid (St.start w)
  go_wp2_with fail
  go_at_call 30
  refine (refWrong_any _ A0 n0 c0 L0 I0.out.len (by have := I0.out.reach; omega) (I0.out.at_.below S0.out.1)).mono ?_
  rintro e w' ⟨rfl, rfl⟩
  rw [H0.out]
  go_wp2_with fail
  go_at_call 30
  refine (refWrong_any _ A1 n1 c1 L1 I1.out.len (by have := I1.out.reach; omega) (I1.out.at_.below S0.out.1)).mono ?_
  rintro e w' ⟨rfl, rfl⟩
  rw [H1.out]
  go_wp2_with fail
  go_at_call 30
  refine (refWrong_any _ A2 n2 c2 L2 I2.out.len (by have := I2.out.reach; omega) (I2.out.at_.below S0.out.1)).mono ?_
  rintro e w' ⟨rfl, rfl⟩
  rw [H2.out]
  go_wp2_with fail
  go_at_call 14
  refine (New_law _).mono ?_
  rintro e W1 ⟨g0, rfl, hg, hz, hB⟩
  have S1 := Lib.hid (show St w W1 [(g0, some topT)] from (S0.out.up hB).add hz)
  clear hB S0 hz hg
  go_wp2_with fail
  go_at_call 20
  refine (cons_law _ A0 n0 c0 L0 I0.out.len (by have := I0.out.reach; omega) (I0.out.at_.below S1.out.1)).mono ?_
  rintro e W2 ⟨Al1, nl1, cl1, rfl, hL1, hc1, hA1, hB⟩
  have HA1 := Lib.hid hA1
  have HL1 := Lib.hid hL1
  have S2 := Lib.hid (show St w W2 [(g0, some topT)] from (S1.out.up hB))
  clear hB S1 hA1 hL1 hc1
  go_wp2_with fail
  go_at_call 17
  refine (With_law _ g0 (some topT) Al1 nl1 cl1 L0 (S2.out.2 (g0, some topT) (by simp)) HL1.out (by have := HL1.out; have := I0.out.len; have := I0.out.reach; omega) HA1.out H0.out).mono ?_
  rintro e W3 ⟨ga, rfl, hz, hB⟩
  have S3 := Lib.hid (show St w W3 [(ga, withZ (some topT) L0), (g0, some topT)] from (S2.out.up hB).add hz)
  clear hB S2 hz HA1 HL1
  go_wp2_with fail
  go_at_call 20
  refine (cons_law _ A1 n1 c1 L1 I1.out.len (by have := I1.out.reach; omega) (I1.out.at_.below S3.out.1)).mono ?_
  rintro e W4 ⟨Al3, nl3, cl3, rfl, hL3, hc3, hA3, hB⟩
  have HA3 := Lib.hid hA3
  have HL3 := Lib.hid hL3
  have S4 := Lib.hid (show St w W4 [(ga, withZ (some topT) L0), (g0, some topT)] from (S3.out.up hB))
  clear hB S3 hA3 hL3 hc3
  go_wp2_with fail
  go_at_call 17
  refine (With_law _ ga (withZ (some topT) L0) Al3 nl3 cl3 L1 (S4.out.2 (ga, withZ (some topT) L0) (by simp)) HL3.out (by have := HL3.out; have := I1.out.len; have := I1.out.reach; omega) HA3.out H1.out).mono ?_
  rintro e W5 ⟨gb, rfl, hz, hB⟩
  have S5 := Lib.hid (show St w W5 [(gb, withZ (withZ (some topT) L0) L1), (ga, withZ (some topT) L0), (g0, some topT)] from (S4.out.up hB).add hz)
  clear hB S4 hz HA3 HL3
  go_wp2_with fail
  go_at_call 14
  refine (New_law _).mono ?_
  rintro e W6 ⟨g2, rfl, hg, hz, hB⟩
  have S6 := Lib.hid (show St w W6 [(g2, some topT), (gb, withZ (withZ (some topT) L0) L1), (ga, withZ (some topT) L0), (g0, some topT)] from (S5.out.up hB).add hz)
  clear hB S5 hz hg
  go_wp2_with fail
  go_at_call 20
  refine (cons_law _ A2 n2 c2 L2 I2.out.len (by have := I2.out.reach; omega) (I2.out.at_.below S6.out.1)).mono ?_
  rintro e W7 ⟨Al6, nl6, cl6, rfl, hL6, hc6, hA6, hB⟩
  have HA6 := Lib.hid hA6
  have HL6 := Lib.hid hL6
  have S7 := Lib.hid (show St w W7 [(g2, some topT), (gb, withZ (withZ (some topT) L0) L1), (ga, withZ (some topT) L0), (g0, some topT)] from (S6.out.up hB))
  clear hB S6 hA6 hL6 hc6
  go_wp2_with fail
  go_at_call 17
  refine (With_law _ g2 (some topT) Al6 nl6 cl6 L2 (S7.out.2 (g2, some topT) (by simp)) HL6.out (by have := HL6.out; have := I2.out.len; have := I2.out.reach; omega) HA6.out H2.out).mono ?_
  rintro e W8 ⟨gc, rfl, hz, hB⟩
  have S8 := Lib.hid (show St w W8 [(gc, withZ (some topT) L2), (g2, some topT), (gb, withZ (withZ (some topT) L0) L1), (ga, withZ (some topT) L0), (g0, some topT)] from (S7.out.up hB).add hz)
  clear hB S7 hz HA6 HL6
  obtain ⟨a, HAe⟩ : ∃ a, Hid (withZ (some topT) L0 = a) := ⟨_, rfl⟩
  obtain ⟨c, HCe⟩ : ∃ c, Hid (withZ (some topT) L2 = c) := ⟨_, rfl⟩
  rw [HAe.out] at S8 OKa OKb HBA
  rw [HCe.out] at S8 OKc
  obtain ⟨b, HBe⟩ : ∃ b, Hid (withZ a L1 = b) := ⟨_, rfl⟩
  rw [HBe.out] at S8 OKb HBA
  have T8 := Lib.hid (show St w W8 [(ga, a), (gb, b), (gc, c)] from ⟨S8.out.1, fun x hx => S8.out.2 x (by simp only [List.mem_cons, List.not_mem_nil, or_false] at hx ⊢; rcases hx with rfl | rfl | rfl <;> simp)⟩)
  clear S8 HAe HCe HBe
  have S8 := T8
  clear T8
  go_wp2_with fail
  go_at_call 24
  refine (Within_law _ ga ga a a (S8.out.2 (ga, a) (by simp)) (S8.out.2 (ga, a) (by simp))).mono ?_
  rintro e W9 ⟨rfl, hB⟩
  rw [inZB_true.mpr (inZ_refl a)]
  have S9 := Lib.hid (show St w W9 [(ga, a), (gb, b), (gc, c)] from (S8.out.up hB))
  clear hB S8
  go_wp2_with fail
  go_at_call 24
  refine (Within_law _ gb ga b a (S9.out.2 (gb, b) (by simp)) (S9.out.2 (ga, a) (by simp))).mono ?_
  rintro e W10 ⟨rfl, hB⟩
  rw [inZB_true.mpr HBA.out]
  have S10 := Lib.hid (show St w W10 [(ga, a), (gb, b), (gc, c)] from (S9.out.up hB))
  clear hB S9
  go_upto_region 8 with (fail)
  go_cut [89] (fun s wx => s = .bool false ∧ St w wx [(ga, a), (gb, b), (gc, c)])
  case first =>
    cases q0 : inZB a b
    · go_wp2_with fail
      go_at_call 24
      refine (Within_law _ ga gb a b (S10.out.2 (ga, a) (by simp)) (S10.out.2 (gb, b) (by simp))).mono ?_
      rintro e W11 ⟨rfl, hB⟩
      rw [q0]
      have S11 := Lib.hid (show St w W11 [(ga, a), (gb, b), (gc, c)] from (S10.out.up hB))
      clear hB S10
      have SE := Lib.hid (sameZB_comm a b)
      go_wp2_with fail
      go_at_call 38
      refine (Same_law _ ga gb a b (S11.out.2 (ga, a) (by simp)) (S11.out.2 (gb, b) (by simp))).mono ?_
      rintro e W12 ⟨rfl, hB⟩
      rw [SE.out]
      have S12 := Lib.hid (show St w W12 [(ga, a), (gb, b), (gc, c)] from (S11.out.up hB))
      clear hB S11
      obtain ⟨sb, HSB⟩ : ∃ sb, Hid (sameZB b a = sb) := ⟨_, rfl⟩
      rw [HSB.out]
      go_wp2_with fail
      go_at_call 38
      refine (Same_law _ gb ga b a (S12.out.2 (gb, b) (by simp)) (S12.out.2 (ga, a) (by simp))).mono ?_
      rintro e W13 ⟨rfl, hB⟩
      rw [HSB.out]
      have S13 := Lib.hid (show St w W13 [(ga, a), (gb, b), (gc, c)] from (S12.out.up hB))
      clear hB S12
      go_wp2_with fail
      go_meet
      case rel => exact ⟨rfl, S13.out⟩
    · have Q0 := Lib.hid (inZB_true.mp q0)
      go_wp2_with fail
      go_at_call 24
      refine (Within_law _ ga gb a b (S10.out.2 (ga, a) (by simp)) (S10.out.2 (gb, b) (by simp))).mono ?_
      rintro e W11 ⟨rfl, hB⟩
      rw [q0]
      have S11 := Lib.hid (show St w W11 [(ga, a), (gb, b), (gc, c)] from (S10.out.up hB))
      clear hB S10
      go_wp2_with fail
      go_at_call 38
      refine (Same_law _ ga gb a b (S11.out.2 (ga, a) (by simp)) (S11.out.2 (gb, b) (by simp))).mono ?_
      rintro e W12 ⟨rfl, hB⟩
      rw [inZ_anti Q0.out HBA.out]
      have S12 := Lib.hid (show St w W12 [(ga, a), (gb, b), (gc, c)] from (S11.out.up hB))
      clear hB S11
      go_wp2_with fail
      go_at_call 38
      refine (Same_law _ ga gb a b (S12.out.2 (ga, a) (by simp)) (S12.out.2 (gb, b) (by simp))).mono ?_
      rintro e W13 ⟨rfl, hB⟩
      rw [inZ_anti Q0.out HBA.out]
      have S13 := Lib.hid (show St w W13 [(ga, a), (gb, b), (gc, c)] from (S12.out.up hB))
      clear hB S12
      go_wp2_with fail
      go_at_call 38
      refine (Same_law _ gb ga b a (S13.out.2 (gb, b) (by simp)) (S13.out.2 (ga, a) (by simp))).mono ?_
      rintro e W14 ⟨rfl, hB⟩
      rw [inZ_anti HBA.out Q0.out]
      have S14 := Lib.hid (show St w W14 [(ga, a), (gb, b), (gc, c)] from (S13.out.up hB))
      clear hB S13
      go_wp2_with fail
      go_meet
      case rel => exact ⟨rfl, S14.out⟩
  case rest =>
    obtain ⟨rfl, hS⟩ := hcut
    have S11 := Lib.hid hS
    clear hS S10
    go_wp2_with fail
    go_at_call 25
    refine (Join_any _ gb gc b c (S11.out.2 (gb, b) (by simp)) (S11.out.2 (gc, c) (by simp))).mono ?_
    rintro e W12 ⟨gj, rfl, hg, hz, hB⟩
    have S12 := Lib.hid (show St w W12 [(gj, mergeZ joinT b c), (ga, a), (gb, b), (gc, c)] from (S11.out.up hB).add hz)
    clear hB S11 hz hg
    go_wp2_with fail
    go_at_call 26
    refine (Widen_any _ gb gc b c (S12.out.2 (gb, b) (by simp)) (S12.out.2 (gc, c) (by simp))).mono ?_
    rintro e W13 ⟨gw, rfl, hg, hz, hB⟩
    have S13 := Lib.hid (show St w W13 [(gw, mergeZ keepT b c), (gj, mergeZ joinT b c), (ga, a), (gb, b), (gc, c)] from (S12.out.up hB).add hz)
    clear hB S12 hz hg
    go_wp2_with fail
    go_at_call 24
    refine (Within_law _ gb gj b (mergeZ joinT b c) (S13.out.2 (gb, b) (by simp)) (S13.out.2 (gj, mergeZ joinT b c) (by simp))).mono ?_
    rintro e W14 ⟨rfl, hB⟩
    rw [inZB_true.mpr (inZ_join1 b c)]
    have S14 := Lib.hid (show St w W14 [(gw, mergeZ keepT b c), (gj, mergeZ joinT b c), (ga, a), (gb, b), (gc, c)] from (S13.out.up hB))
    clear hB S13
    go_wp2_with fail
    go_at_call 24
    refine (Within_law _ gc gj c (mergeZ joinT b c) (S14.out.2 (gc, c) (by simp)) (S14.out.2 (gj, mergeZ joinT b c) (by simp))).mono ?_
    rintro e W15 ⟨rfl, hB⟩
    rw [inZB_true.mpr (inZ_join2 b c)]
    have S15 := Lib.hid (show St w W15 [(gw, mergeZ keepT b c), (gj, mergeZ joinT b c), (ga, a), (gb, b), (gc, c)] from (S14.out.up hB))
    clear hB S14
    go_wp2_with fail
    go_at_call 24
    refine (Within_law _ gb gw b (mergeZ keepT b c) (S15.out.2 (gb, b) (by simp)) (S15.out.2 (gw, mergeZ keepT b c) (by simp))).mono ?_
    rintro e W16 ⟨rfl, hB⟩
    rw [inZB_true.mpr (inZ_keep1 b c OKb.out)]
    have S16 := Lib.hid (show St w W16 [(gw, mergeZ keepT b c), (gj, mergeZ joinT b c), (ga, a), (gb, b), (gc, c)] from (S15.out.up hB))
    clear hB S15
    go_wp2_with fail
    go_at_call 24
    refine (Within_law _ gc gw c (mergeZ keepT b c) (S16.out.2 (gc, c) (by simp)) (S16.out.2 (gw, mergeZ keepT b c) (by simp))).mono ?_
    rintro e W17 ⟨rfl, hB⟩
    rw [inZB_true.mpr (inZ_keep2 b c OKc.out)]
    have S17 := Lib.hid (show St w W17 [(gw, mergeZ keepT b c), (gj, mergeZ joinT b c), (ga, a), (gb, b), (gc, c)] from (S16.out.up hB))
    clear hB S16
    go_wp2_with fail
    go_at_call 24
    refine (Within_law _ gj gw (mergeZ joinT b c) (mergeZ keepT b c) (S17.out.2 (gj, mergeZ joinT b c) (by simp)) (S17.out.2 (gw, mergeZ keepT b c) (by simp))).mono ?_
    rintro e W18 ⟨rfl, hB⟩
    rw [inZB_true.mpr (inZ_join_keep b c OKb.out OKc.out)]
    have S18 := Lib.hid (show St w W18 [(gw, mergeZ keepT b c), (gj, mergeZ joinT b c), (ga, a), (gb, b), (gc, c)] from (S17.out.up hB))
    clear hB S17
    go_upto_region 14 with (fail)
    go_cut [143] (fun s wx => s = .bool false ∧ St w wx [(gw, mergeZ keepT b c), (gj, mergeZ joinT b c), (ga, a), (gb, b), (gc, c)])
    case first =>
      cases q1 : inZB c a <;> cases q2 : inZB b c
      · go_wp2_with fail
        go_at_call 24
        refine (Within_law _ gc ga c a (S18.out.2 (gc, c) (by simp)) (S18.out.2 (ga, a) (by simp))).mono ?_
        rintro e W19 ⟨rfl, hB⟩
        rw [q1]
        have S19 := Lib.hid (show St w W19 [(gw, mergeZ keepT b c), (gj, mergeZ joinT b c), (ga, a), (gb, b), (gc, c)] from (S18.out.up hB))
        clear hB S18
        go_wp2_with fail
        go_at_call 24
        refine (Within_law _ gb gc b c (S19.out.2 (gb, b) (by simp)) (S19.out.2 (gc, c) (by simp))).mono ?_
        rintro e W20 ⟨rfl, hB⟩
        rw [q2]
        have S20 := Lib.hid (show St w W20 [(gw, mergeZ keepT b c), (gj, mergeZ joinT b c), (ga, a), (gb, b), (gc, c)] from (S19.out.up hB))
        clear hB S19
        go_wp2_with fail
        go_meet
        case rel => exact ⟨rfl, S20.out⟩
      · go_wp2_with fail
        go_at_call 24
        refine (Within_law _ gc ga c a (S18.out.2 (gc, c) (by simp)) (S18.out.2 (ga, a) (by simp))).mono ?_
        rintro e W19 ⟨rfl, hB⟩
        rw [q1]
        have S19 := Lib.hid (show St w W19 [(gw, mergeZ keepT b c), (gj, mergeZ joinT b c), (ga, a), (gb, b), (gc, c)] from (S18.out.up hB))
        clear hB S18
        go_wp2_with fail
        go_at_call 24
        refine (Within_law _ gb gc b c (S19.out.2 (gb, b) (by simp)) (S19.out.2 (gc, c) (by simp))).mono ?_
        rintro e W20 ⟨rfl, hB⟩
        rw [q2]
        have S20 := Lib.hid (show St w W20 [(gw, mergeZ keepT b c), (gj, mergeZ joinT b c), (ga, a), (gb, b), (gc, c)] from (S19.out.up hB))
        clear hB S19
        go_wp2_with fail
        go_at_call 38
        refine (Same_law _ gj gc (mergeZ joinT b c) c (S20.out.2 (gj, mergeZ joinT b c) (by simp)) (S20.out.2 (gc, c) (by simp))).mono ?_
        rintro e W21 ⟨rfl, hB⟩
        rw [same_join (inZB_true.mp q2)]
        have S21 := Lib.hid (show St w W21 [(gw, mergeZ keepT b c), (gj, mergeZ joinT b c), (ga, a), (gb, b), (gc, c)] from (S20.out.up hB))
        clear hB S20
        go_wp2_with fail
        go_meet
        case rel => exact ⟨rfl, S21.out⟩
      · go_wp2_with fail
        go_at_call 24
        refine (Within_law _ gc ga c a (S18.out.2 (gc, c) (by simp)) (S18.out.2 (ga, a) (by simp))).mono ?_
        rintro e W19 ⟨rfl, hB⟩
        rw [q1]
        have S19 := Lib.hid (show St w W19 [(gw, mergeZ keepT b c), (gj, mergeZ joinT b c), (ga, a), (gb, b), (gc, c)] from (S18.out.up hB))
        clear hB S18
        go_wp2_with fail
        go_at_call 24
        refine (Within_law _ gj ga (mergeZ joinT b c) a (S19.out.2 (gj, mergeZ joinT b c) (by simp)) (S19.out.2 (ga, a) (by simp))).mono ?_
        rintro e W20 ⟨rfl, hB⟩
        rw [inZB_true.mpr (inZ_join_of HBA.out (inZB_true.mp q1))]
        have S20 := Lib.hid (show St w W20 [(gw, mergeZ keepT b c), (gj, mergeZ joinT b c), (ga, a), (gb, b), (gc, c)] from (S19.out.up hB))
        clear hB S19
        go_wp2_with fail
        go_at_call 24
        refine (Within_law _ gb gc b c (S20.out.2 (gb, b) (by simp)) (S20.out.2 (gc, c) (by simp))).mono ?_
        rintro e W21 ⟨rfl, hB⟩
        rw [q2]
        have S21 := Lib.hid (show St w W21 [(gw, mergeZ keepT b c), (gj, mergeZ joinT b c), (ga, a), (gb, b), (gc, c)] from (S20.out.up hB))
        clear hB S20
        go_wp2_with fail
        go_meet
        case rel => exact ⟨rfl, S21.out⟩
      · go_wp2_with fail
        go_at_call 24
        refine (Within_law _ gc ga c a (S18.out.2 (gc, c) (by simp)) (S18.out.2 (ga, a) (by simp))).mono ?_
        rintro e W19 ⟨rfl, hB⟩
        rw [q1]
        have S19 := Lib.hid (show St w W19 [(gw, mergeZ keepT b c), (gj, mergeZ joinT b c), (ga, a), (gb, b), (gc, c)] from (S18.out.up hB))
        clear hB S18
        go_wp2_with fail
        go_at_call 24
        refine (Within_law _ gj ga (mergeZ joinT b c) a (S19.out.2 (gj, mergeZ joinT b c) (by simp)) (S19.out.2 (ga, a) (by simp))).mono ?_
        rintro e W20 ⟨rfl, hB⟩
        rw [inZB_true.mpr (inZ_join_of HBA.out (inZB_true.mp q1))]
        have S20 := Lib.hid (show St w W20 [(gw, mergeZ keepT b c), (gj, mergeZ joinT b c), (ga, a), (gb, b), (gc, c)] from (S19.out.up hB))
        clear hB S19
        go_wp2_with fail
        go_at_call 24
        refine (Within_law _ gb gc b c (S20.out.2 (gb, b) (by simp)) (S20.out.2 (gc, c) (by simp))).mono ?_
        rintro e W21 ⟨rfl, hB⟩
        rw [q2]
        have S21 := Lib.hid (show St w W21 [(gw, mergeZ keepT b c), (gj, mergeZ joinT b c), (ga, a), (gb, b), (gc, c)] from (S20.out.up hB))
        clear hB S20
        go_wp2_with fail
        go_at_call 38
        refine (Same_law _ gj gc (mergeZ joinT b c) c (S21.out.2 (gj, mergeZ joinT b c) (by simp)) (S21.out.2 (gc, c) (by simp))).mono ?_
        rintro e W22 ⟨rfl, hB⟩
        rw [same_join (inZB_true.mp q2)]
        have S22 := Lib.hid (show St w W22 [(gw, mergeZ keepT b c), (gj, mergeZ joinT b c), (ga, a), (gb, b), (gc, c)] from (S21.out.up hB))
        clear hB S21
        go_wp2_with fail
        go_meet
        case rel => exact ⟨rfl, S22.out⟩
    case rest =>
      obtain ⟨rfl, hS⟩ := hcut
      have S19 := Lib.hid hS
      clear hS S18
      go_wp2_with fail
      go_at_call 13
      refine (awake_any _).mono ?_
      rintro e W20 ⟨rfl, hB⟩
      have S20 := Lib.hid (show St w W20 [(gw, mergeZ keepT b c), (gj, mergeZ joinT b c), (ga, a), (gb, b), (gc, c)] from (S19.out.up hB))
      clear hB S19
      go_wp2_with fail
      go_ret
      exact ⟨rfl, S20.out.1⟩
theorem zoneOrdered_walk (w : World) (A0 : Option Addr) (n0 c0 : Nat) (L0 : List Con) (i0 : ConIn w A0 n0 c0 L0) (A1 : Option Addr) (n1 c1 : Nat) (L1 : List Con) (i1 : ConIn w A1 n1 c1 L1) (A2 : Option Addr) (n2 c2 : Nat) (L2 : List Con) (i2 : ConIn w A2 n2 c2 L2) :
    Calls Try.prog 9 #[.slice A0 n0 c0, .slice A1 n1 c1, .slice A2 n2 c2] w (True_ w) := by
  by_cases h0 : wrongL L0 = 0
  · by_cases h1 : wrongL L1 = 0
    · by_cases h2 : wrongL L2 = 0
      · exact zoneOrdered_ok w A0 n0 c0 L0 i0 A1 n1 c1 L1 i1 A2 n2 c2 L2 i2 h0 h1 h2
      · exact zoneOrdered_bad2 w A0 n0 c0 L0 i0 A1 n1 c1 L1 i1 A2 n2 c2 L2 i2 h0 h1 h2
    · exact zoneOrdered_bad1 w A0 n0 c0 L0 i0 A1 n1 c1 L1 i1 A2 n2 c2 L2 i2 h0 h1
  · exact zoneOrdered_bad0 w A0 n0 c0 L0 i0 A1 n1 c1 L1 i1 A2 n2 c2 L2 i2 h0
end Go.Proofs.YtilofjbobmeniaaR
